import PyProof.Rows.All
import Wide.All
import OpenK.AllK
import Wide.FinOn
import HandS.ForMost
import HandS.Star
import HandS.Property
import HandS.OwnEq
import HandS.Wide
import HandS.WideBits
import HandS.Flow
import HandS.Defaults
import HandS.MakeKw
import HandS.MapObj
import HandS.SetFor
import PyProof.Rows.CountFlat
import HandS.Iter
import HandS.Walk
import KE.KDictWalk
import HandS.ListEq
import HandS.More
import HandS.IsInst
import HandS.Text
import HandS.Small
import HandS.Zip
import HandS.Dict
import HandS.Strs
import HandS.SetKeys
import KE.KUnpackStar
import HandS.Conv
import HandS.NoneIn
import PyProof.TupleKey
import PyProof.DictRoadsH
import PyProof.DictKinds
import HandS.StrMore
import HandS.Style
import HandS.ClsMeth
import HandS.FStr
import PyProof.Rows.EqNone
import PySem.Challenge.RW_squareloops_k09_nests_and_programs_equal
set_option Elab.async false
set_option maxRecDepth 100000
set_option maxHeartbeats 16000000
namespace Sq
open PySem L2 PySem.Spec PyProof.Rows

/-- a promise that is kept where no repr is under way -/
def FnG (P : Program) (w : World) (K : PySem.W.Frag) (mg : Str → Option Value) (base : Heap) (k : Nat) (f : Addr) (sp : Sp) : Prop :=
  ∀ (A : Around) (fr : List Env) (s : Shared) (H : Hp) (us : List Value) (vs : List V) (Q : VK), A.guards = some [] → Room k A →
    Env0 P w K mg base A fr s H → Vals vs us → sp vs H Q E0 → codeAny (model P w) A (.call (.ref f) ⟨us, []⟩) (CR CX0 fr P w H s Q E0) s

section
variable {P : Program} {w : World} {K : PySem.W.Frag} {mg : Str → Option Value} {base : Heap} {k : Nat} {f : Addr} {fd : FuncData} {sp : Sp} {x qual : Str} {st : Stmt} {N ps : List Str}

theorem FnG.of (F : Fun K x qual st f fd) (S : FnScope N ps (defScope st)) (b : Binds K fd ps []) (len : ∀ vs H Q, sp vs H Q E0 → vs.length = ps.length)
    (hbody : ∀ (cdv : Value) (A : Around) (fr : List Env) (s : Shared) (H : Hp) (vs : List V) (Q : VK),
      (A.deeper (envOfC qual (defScope st) s.heap.objs.size f cdv)).guards = some [] →
      Room k (A.deeper (envOfC qual (defScope st) s.heap.objs.size f cdv)) → sp vs H Q E0 →
      ∃ t, PSs (cxOf CX0 P w K mg base N qual (defScope st) f cdv A fr s H E0).nox (defBody st) t ∧
        t { nx := fun _ H' => Q .non H', rt := Q } (L2.start N vs) H) : FnG P w K mg base (k + 1) f sp := by
  intro A fr s H us vs Q hg hr e0 r hs
  obtain ⟨oc, od, kV, doc, pm, an, cdv, ct, osl, rfl, lk, hcd⟩ := F.ex
  have hin : K.In s.heap := e0.mod.kin.keeps fun b o e => (e0.bs b o e).1
  have hl : vs.length = ps.length := len vs H Q hs
  have hu : (us ++ []).length = ps.length := by
    rw [List.append_nil, ← r.length]
    exact hl
  refine StX.run_bnd lk hcd S hr e0 (G := fun vs' H2 => vs' = vs ∧ H2 = H) (fun A' Ex Q' h => ?_) fun s2 H2 vs' hv hr' => ?_
  · have z := b s us hin hu
    rw [List.append_nil] at z
    exact z (model P w) A' Ex Q' (h s H vs us e0 Un.refl rfl (fun _ _ q => q) r hl ⟨rfl, rfl⟩)
  · obtain ⟨e1, e2⟩ := hv
    subst e1 e2
    obtain ⟨t, ht, q⟩ := hbody cdv A fr s2 _ _ Q hg hr' hs
    exact ⟨t, ht.nox, q⟩
theorem FnG.ofR (F : FnR P w K mg base CX0 k f sp) : FnG P w K mg base k f sp := fun A fr s H us vs Q _ hr e0 r h => F A fr s H us vs Q E0 hr e0 r h
end

section
variable {X : Cx} {k : Nat} {f : Addr} {sp : Sp} {x : Str} {p pos : Pos} {e : Expr} {es : List Expr} {t : TA}
theorem run_fnG {pins : List (Addr × Obj)} {σ : L2.St} {H : Hp} {s : Shared} {Q : VK} {us : List Value} {vs : List V} (F : FnG X.prog X.w X.K X.mg X.base k f sp)
    (hg : X.A.guards = some []) (hr : Room k X.A) (I : Inv X pins σ H s) (r : Vals vs us) (h : sp vs H Q E0) :
    wpAny (model X.prog X.w) X.A (call (.ref f) us) (EP X pins σ Q) X.xe s := by
  refine wpAny_call (codeAny_mono (F X.A X.stack s H us vs Q hg hr I.env0 r h) fun z s' hz => ?_)
  match z, hz with
  | .error _, hz => exact False.elim hz
  | .ok (.ret _), hz => exact I.after hz
  | .ok .next, hz => exact False.elim hz
  | .ok .brk, hz => exact False.elim hz
  | .ok .cont, hz => exact False.elim hz
def tCallG (sp : Sp) (t : TA) : TE := fun σ H Q => t σ H fun vs H1 => sp vs H1 Q E0
/-- f(e, ..) by such a promise -/
theorem pe_callG (F : FnG X.prog X.w X.K X.mg X.base k f sp) (hg : X.A.guards = some []) (hr : Room k X.A) (hgl : Gl X x) (hm : X.mg x = some (.ref f))
    (hk : PySem.W.keepIn X.K (.ref f) = true) (ha : PA X (e :: es) t) (hdb : (x == ("__debug__" : Str)) = false := by decide)
    (he : starEach (e :: es) X.env = (false, eval e X.env) :: starEach es X.env := by rfl)
    (hpl : (backTo pos (starEach es X.env)).any (·.1) = false := by rfl) : PE X (.Call (.Name x p) (e :: es) [] pos) (tCallG sp t) := by
  constructor
  intro pins s σ H Q I h
  apply wpAny_Call_Name_kw
  refine ld_glob I hgl hm (PySem.W.callWith_K (h₀ := X.base) I.ok.mod.kin hk ?_ he hpl) hdb
  refine thn (ha.run pos pins s σ H _ I h) ?_
  rintro us s1 ⟨vs, H1, I1, r, q⟩
  exact ⟨I1.kIn, run_fnG F hg hr I1 r q⟩

/-- repr of data: what is shown, exactly -/
def rRepr (K : PySem.W.Frag) : List V → Hp → VK → Prop := fun xs H Q => ∃ (a : Addr) (d : PyData), xs = [.ref a] ∧ Dp K H (.ref a) d ∧ d.showable = true ∧ d.hasDict = false ∧ d.depth ≤ 20 ∧ d.shown.length ≤ sizeLine ∧ Q (.str d.shown) H
theorem call_repr (hg : X.A.guards = some []) (hr : Room k X.A) : CallR X (.builtin "repr") (rRepr X.K) := by
  intro pins s σ H xs us Q I r h
  obtain ⟨a, d, rfl, hd, h1, h2, h3, h4, q⟩ := h
  obtain ⟨u, rfl, r1⟩ := vals1 r
  obtain ⟨as, rd⟩ := Dp.reads I d _ u hd r1
  cases r1
  have hu := hr.units
  refine repr_of_reads' rd h1 (fun z => by rw [h2] at z; cases z) hg (by omega) (fun _ _ z => z) (fun h' u' tk kp => ?_) h4
  exact ⟨.str d.shown, H, I.kept kp, ⟨u', rfl⟩, q⟩
end
end Sq
namespace Sq
open PySem L2 PySem.Spec PyProof.Rows

section
variable {P : Program} {w : World} {K : PySem.W.Frag} {mg mb : Str → Option Value} {k : Nat} {fa a : Addr} {sp : Sp} {s1 : Shared} {vs : List Value} {ns : List Int}
/-- the law's own call, from such a promise of it, over one abstract heap -/
theorem end_core (KX : K.In s1.heap) (hns : s1.heap.Ns mainGlobals mg) (hb : s1.heap.Ns builtinsNs mb) (hbb : ∀ x : Str, x ≠ "__name__" → mb x = bootBuiltins x)
    (hlim : s1.heap.NoLimit) (hg : s1.gens = #[]) (ha : s1.heap.get? a = some { cls := .type "list", data := .seq vs.toArray }) (hr : Room k callerA)
    (F : ∀ base : Heap, K.In base → base.Ns mainGlobals mg → FnG P w K mg base k fa sp)
    (H : Hp) (hO : Only H) (hsp : sp [.ref a] H (fun v _ => v = .bl true) E0) (hok : HOk P w H s1.heap) (hA : ∀ b, H b ≠ none → b = a) (hK : H a ≠ none → K.lookup a = none) :
    codeAny (model P w) callerA (.call (.ref fa) ⟨[.ref a], []⟩) (fun r s' => r = .ok (.ret (.bool true)) ∧ OldK s1.heap s'.heap ∧ s'.os = s1.os ∧ AllBare s'.gens) s1 := by
  have free : ∀ {b : Addr} {o : Obj}, s1.heap.get? b = some o → o ≠ { cls := .type "list", data := .seq vs.toArray } → H b = none := by
    intro b o e n
    refine Classical.byContradiction fun q => n ?_
    have eb := hA b q
    rw [eb, ha] at e
    exact (Option.some.inj e).symm
  have ns1 : ∀ {b : Addr} {m : Str → Option Value}, s1.heap.Ns b m → (hidT s1.heap H).Ns b m := by
    rintro b m ⟨o, es, ep, e, d, r⟩
    refine ⟨o, es, ep, hidT_get e (free e fun q => ?_), d, r⟩
    rw [q] at d
    cases d
  have kin : K.In (hidT s1.heap H) := by
    intro b o e
    refine hidT_get (KX b o e) (Classical.byContradiction fun q => ?_)
    have eb := hA b q
    rw [eb] at e q
    rw [hK q] at e
    cases e
  have md : Mod K mg (hidT s1.heap H) := by
    obtain ⟨mc, h1, h2⟩ := hlim
    exact ⟨kin, ns1 hns, ⟨mb, ns1 hb, hbb⟩, ⟨mc, ns1 h1, h2⟩⟩
  have e0 : Env0 P w K mg (hidT s1.heap H) callerA [] s1 H :=
    { frames := rfl, mod := md, bs := fun b o e => of_hidT e, bsz := Nat.le_of_eq (hidT_size _ _), funs := trivial, frf := fun b hb => (by cases hb), hok := hok, bare := .of_eq hg }
  have run := F _ kin (ns1 hns) callerA [] s1 H [.ref a] [.ref a] (fun v _ => v = .bl true) rfl hr e0 (.cons rfl .nil) hsp
  refine codeAny_mono run fun r s' h => ?_
  match r, h with
  | .error _, h => exact False.elim h
  | .ok .next, h => exact False.elim h
  | .ok .brk, h => exact False.elim h
  | .ok .cont, h => exact False.elim h
  | .ok (.ret u), h =>
    obtain ⟨v, H', os, bare, un, hok', r', q⟩ := h
    cases (show v = .bl true from q)
    cases (show u = Value.bool true from r')
    refine ⟨rfl, OldK.of_keep fun b o e => ?_, os, bare⟩
    rcases hO b with z | ⟨ob, xs, z⟩
    · exact un.keep b o e z (fun q => by cases q) (fun q => by cases q)
    · have e1 := (hok b _ z).1
      have e2 := (hok' b _ (un.frzs b ob _ z)).1
      exact e2.trans (e1.symm.trans e)

theorem end_call (KX : K.In s1.heap) (hns : s1.heap.Ns mainGlobals mg) (hb : s1.heap.Ns builtinsNs mb) (hbb : ∀ x : Str, x ≠ "__name__" → mb x = bootBuiltins x)
    (hlim : s1.heap.NoLimit) (hg : s1.gens = #[]) (ha : s1.heap.get? a = some { cls := .type "list", data := .seq vs.toArray }) (hi : IntsAre vs ns) (hl : ns.length ≤ sizeLine)
    (hr : Room k callerA) (F : ∀ base : Heap, K.In base → base.Ns mainGlobals mg → FnG P w K mg base k fa sp)
    (hsp : ∀ H : Hp, Only H → SqL K H a (ns.map V.int) → sp [.ref a] H (fun v _ => v = .bl true) E0) :
    codeAny (model P w) callerA (.call (.ref fa) ⟨[.ref a], []⟩) (fun r s' => r = .ok (.ret (.bool true)) ∧ OldK s1.heap s'.heap ∧ s'.os = s1.os ∧ AllBare s'.gens) s1 := by
  have rv := vals_ints hi
  have ez : vs.toArray.size ≤ sizeLine := by
    rw [List.size_toArray, hi.length]
    exact hl
  by_cases hk : K.lookup a = none
  · let H : Hp := fun b => if b = a then some (.frz { cls := .type "list", data := .seq vs.toArray } (.lst (ns.map V.int))) else none
    have at_a : H a = some (.frz { cls := .type "list", data := .seq vs.toArray } (.lst (ns.map V.int))) := if_pos rfl
    have off : ∀ {b : Addr}, b ≠ a → H b = none := fun q => if_neg q
    have only : Only H := fun b => by
      by_cases q : b = a
      · exact .inr ⟨_, _, q ▸ at_a⟩
      · exact .inl (off q)
    refine end_core KX hns hb hbb hlim hg ha hr F H only (hsp H only (.inl (.inr ⟨_, at_a⟩))) (fun b u z => ?_) (fun b z => Classical.byContradiction fun q => z (off q)) fun _ => hk
    by_cases q : b = a
    · subst q
      cases at_a.symm.trans z
      exact ⟨ha, by rw [List.length_map]; exact hl, vs, _, rv, ha⟩
    · cases (off q).symm.trans z
  · obtain ⟨o, ho⟩ := Option.ne_none_iff_exists'.mp hk
    have e := (KX a o ho).symm.trans ha
    cases e
    refine end_core KX hns hb hbb hlim hg ha hr F (fun _ => none) (fun _ => .inl rfl) (hsp _ (fun _ => .inl rfl) (.inr ⟨_, vs.toArray, _, ho, rfl, rfl, rfl, ez, by simpa using rv⟩)) (fun b u z => by cases z) (fun b z => absurd rfl z) fun z => absurd rfl z
end

/-- the goal that k_head leaves, from such a promise of the law -/
theorem walkG {l : PySem.W.OpenLaw} {n k : Nat} {q : Program} {loose : List Str} {XP : (Str → Option Value) → Heap → Prop} {YP : World → Heap → Prop} {d : DefRec} {K : Params → PySem.W.Frag} {sp : PySem.W.Frag → Sp}
    (hn : l.most = some n) (hn2 : n ≤ sizeLine) (hdf : d.params.defaults = []) (hr : Room k callerA) (hY : ∀ (w : World) (h : Heap), YP w h → (K w.params).In h)
    (F : ∀ (w : World) (mg : Str → Option Value) (fa : Addr) (h : Heap), (K w.params).In h → h.Ns mainGlobals mg → mg d.name = some (.ref fa) →
      ∀ base : Heap, (K w.params).In base → base.Ns mainGlobals mg → FnG l.prog w (K w.params) mg base k fa (sp (K w.params)))
    (hsp : ∀ (K : PySem.W.Frag) (H : Hp) (a : Addr) (ns : List Int), ns.length ≤ n → Only H → SqL K H a (ns.map V.int) → sp K [.ref a] H (fun v _ => v = .bl true) E0) :
    PySem.W.WalkO q loose XP YP l.row.toRowW d [] (fun f vs => PySem.call f vs) := by
  refine Att.attach_call hn hdf ?_
  intro w s0 s1 mg mb fa o pm cd doc a vs ns G Y _ _ _ hmg hobj hints hlen hg
  have KX := hY w _ Y
  exact end_call KX G.T.g G.T.b G.T.builtins G.T.nolimit hg hobj hints (Nat.le_trans hlen hn2) hr (F w mg fa _ KX G.T.g hmg) fun H hO hS => hsp _ H a ns hlen hO hS
end Sq
namespace Sq
open PySem L2 PySem.Spec PyProof.Rows
section
variable {prog : Program} {w : World}
theorem meets_boolO (a : Addr) : MeetsIn prog w (Builtin.«bool.__new__» ⟨[.type "bool", .ref a], []⟩)
    (fun A R s => wpAny (model prog w) A.in1 (truthy (.ref a)) (fun b s1 => R (.ok (.ret (.bool b))) s1) (fun e s1 => R (.error e) s1) s) :=
  MeetsIn.of_wp fun A R s h => by
    have f1 := F.conv_sub_bool
    unfold Builtin.«bool.__new__»
    repeat (any_goals (first | assumption | (with_reducible refine wpAny_bind (wpAny_mono h (fun b s1 hb => ?_) fun _ _ z => z)) | wp_step))
    all_goals exact ⟨_, rfl, hb⟩
end
theorem rel1 (a : Addr) : Vals [V.ref a] [Value.ref a] := .cons rfl .nil
theorem rel2 (a b : Addr) : Vals [V.ref a, V.ref b] [Value.ref a, Value.ref b] := .cons rfl (.cons rfl .nil)
section
variable {X : Cx} {k : Nat} {f C : Addr} {sp : Sp}
/-- a def of the text run below the body -/
theorem run_below {A : Around} {pins : List (Addr × Obj)} {σ : L2.St} {H : Hp} {s : Shared} {Q : VK} {us : List Value} {vs : List V} {E : Value → Shared → Prop} (F : FnR X.prog X.w X.K X.mg X.base CX0 k f sp)
    (hr : Room k A) (fr : A.frames = X.A.frames) (I : Inv X pins σ H s) (r : Vals vs us) (h : sp vs H Q E0) :
    wpAny (model X.prog X.w) A (call (.ref f) us) (EP X pins σ Q) E s := by
  have e := I.env0
  have e1 : Env0 X.prog X.w X.K X.mg X.base A X.stack s H := { frames := fr.trans e.frames, mod := e.mod, bs := e.bs, bsz := e.bsz, funs := e.funs, frf := e.frf, hok := e.hok, bare := e.bare }
  refine wpAny_call (codeAny_mono (F A X.stack s H us vs Q E0 hr e1 r h) fun z s' hz => ?_)
  match z, hz with
  | .error _, hz => exact False.elim hz
  | .ok (.ret _), hz => exact I.after hz
  | .ok .next, hz => exact False.elim hz
  | .ok .brk, hz => exact False.elim hz
  | .ok .cont, hz => exact False.elim hz
/-- bool(o), o an instance of a class of the text that has a __bool__ -/
theorem call_boolO (hs : PySem.W.findIn X.K (.ref C) "__bool__" = some (some (.ref f))) (hf : PySem.W.isFn X.K (.ref f) = true) (F : FnR X.prog X.w X.K X.mg X.base CX0 k f sp) (hr : Room (k + 2) X.A) :
    CallR X (.type "bool") (fun xs H Q => ∃ a dx fs, xs = [.ref a] ∧ H a = some (.ins C dx fs) ∧ sp [.ref a] H (fun v H' => ∃ b, v = .bl b ∧ Q (.bl b) H') E0) := by
  intro pins s σ H xs us Q I r h
  obtain ⟨a, dx, fs, rfl, ha, q⟩ := h
  obtain ⟨u, rfl, r1⟩ := vals1 r
  cases r1
  obtain ⟨mA, J, _⟩ := ins_get I.hok ha
  obtain ⟨od, J, _⟩ := J.look
  obtain ⟨m, hF⟩ := I.fr
  refine callType_newIn PySem.F.called_bool PySem.F.newNe_bool (PySem.F.typeCall_bool_1 _) (PySem.F.newCall_bool_1 _) (fun obj => PySem.F.args_object_init_2 obj _) PySem.F.entry_bool_new (meets_boolO a) ?_
  show wpAny (model X.prog X.w) X.A.in1.in1 (truthy (.ref a)) _ _ s
  refine PySem.W.truthy_K hF I.ok.mod.kin J hs hf ?_
  refine wpAny_mono (run_below F hr.in1.in1 rfl I (rel1 a) q) (fun v s' hv => ?_) fun _ _ z => z
  obtain ⟨y, H', I', ry, b, ey, q'⟩ := hv
  subst ey
  cases ry
  exact ⟨PySem.typeIs_bool _ _, ⟨.bl b, H', I', rfl, q'⟩⟩

def rOwn2 (C : Addr) (sp : Sp) (g : Bool → Bool) : R2 := fun x y H Q => ∃ a b dx dy fs gs, x = .ref a ∧ y = .ref b ∧ H a = some (.ins C dx fs) ∧ H b = some (.ins C dy gs) ∧
  sp [.ref a, .ref b] H (fun v H' => ∃ r, v = .bl r ∧ Q (.bl (g r)) H') E0
/-- a == b, both instances of a class of the text with an __eq__ -/
theorem op_eqO (hs : PySem.W.findIn X.K (.ref C) "__eq__" = some (some (.ref f))) (hf : PySem.W.isFn X.K (.ref f) = true) (F : FnR X.prog X.w X.K X.mg X.base CX0 k f sp) (hr : Room k X.A) :
    OpR X (compareOp .Eq) (rOwn2 C sp id) := by
  intro pins s σ H x y v u Q I rx ry h
  obtain ⟨a, b, dx, dy, fs, gs, rfl, rfl, ha, hb, q⟩ := h
  cases rx
  cases ry
  obtain ⟨mA, J, _⟩ := ins_get I.hok ha
  obtain ⟨mB, J', _⟩ := ins_get I.hok hb
  obtain ⟨od, J, _⟩ := J.look
  obtain ⟨od', J', _⟩ := J'.look
  obtain ⟨m, hF⟩ := I.fr
  show wpAny (model X.prog X.w) X.A (richCompare .Eq (.ref a) (.ref b)) _ _ s
  refine PySem.W.cmp_K (op := .Eq) (tb := .ref C) hr.units0 hF I.ok.mod.kin J J'.type (by simp [PySem.W.notFirst]) hs hf ?_
  refine wpAny_mono (run_below F hr rfl I (rel2 a b) q) (fun v s' hv => ?_) fun _ _ z => z
  obtain ⟨y, H', I', ry, r, ey, q'⟩ := hv
  subst ey
  cases ry
  exact ⟨.bl r, H', I', rfl, q'⟩
end
section
variable {M : Model} {A : Around} {E : Value → Shared → Prop} {s : Shared} {K : PySem.W.Frag} {x C : Addr} {ox : Obj} {od : Option Obj}
/-- a method of object's own that a class of the text inherits -/
theorem ifBound_obj {name : Str} {id : String} {args : List Value} {Q : Option Value → Shared → Prop} (S : Slot "object" name id) (X : K.In s.heap) (I : PySem.W.InstAt s.heap x ox C od)
    (hs : PySem.W.findIn K (.ref C) name = some (some (.builtin id))) (h : wpAny M A (call (.builtin id) (.ref x :: args)) (fun v => Q (some v)) E s) :
    wpAny M A (callSpecialIfBound? (.ref x) name args) Q E s := by
  simp only [callSpecialIfBound?, bindSpecialIfBound?]
  refine wpAny_holding (wpAny_bind (wpAny_bind (wpAny_bind (I.type.here ((PySem.W.looks_findIn X hs).here ?_)))))
  simp only [S.bind]
  refine wpAny_bind (wpAny_askSetting (wpAny_ite ?_))
  have go : wpAny M A (call (.builtin id) ([.ref x] ++ args) >>= fun v => pure (some v)) Q E s := wpAny_bind (wpAny_mono h (fun _ _ q => wpAny_pure q) fun _ _ q => q)
  split
  · exact wpAny_bind (wpAny_pure (wpAny_pure go))
  · exact wpAny_tryCatch (wpAny_bind (wpAny_pure (wpAny_pure go)))
end
section
variable {prog : Program} {w : World} {A : Around} {E : Value → Shared → Prop} {s : Shared} {K : PySem.W.Frag} {x C : Addr} {ox : Obj} {od : Option Obj}
theorem checked_ne {y : Value} {Q : Unit → Shared → Prop} (X : K.In s.heap) (I : PySem.W.InstAt s.heap x ox C od) (ho : PySem.W.subIn K (.ref C) (.type "object") = some true) (h : Q () s) :
    wpAny (model prog w) A (checkBuiltinCall "object.__ne__" ⟨[.ref x, y], []⟩) Q E s := by
  simp only [checkBuiltinCall, F.cmpKind_ne, F.cmpSplit_ne]
  unfold isInstance
  refine wpAny_bind (wpAny_bind (I.type.here ((PySem.W.looks_subIn X ho).here ?_)))
  have z := F.cmpArgs_ne (.ref x) y
  cases hsig : Manifest.signature? "object.__ne__" with
  | none => exact wpAny_pure h
  | some sig =>
    simp only [argsOk, hsig] at z
    have z2 : Bind.checkArgs "object.__ne__" sig ⟨[.ref x, y], []⟩ = pure () := z
    show wpAny _ A (Bind.checkArgs "object.__ne__" sig ⟨[.ref x, y], []⟩) Q E s
    rw [z2]
    exact wpAny_pure h
theorem ne_entry {f : Addr} {y : Value} {Q : PySem.Fin → Shared → Prop} (hu : A.units < cLine) (X : K.In s.heap) (I : PySem.W.InstAt s.heap x ox C od) (hs : PySem.W.findIn K (.ref C) "__eq__" = some (some (.ref f)))
    (hf : PySem.W.isFn K (.ref f) = true) (h : wpAny (model prog w) A (call (.ref f) [.ref x, y]) (fun v s' => ∃ b, v = .bool b ∧ Q (.done (.ret (.bool (!b)))) s') E s) :
    wpAny (model prog w) A (Builtin.«object.__ne__» ⟨[.ref x, y], []⟩) Q E s := by
  unfold Builtin.«object.__ne__»
  repeat (first
    | with_reducible refine wpAny_cRoomFor hu ?_
    | (refine wpAny_bind (m := callSpecialIfBound? (.ref x) (Str.ofString "__eq__") [y])
        (PySem.W.ifBound_K X I hs hf (wpAny_mono h (fun r s' hr => by
          obtain ⟨b, rfl, hq⟩ := hr
          repeat (first | exact hq | exact wpAny_pure hq | (refine wpAny_bind (m := truthy (.bool _)) (wpAny_truthy_bool ?_)) | wp_step)) fun _ _ e => e)))
    | wp_step)
theorem rich_ne {f b : Addr} {Q : Value → Shared → Prop} (hu : A.units + 1 < cLine) (X : K.In s.heap) (I : PySem.W.InstAt s.heap x ox C od) (hb : PySem.W.Looks (model prog w) s.heap (typeOf (.ref b)) (.ref C))
    (hn : PySem.W.findIn K (.ref C) "__ne__" = some (some (.builtin "object.__ne__"))) (ho : PySem.W.subIn K (.ref C) (.type "object") = some true)
    (hs : PySem.W.findIn K (.ref C) "__eq__" = some (some (.ref f))) (hf : PySem.W.isFn K (.ref f) = true)
    (h : wpAny (model prog w) A.in1 (call (.ref f) [.ref x, .ref b]) (fun v s' => ∃ r, v = .bool r ∧ Q (.bool (!r)) s') E s) :
    wpAny (model prog w) A (richCompare .NotEq (.ref x) (.ref b)) Q E s := by
  have one : wpAny (model prog w) A (tryCompare (.ref x) "__ne__" (.ref b)) (fun r s' => ∃ z, r = some (.bool z) ∧ Q (.bool z) s') E s := by
    unfold tryCompare
    refine wpAny_bind (ifBound_obj F.cmp_object.ne X I hn (wpAny_call (codeAny_call_builtin F.cmp_object.ne.plain F.cmpEntry_ne (checked_ne X I ho (ne_entry (A := A.in1) hu X I hs hf (wpAny_mono h (fun v s' hv => ?_) fun _ _ z => z))))))
    obtain ⟨r, rfl, q⟩ := hv
    exact ⟨r, rfl, wpAny_pure ⟨_, rfl, q⟩⟩
  unfold richCompare
  simp only [PySem.oneThing_ref]
  refine wpAny_holding (wpAny_bind (wpAny_cRoomFor (Nat.lt_of_succ_lt hu) ?_))
  rw [cmpInfo_NotEq]
  dsimp only
  refine wpAny_bind (I.type.here (wpAny_bind (hb.here ?_)))
  rw [show (Value.ref C != Value.ref C) = false from by simp]
  simp only [Bool.false_eq_true, if_false]
  refine wpAny_bind (wpAny_pure ?_)
  simp only [Bool.false_eq_true, if_false]
  refine wpAny_bind (wpAny_mono one (fun r s' hz => ?_) fun _ _ z => z)
  obtain ⟨z, rfl, q⟩ := hz
  exact wpAny_pure q
end
section
variable {X : Cx} {k : Nat} {f C : Addr} {sp : Sp}
/-- a != b, by the text's __eq__ alone -/
theorem op_neO (hn : PySem.W.findIn X.K (.ref C) "__ne__" = some (some (.builtin "object.__ne__"))) (ho : PySem.W.subIn X.K (.ref C) (.type "object") = some true)
    (hs : PySem.W.findIn X.K (.ref C) "__eq__" = some (some (.ref f))) (hf : PySem.W.isFn X.K (.ref f) = true) (F : FnR X.prog X.w X.K X.mg X.base CX0 k f sp) (hr : Room (k + 1) X.A) :
    OpR X (compareOp .NotEq) (rOwn2 C sp (!·)) := by
  intro pins s σ H x y v u Q I rx ry h
  obtain ⟨a, b, dx, dy, fs, gs, rfl, rfl, ha, hb, q⟩ := h
  cases rx
  cases ry
  obtain ⟨mA, J, _⟩ := ins_get I.hok ha
  obtain ⟨mB, J', _⟩ := ins_get I.hok hb
  obtain ⟨od, J, _⟩ := J.look
  obtain ⟨od', J', _⟩ := J'.look
  show wpAny (model X.prog X.w) X.A (richCompare .NotEq (.ref a) (.ref b)) _ _ s
  refine rich_ne (hu_of hr) I.kIn J J'.type hn ho hs hf ?_
  refine wpAny_mono (run_below F hr.in1 rfl I (rel2 a b) q) (fun v s' hv => ?_) fun _ _ z => z
  obtain ⟨y, H', I', ry, r, ey, q'⟩ := hv
  subst ey
  cases ry
  exact ⟨r, rfl, .bl (!r), H', I', rfl, q'⟩
end
end Sq
namespace Sq
open PySem L2 PySem.Spec PyProof.Rows
/-- the built-ins that the text calls are still so -/
structure Bt (mg : Str → Option Value) : Prop where
  len : mg "len" = none
  int : mg "int" = none
  abs : mg "abs" = none
  divmod : mg "divmod" = none
  range : mg "range" = none
  isinstance : mg "isinstance" = none
  bool : mg "bool" = none
  tuple : mg "tuple" = none
  str : mg "str" = none
  list : mg "list" = none
  min : mg "min" = none
  max : mg "max" = none
  all : mg "all" = none
  any : mg "any" = none
  sum : mg "sum" = none
  sorted : mg "sorted" = none
  enumerate : mg "enumerate" = none
/-- a promise of a top function, with all that a call of it asks -/
structure FB (P : Program) (w : World) (K : PySem.W.Frag) (mg : Str → Option Value) (base : Heap) (x : Str) (k : Nat) (ps : List Str) (sp : Sp) : Prop where
  ex : ∃ (f : Addr) (fd : FuncData), FnOk P w K mg base CX0 k f fd ps sp ∧ mg x = some (.ref f) ∧ PySem.W.keepIn K (.ref f) = true ∧ Binds K fd ps []
section
variable {X : Cx} {j k : Nat} {x : Str} {p pos : Pos} {e : Expr} {es : List Expr} {t : TA} {ps : List Str} {sp : Sp}
theorem pe_fb (F : FB X.prog X.w X.K X.mg X.base x k ps sp) (hr : Room j X.A) (hk : k ≤ j) (hg : Gl X x) (ha : PA X (e :: es) t) (hdb : (x == ("__debug__" : Str)) = false := by decide)
    (he : starEach (e :: es) X.env = (false, eval e X.env) :: starEach es X.env := by rfl) (hpl : (backTo pos (starEach es X.env)).any (·.1) = false := by rfl) :
    PE X (.Call (.Name x p) (e :: es) [] pos) (tCall sp [] E0 t) := by
  obtain ⟨f, fd, G, hm, kk, b⟩ := F.ex
  exact pe_call G (hr.mono hk) hg hm kk b .nil pass0 ha hdb he hpl
theorem pe_fb0 (F : FB X.prog X.w X.K X.mg X.base x k ps sp) (hr : Room j X.A) (hk : k ≤ j) (hg : Gl X x) (hdb : (x == ("__debug__" : Str)) = false := by decide) :
    PE X (.Call (.Name x p) [] [] pos) (tCall sp [] E0 tNil) := by
  obtain ⟨f, fd, G, hm, kk, b⟩ := F.ex
  exact pe_call0 G (hr.mono hk) hg hm kk b .nil pass0 hdb
end
/-! ### list.count of truths -/
def rCntB (K : PySem.W.Frag) : V → List V → Hp → VK → Prop := fun x xs H Q => ∃ (p : Addr) (bs : List Bool) (k : Bool), x = .ref p ∧ xs = [.bl k] ∧ SqL K H p (bs.map V.bl) ∧ Q (.int (bs.count k : Nat)) H
theorem cnt_bools (k : Bool) : ∀ {bs : List Bool} {vs : List Value}, Vals (bs.map V.bl) vs → vs.countP (isBoolOf k) = bs.count k
  | [], _, h => by cases h; rfl
  | b :: r, _, h => by
    cases h with
    | cons r1 rr =>
      cases r1
      rw [List.countP_cons, List.count_cons, cnt_bools k rr]
      cases b <;> cases k <;> rfl
theorem eq_bools (k : Bool) : ∀ {bs : List Bool} {vs : List Value}, Vals (bs.map V.bl) vs → ∀ y, y ∈ vs → ∀ (A : Around) (s : Shared), PySem.SeqAt.EqAt A s y (.bool k) (isBoolOf k y)
  | [], _, h, y, hy, _, _ => by cases h; cases hy
  | b :: r, _, h, y, hy, A, s => by
    cases h with
    | cons r1 rr =>
      cases r1
      rcases List.mem_cons.mp hy with e | hy
      · rw [e]; exact PySem.SeqAt.EqAt.bool_bool b k
      · exact eq_bools k rr y hy A s
theorem mt_bcount {X : Cx} : MtR X "list.count" (rCntB X.K) := by
  intro pins s σ H x xs v us Q I rx rxs h
  obtain ⟨p, bs, k, rfl, rfl, hs, q⟩ := h
  cases rx
  obtain ⟨u, rfl, ru⟩ := rxs.one
  cases ru
  obtain ⟨its, rv, ⟨⟨cls, dd, data, sl⟩, n, ho, hc, hdn, hd⟩, hlen⟩ := I.list hs
  simp only at hc hd
  subst hc hd
  refine call_meets PySem.F.slot_list_count ⟨_, ho, rfl⟩ PySem.F.entry_list_count (PySem.F.args_list_count_2 _ _)
    (PySem.SeqAt.list_countAt p its.toArray n dd sl (.bool k) (isBoolOf k)) ⟨ho, fun y hy => eq_bools k rv y (by simpa using hy) _ _, ?_⟩
  refine ⟨.int (bs.count k : Nat), H, I.tok _, ⟨s.toks, ?_⟩, q⟩
  rw [show its.toArray.toList = its from rfl, cnt_bools k rv]
/-! ### the draws -/
/-- all but what stands at p is as it was -/
def Off (p : Addr) (H H' : Hp) : Prop := ∀ b o, b ≠ p → H b = some o → H' b = some o
theorem Off.trans {p : Addr} {H H1 H2 : Hp} (a : Off p H H1) (b : Off p H1 H2) : Off p H H2 := fun c o n h => b c o n (a c o n h)
theorem Same.off {p : Addr} {H H1 : Hp} (a : Same H H1) : Off p H H1 := fun c o _ h => a c o h
theorem Off.refl {p : Addr} {H : Hp} : Off p H H := fun _ _ _ h => h
theorem same_new {H : Hp} {p : Addr} {o : HO} (h : H p = none) : Same H (upd H p o) := fun b u e => by
  rw [upd_ne (ne_of_none e h)]
  exact e
def PurlAt (H : Hp) (p : Addr) : Prop := ∃ m d : Int, H p = some (.lst [.int m, .int d])
theorem PurlAt.same {H H' : Hp} {p : Addr} (h : PurlAt H p) (s : Same H H') : PurlAt H' p := by
  obtain ⟨m, d, e⟩ := h
  exact ⟨m, d, s _ _ e⟩
def spPurl (K : PySem.W.Frag) : Sp := fun vs H Q _ => ∃ (a : Addr) (ns : List Int) (k : Nat), vs = [.ref a, .int (k : Int)] ∧ SqL K H a (ns.map V.int) ∧ ns.length ≤ 63 ∧ k ≤ 63 ∧
  ∀ p H', H p = none → PurlAt H' p → Same H H' → Q (.ref p) H'
def spDig : Sp := fun vs H Q _ => ∃ (p : Addr) (k : Int), vs = [.ref p, .int k] ∧ PurlAt H p ∧ 0 < k ∧ k < 1073741824 ∧
  ∀ (r : Int) (H' : Hp), 0 ≤ r → r < k → PurlAt H' p → Off p H H' → Q (.int r) H'
def spFar : Sp := fun vs H Q _ => ∃ p : Addr, vs = [.ref p] ∧ PurlAt H p ∧
  ∀ (r : Int) (H' : Hp), 1 ≤ r → r ≤ 1000000000000000000000000000000 → PurlAt H' p → Off p H H' → Q (.int r) H'
theorem nx_seq {t u : TS} {D' : Ends} {rt : VK} {bk ct : L2.St → Hp → Prop} {σ : L2.St} {H : Hp} (h : t { D' with nx := u D' } σ H) : tNext ⟨tSeq t u D', rt, bk, ct⟩ σ H := h
theorem nx_one {t : TS} {D' : Ends} {rt : VK} {bk ct : L2.St → Hp → Prop} {σ : L2.St} {H : Hp} (h : t D' σ H) : tNext ⟨t D', rt, bk, ct⟩ σ H := h
theorem nm_seq {t u : TS} {D' : Ends} {rt : VK} {bk ct : L2.St → Hp → Prop} {σ : L2.St} {H : Hp} {i : Nat} {v : V} (h : t { D' with nx := u D' } (σ.set i (some v)) H) : gName i v σ H (Ends.nx ⟨tSeq t u D', rt, bk, ct⟩) := h
theorem nm_one {t : TS} {D' : Ends} {rt : VK} {bk ct : L2.St → Hp → Prop} {σ : L2.St} {H : Hp} {i : Nat} {v : V} (h : t D' (σ.set i (some v)) H) : gName i v σ H (Ends.nx ⟨t D', rt, bk, ct⟩) := h
theorem pr_seq {t u : TS} {D' : Ends} {rt : VK} {bk ct : L2.St → Hp → Prop} {σ : L2.St} {H : Hp} (h : t { D' with nx := u D' } σ H) : Ends.nx ⟨tSeq t u D', rt, bk, ct⟩ σ H := h
theorem pr_one {t : TS} {D' : Ends} {rt : VK} {bk ct : L2.St → Hp → Prop} {σ : L2.St} {H : Hp} (h : t D' σ H) : Ends.nx ⟨t D', rt, bk, ct⟩ σ H := h
theorem st_of {t : TS} {D : Ends} {σ : L2.St} {H : Hp} (J : L2.St → Hp → Prop) (h : ∀ D' : Ends, (∀ σ' H', J σ' H' → D'.nx σ' H') → t D' σ H) (k : ∀ σ' H', J σ' H' → D.nx σ' H') : t D σ H := h D k
theorem un65 {k : Nat} {A : Around} (h : Room k A) : A.units + 65 < cLine := by
  have := h.un
  omega
theorem gen_of {t : TE} {σ : L2.St} {H : Hp} {Q : VK} (J : V → Hp → Prop) (h : ∀ Q' : VK, (∀ v H', J v H' → Q' v H') → t σ H Q') (k : ∀ v H', J v H' → Q v H') : t σ H Q := h Q k
theorem un1 {k : Nat} {A : Around} (h : Room k A) : A.units + 1 < cLine := by
  have := h.un
  omega
theorem un3 {k : Nat} {A : Around} (h : Room k A) : A.units + 3 < cLine := by
  have := h.un
  omega
theorem nm_q {i : Nat} {v : V} {σ : L2.St} {H : Hp} {Q : L2.St → Hp → Prop} (h : Q (σ.set i (some v)) H) : gName i v σ H Q := h
theorem sq_ {t u : TS} {D : Ends} {σ : L2.St} {H : Hp} (h : t { D with nx := u D } σ H) : tSeq t u D σ H := h
theorem if_ {tc : TT} {t u : TS} {D : Ends} {σ : L2.St} {H : Hp} (h : tc σ H fun b H1 => if b = true then t D σ H1 else u D σ H1) : tIfS tc t u D σ H := h
theorem asg_ {te : TE} {g : TG} {D : Ends} {σ : L2.St} {H : Hp} (h : te σ H fun x H1 => g x σ H1 D.nx) : tAsg te g D σ H := h
theorem ret_ {te : TE} {D : Ends} {σ : L2.St} {H : Hp} (h : te σ H D.rt) : tRet te D σ H := h
theorem val_of {t : TE} {σ : L2.St} {H : Hp} {Q : VK} (v : V) (h : ∀ Q' : VK, Q' v H → t σ H Q') (k : Q v H) : t σ H Q := h Q k
theorem valS_of {t : TE} {σ : L2.St} {H : Hp} {Q : VK} (v : V) (h : ∀ Q' : VK, (∀ H', Same H H' → Q' v H') → t σ H Q') (k : ∀ H', Same H H' → Q v H') : t σ H Q := h Q k
theorem tst_of {t : TT} {σ : L2.St} {H : Hp} {Q : Bool → Hp → Prop} (b : Bool) (h : ∀ Q' : Bool → Hp → Prop, (∀ H', Same H H' → Q' b H') → t σ H Q') (k : ∀ H', Same H H' → Q b H') : t σ H Q := h Q k
theorem sp_eta (sp : Sp) : (fun vs H Q E => sp (vs ++ []) H Q E) = sp := by
  funext vs H Q E
  rw [List.append_nil]
theorem FnOk.asR {P : Program} {w : World} {K : PySem.W.Frag} {mg : Str → Option Value} {base : Heap} {CX : CXT} {k : Nat} {f : Addr} {fd : FuncData} {ps : List Str} {sp : Sp} (F : FnOk P w K mg base CX k f fd ps sp) (b : Binds K fd ps []) : FnR P w K mg base CX k f sp := by
  have z := FnOk.raw F b (dvs := []) .nil
  rw [sp_eta] at z
  exact z
def spRight : Sp := fun vs H Q _ => ∃ p : Addr, vs = [.ref p] ∧ PurlAt H p ∧ ∀ H', Off p H H' → Q (.bl true) H'
def spLaw (K : PySem.W.Frag) : Sp := fun vs H Q _ => ∃ (a : Addr) (ns : List Int), vs = [.ref a] ∧ SqL K H a (ns.map V.int) ∧ ns.length ≤ 63 ∧ ∀ H', Q (.bl true) H'
end Sq
namespace Sq
open PySem PySem.Spec PyProof.Rows GQ
section
variable {prog : Program} {w : World} {A : Around} {E : Value → Shared → Prop} {s : Shared}
/-- a list == a list of another length -/
theorem list_other {l b : Addr} {p q : Array Value} {n1 n2 : Nat} {Q : Value → Shared → Prop} (hu : A.units < cLine) (hl : s.heap.get? l = some { cls := .type "list", data := .seq p n1 }) (hb : s.heap.get? b = some { cls := .type "list", data := .seq q n2 }) (hz : p.size ≠ q.size)
    (h : Q (.bool false) s) : wpAny (model prog w) A (richCompare .Eq (.ref l) (.ref b)) Q E s := by
  refine wpAny_richCompare_same_room (op := .Eq) ⟨_, hl, rfl⟩ ⟨_, hb, rfl⟩ F.slot_list_eq (call_here F.slot_list_eq ⟨_, hl, rfl⟩ F.entry_list_eq (F.args_list_eq_2 _ _) ?_) hu
  have f3 := AutoSeq1.sub_list_list
  obtain ⟨hp, g, d, tk, os⟩ := s
  have ne : (p.size != q.size) = true := by simpa using hz
  wp_walk using wpAny_loadPart' hl, wpAny_loadPart' hb
  exact ⟨(fun e => nomatch e), h⟩
end
end Sq
namespace Sq
open PySem L2 PySem.Spec PyProof.Rows
/-- xs == [] -/
def rNil (K : PySem.W.Frag) : R2 := fun x y H Q => ∃ (a b : Addr) (xs : List V), x = .ref a ∧ y = .ref b ∧ H a = some (.lst xs) ∧ H b = some (.lst []) ∧ Q (.bl (decide (xs.length = 0))) H
theorem op_eqNil {X : Cx} {k : Nat} (hr : Room k X.A) : OpR X (compareOp .Eq) (rNil X.K) := by
  intro pins s σ H x y v u Q I rx ry h
  obtain ⟨a, b, xs, rfl, rfl, ha, hb, q⟩ := h
  cases rx
  cases ry
  obtain ⟨_, its, n, r, g⟩ := (show ObjOk X.prog X.w H s.heap a (.lst xs) from I.hok a _ ha)
  obtain ⟨_, jts, m, r2, g2⟩ := (show ObjOk X.prog X.w H s.heap b (.lst []) from I.hok b _ hb)
  cases r2
  show wpAny (model X.prog X.w) X.A (richCompare .Eq (.ref a) (.ref b)) (EP X pins σ Q) X.xe s
  by_cases hx : xs = []
  · subst hx
    cases r
    have q : Q (.bl true) H := q
    exact GQ.rc_listG hr.units0 (N := 0) (fun _ s' => s' = s) (fun i s' e => by subst e; exact ⟨_, _, _, _, g, g2, rfl, rfl, fun h1 => absurd h1 (Nat.not_lt_zero _)⟩) (fun s' e => by subst e; exact ⟨.bl true, H, I, rfl, q⟩) rfl
  · have hz : xs.length ≠ 0 := fun e => hx (List.length_eq_zero_iff.mp e)
    rw [decide_eq_false hz] at q
    exact list_other hr.units0 g g2 (by rw [List.size_toArray, ← r.length]; exact hz) ⟨.bl false, H, I, rfl, q⟩
end Sq
namespace Sq
open PySem L2 PySem.Spec PyProof.Rows
/-! ### for k in d, d a dict of the written part, whatever its keys are -/
/-- the dict at d is written, plain, and its keys are those values -/
structure WDict (K : PySem.W.Frag) (d : Addr) (es : Array DictEntry) (ep : Nat) (ks : List V) : Prop where
  lk : ∃ o, K.lookup d = some o ∧ o.ExactDict ∧ o.data = .dict es ep
  sys : (d == sysModules) = false
  keys : Vals ks (es.toList.map (·.key))
/-- its keys, one behind the other -/
def Itw (ks : List V) : It := ⟨fun i _ => i < ks.length, fun i H x H' => H' = H ∧ ks[i]? = some x, fun i _ => ks.length ≤ i⟩
theorem walk_kw {ks : List V} : Walk (Itw ks) ks.length (fun _ => True) (YAt ks) :=
  ⟨fun _ _ hi _ => hi, fun _ _ => Nat.le_refl _, fun _ _ _ _ _ _ y => y⟩
section
variable {K : PySem.W.Frag} {d : Addr} {es : Array DictEntry} {ep : Nat} {ks : List V}
theorem WDict.raw (D : WDict K d es ep ks) {h : Heap} (X : K.In h) : h.DictRaw d es ep := by
  obtain ⟨o, l, e, q⟩ := D.lk
  exact ⟨o, X _ _ l, e, q⟩
theorem WDict.len (D : WDict K d es ep ks) : ks.length = es.size := by
  have z := D.keys.length
  rw [List.length_map, Array.length_toList] at z
  exact z
theorem WDict.key (D : WDict K d es ep ks) {i : Nat} (hi : i < es.size) : ∃ x, ks[i]? = some x ∧ RelV x es[i].key := by
  have hk : i < ks.length := by rw [D.len]; exact hi
  refine ⟨ks[i], List.getElem?_eq_getElem hk, ?_⟩
  obtain ⟨u, hu, ru⟩ := D.keys.get (List.getElem?_eq_getElem hk)
  rw [List.getElem?_map, Array.getElem?_toList, Array.getElem?_eq_getElem hi] at hu
  cases hu
  exact ru
theorem turn_kw {P : Program} {w : World} {tg : Expr} (D : WDict K d es ep ks) (it : Addr) : Turn P w K tg (Itw ks) [it] it (fun i h => h.IsKeyIter it d i es.size ep) where
  mem := by simp
  obj := fun i h st b hb => by
    have e : b = it := by simpa using hb
    subst e
    obtain ⟨oi, e, c, dd⟩ := st
    exact ⟨oi, e, fun v z => by rw [dd] at z; cases z⟩
  keep := fun i h h' st k => by
    obtain ⟨oi, e, c⟩ := st
    exact ⟨oi, k it (by simp) _ e, c⟩
  item := by
    intro X hP hw hK hc i pins s σ H E I hf st hg
    subst hP hw hK
    have hi : i < es.size := by rw [← D.len]; exact hg
    obtain ⟨f0, f1, f2, f3, f4, f5⟩ := hf it (by simp)
    obtain ⟨x, hx, rx⟩ := D.key hi
    refine wpAny_pyNext_keys_item_raw st (D.raw I.kIn) hi fun h' st' sb => ?_
    have I1 : Inv X pins σ H { s with heap := h' } := I.turned (t' := s.toks) (fun b ob hb e => (sb.2 b hb).trans e) f0 f1 f3 f4 f5
    obtain ⟨oi, e, c, dd⟩ := id st'
    exact ⟨_, rfl, go_of (s := { s with heap := h' }) e c dd (by decide) ⟨x, H, I1, rx, ⟨rfl, hx⟩, st', fun b hb => (hf b hb).1⟩⟩
  done := by
    intro X hP hw hK hc i pins s σ H E I hf st hg
    subst hP hw hK
    obtain ⟨f0, f1, f2, f3, f4, f5⟩ := hf it (by simp)
    have hge : es.size ≤ i := by rw [← D.len]; exact hg
    exact wpAny_pyNext_keys_end_raw (I.ok.hd hc) st (D.raw I.kIn) hge fun h' eb => ⟨rfl, I.turned (t' := s.toks) (fun b ob hb e => eb b ob hb e) f0 f1 f3 f4 f5⟩
  self := fun A i s Q E st h => wpAny_pyIter_keyiter st h
def iKeysW (d : Addr) (ks : List V) (td : TE) : TI := fun σ H R => td σ H fun x H1 => x = .ref d ∧ R (Itw ks) H1
theorem pi_keysW {X : Cx} {tg e : Expr} {td : TE} (D : WDict X.K d es ep ks) (he : PE X e td) : PI X tg e (iKeysW d ks td) := by
  refine ⟨fun pins s σ H R I h => ?_⟩
  refine thn (he.run pins s σ H _ I h) fun u s1 ⟨x, H1, I1, rx, ex, q⟩ => ?_
  subst ex
  obtain rfl : u = Value.ref d := rx
  refine wpAny_pyIter_dict_raw D.sys (D.raw I1.kIn) ?_
  have st : (s1.heap.push { cls := .type "dict_keyiterator", data := .fields #[.ref d, .int 0 0, .int es.size 0, .int ep 0] }).IsKeyIter s1.heap.objs.size d 0 es.size ep := ⟨_, Heap.get?_push_size _ rfl, rfl, rfl⟩
  exact pi_one (tk := s1.toks) I1 _ (turn_kw D _) st q
end
/-- a written tuple of numbers, told -/
def tupW (K : PySem.W.Frag) (v : Value) : Option (List Int) := match v with
  | .ref a => match K.lookup a with
    | some ⟨.type "tuple", _, .seq its _, _⟩ => its.toList.mapM fun u => match u with | .int i _ => some i | _ => none
    | _ => none
  | _ => none
theorem vals_mapM : ∀ {us : List Value} {is : List Int}, (us.mapM fun u => match u with | .int i _ => some i | _ => none) = some is → Vals (is.map V.int) us
  | [], is, h => by
    cases h
    exact .nil
  | u :: us, is, h => by
    rw [List.mapM_cons] at h
    cases u with
    | int i t =>
      cases e : (us.mapM fun u => match u with | .int i _ => some i | _ => none) with
      | none =>
        rw [e] at h
        cases h
      | some js =>
        rw [e] at h
        cases h
        exact .cons ⟨t, rfl⟩ (vals_mapM e)
    | _ => cases h
theorem tupW_at {K : PySem.W.Frag} {v : Value} {is : List Int} (h : tupW K v = some is) (hl : is.length ≤ 3) : ∃ a, v = .ref a ∧ ∀ H, SqT K H a (is.map V.int) := by
  unfold tupW at h
  split at h
  case h_2 => cases h
  rename_i a
  split at h
  case h_2 => cases h
  rename_i d its n sl e
  have z := vals_mapM h
  refine ⟨a, rfl, fun H => .inr ⟨_, its, n, e, rfl, rfl, ?_, z⟩⟩
  have y := z.length
  rw [List.length_map] at y
  have y2 : its.toList.length = its.size := Array.length_toList
  have h3 : 3 ≤ sizeLine := by decide
  omega
end Sq
namespace Sq
open PySem L2 PySem.Spec PyProof.Rows
/-! ### a written dict with texts as keys, told by a table -/
structure TDict (K : PySem.W.Frag) (w : World) (d : Addr) (tab : List (Str × V)) : Prop where
  ex : ∃ (es : Array DictEntry) (n : Nat), KDict K w d es n ∧ ∀ z : Str, match tab.lookup z with
    | none => PySem.W.nsIn K d z = some none
    | some v => ∃ u, PySem.W.nsIn K d z = some (some u) ∧ RelV v u
def strW (v : Value) : Option Str := match v with
  | .str x _ => some x
  | _ => none
theorem look_es {z : Str} : ∀ {es : List DictEntry} {tab : List (Str × V)}, es.map (fun e => strW e.key) = tab.map (fun q => some q.1) → Vals (tab.map (·.2)) (es.map (·.val)) →
    (es.any (·.refKey) = false) ∧ match tab.lookup z with
    | none => es.find? (fun e => e.key.isStr z) = none
    | some v => ∃ e, es.find? (fun e => e.key.isStr z) = some e ∧ RelV v e.val
  | [], [], _, _ => ⟨rfl, rfl⟩
  | [], _ :: _, h, _ => by cases h
  | _ :: _, [], h, _ => by cases h
  | e :: es, (x, v) :: tab, h, hv => by
    obtain ⟨h1, h2⟩ := List.cons.inj h
    cases hv with
    | cons r1 rr =>
      obtain ⟨i1, i2⟩ := look_es (z := z) h2 rr
      have hk : ∃ t, e.key = .str x t := by
        have h1 : strW e.key = some x := h1
        unfold strW at h1
        split at h1
        · rename_i y t e1
          cases h1
          exact ⟨t, e1⟩
        · cases h1
      obtain ⟨t, hk⟩ := hk
      refine ⟨?_, ?_⟩
      · rw [List.any_cons, i1]
        unfold DictEntry.refKey
        rw [hk]
        rfl
      · by_cases hz : z = x
        · subst hz
          have l : ((z, v) :: tab).lookup z = some v := by simp [List.lookup]
          rw [l]
          have f : (e :: es).find? (fun e => e.key.isStr z) = some e := List.find?_cons_of_pos (by rw [hk]; simp [Value.isStr])
          exact ⟨e, f, r1⟩
        · have zx : (z == x) = false := by simpa using hz
          have l : ((x, v) :: tab).lookup z = tab.lookup z := by simp [List.lookup, zx]
          have f : (e :: es).find? (fun e => e.key.isStr z) = es.find? (fun e => e.key.isStr z) := List.find?_cons_of_neg (by rw [hk]; simp [Value.isStr]; exact fun q => hz q.symm)
          rw [l, f]
          exact i2
theorem TDict.of {K : PySem.W.Frag} {w : World} {d : Addr} {es : Array DictEntry} {n : Nat} {tab : List (Str × V)} (lk : K.lookup d = some ⟨.type "dict", none, .dict es n, #[]⟩) (lit : PySem.W.KeysLit w.params es.toList) (hs : (d == sysModules) = false)
    (hk : es.toList.map (fun e => strW e.key) = tab.map (fun q => some q.1)) (hv : Vals (tab.map (·.2)) (es.toList.map (·.val))) : TDict K w d tab := by
  refine ⟨es, n, ⟨lk, lit, hs⟩, fun z => ?_⟩
  obtain ⟨h1, h2⟩ := look_es (z := z) hk hv
  unfold PySem.W.nsIn
  rw [lk]
  dsimp only
  cases hl : tab.lookup z with
  | none =>
    rw [hl] at h2
    dsimp only at h2 ⊢
    rw [h2, h1]
    rfl
  | some v =>
    rw [hl] at h2
    obtain ⟨e, h3, r⟩ := h2
    dsimp only
    rw [h3]
    exact ⟨_, rfl, r⟩
section
variable {X : Cx} {d : Addr} {tab : List (Str × V)}
def rInT (d : Addr) (tab : List (Str × V)) (g : Bool → Bool) : R2 := fun x y H Q => ∃ z : Str, x = .str z ∧ y = .ref d ∧ Q (.bl (g (tab.lookup z).isSome)) H
theorem op_inT (D : TDict X.K X.w d tab) : OpR X (compareOp .In) (rInT d tab id) := by
  intro pins s σ H x y v u Q I rx ry h
  obtain ⟨z, rfl, rfl, q⟩ := h
  obtain ⟨es, n, kd, hz⟩ := D.ex
  have hz := hz z
  cases hl : tab.lookup z with
  | none =>
    rw [hl] at hz q
    exact op_in_kd kd pins s σ H _ _ v u Q I rx ry ⟨z, none, rfl, rfl, hz, q⟩
  | some v0 =>
    rw [hl] at hz q
    obtain ⟨u0, e, _⟩ := hz
    exact op_in_kd kd pins s σ H _ _ v u Q I rx ry ⟨z, some u0, rfl, rfl, e, q⟩
theorem op_notInT (D : TDict X.K X.w d tab) : OpR X (compareOp .NotIn) (rInT d tab (!·)) := by
  intro pins s σ H x y v u Q I rx ry h
  obtain ⟨z, rfl, rfl, q⟩ := h
  obtain ⟨es, n, kd, hz⟩ := D.ex
  have hz := hz z
  cases hl : tab.lookup z with
  | none =>
    rw [hl] at hz q
    exact op_notIn_kd kd pins s σ H _ _ v u Q I rx ry ⟨z, none, rfl, rfl, hz, q⟩
  | some v0 =>
    rw [hl] at hz q
    obtain ⟨u0, e, _⟩ := hz
    exact op_notIn_kd kd pins s σ H _ _ v u Q I rx ry ⟨z, some u0, rfl, rfl, e, q⟩
def rIxT (d : Addr) (tab : List (Str × V)) : R2 := fun x y H Q => ∃ (z : Str) (v : V), x = .ref d ∧ y = .str z ∧ tab.lookup z = some v ∧ Q v H
theorem ix_T (D : TDict X.K X.w d tab) : IxR X (rIxT d tab) := by
  intro value slice pins s σ H x y v u Q I rx ry h hs
  obtain ⟨z, v0, rfl, rfl, hl, q⟩ := h
  obtain ⟨es, n, kd, hz⟩ := D.ex
  have hz := hz z
  rw [hl] at hz
  obtain ⟨u0, e, r⟩ := hz
  exact ix_kdict value slice pins s σ H _ _ v u Q I rx ry ⟨d, z, v0, rfl, rfl, ⟨es, n, u0, kd.at_, kd.lit, e, r⟩, q⟩ hs
end
/-! ### xs == [x], a list of texts -/
def rOne : R2 := fun x y H Q => ∃ (a b : Addr) (ws : List Str) (z : Str), x = .ref a ∧ y = .ref b ∧ H a = some (.lst (ws.map V.str)) ∧ H b = some (.lst [.str z]) ∧ Q (.bl (decide (ws = [z]))) H
theorem op_eqOne {X : Cx} {k : Nat} (hr : Room k X.A) : OpR X (compareOp .Eq) rOne := by
  intro pins s σ H x y v u Q I rx ry h
  obtain ⟨a, b, ws, z, rfl, rfl, ha, hb, q⟩ := h
  cases rx
  cases ry
  obtain ⟨_, its, n, r, g⟩ := (show ObjOk X.prog X.w H s.heap a (.lst (ws.map V.str)) from I.hok a _ ha)
  obtain ⟨_, jts, m, r2, g2⟩ := (show ObjOk X.prog X.w H s.heap b (.lst [.str z]) from I.hok b _ hb)
  show wpAny (model X.prog X.w) X.A (richCompare .Eq (.ref a) (.ref b)) (EP X pins σ Q) X.xe s
  have lj : jts.length = 1 := r2.length.symm
  by_cases hx : ws.length = 1
  · obtain ⟨y, rfl⟩ : ∃ y, ws = [y] := by
      match ws, hx with
      | [y], _ => exact ⟨y, rfl⟩
    cases r with
    | cons r1 rr =>
      cases rr
      cases r2 with
      | cons r3 rr3 =>
        cases rr3
        refine PySem.SeqAt.rcP_lists (e := fun _ => decide (y = z)) ⟨_, g, rfl, n, rfl⟩ ⟨_, g2, rfl, m, rfl⟩ rfl hr.units0 (fun j h1 h2 => ?_) _ _ ?_
        · have hj : j = 0 := by
            have : j < 1 := h1
            omega
          subst hj
          have e := eqAt_V (A := X.A.in1) (s := s) r1 r3 rfl rfl
          have ev : eqV (.str y) (.str z) = decide (y = z) := by
            show (y == z) = decide (y = z)
            by_cases h : y = z
            · simp [h]
            · simp [h]
          rw [ev] at e
          exact fun E Q q => e _ _ E Q q
        · have : decide ([y] = [z]) = decide (y = z) := by
            by_cases h : y = z
            · simp [h]
            · simp [h]
          rw [this] at q
          refine ⟨_, H, I, ?_, q⟩
          show Value.bool _ = Value.bool _
          simp [List.range_succ]
  · rw [decide_eq_false (fun e => hx (by rw [e]; rfl))] at q
    exact list_other hr.units0 g g2 (by rw [List.size_toArray, List.size_toArray, ← r.length, lj, List.length_map]; exact hx) ⟨.bl false, H, I, rfl, q⟩
end Sq
namespace Sq
open PySem L2 TL
def obs : List Str := ["-1", "0", "1", "n-1", "n", "n+1", "n//2-1", "n//2", "n//2+1", "(n+1)//2-1", "(n+1)//2", "(n+1)//2+1"]
def ibs : List Str := ["i-1", "i", "i+1", "n-i-1", "n-i", "n-i+1"]
def memB (bs : List Str) (a : Str) : Bool := bs.any fun b => b == a
theorem inV_str (a : Str) (bs : List Str) : inV (.str a) (bs.map V.str) = memB bs a := by
  unfold inV memB
  rw [List.any_map]
  rfl
theorem flat_strs (bs : List Str) : (bs.map V.str).all flatV = true := by
  rw [List.all_map, List.all_eq_true]
  intro x _
  rfl
def cutDown (ws : List Str) : List Str := if ws.getLast? = some ("down" : Str) then ws.dropLast else ws
def loopW (bs ws : List Str) : Bool := match ws with
  | [a, b, c] => memB bs a && (decide (b = "to") && memB bs c)
  | _ => false
def loopB (bs : List Str) (z : Str) : Bool := loopW bs (cutDown (Txt.split z " "))
def okLoop (bs : List Str) : V → Bool
  | .str z => loopB bs z
  | _ => false
/-- a value that may be passed where a text is asked for: a text of some length, or no text at all -/
def Any (K : PySem.W.Frag) (H : Hp) (v : V) : Prop := (∃ z : Str, v = .str z ∧ z.length + 2 ≤ sizeLine) ∨ ((∀ z, v ≠ .str z) ∧ ∃ t, TyX K H v t ∧ PySem.W.kitOne K t (.type "str") = some false)
theorem okLoop_no {bs : List Str} {v : V} (h : ∀ z, v ≠ .str z) : okLoop bs v = false := by
  cases v with
  | str z => exact absurd rfl (h z)
  | _ => rfl
theorem spl_ne (S : List Nat) : ∀ (l : List Nat) (k : Nat) (acc : List Nat), spl S k acc l ≠ []
  | [], k, acc => by rw [spl_nil]; exact List.cons_ne_nil _ _
  | c :: r, 0, acc => by
    unfold spl
    split
    · exact List.cons_ne_nil _ _
    · exact spl_ne S r 0 _
  | _ :: r, k + 1, acc => spl_ne S r k acc
theorem kind_one (z y : Str) (h : y.cps.all (· < 256) = true) : ¬ Builtin.Str.strKind z < Builtin.Str.strKind y := by
  have h1 : Builtin.Str.strKind y = 1 := by
    unfold Builtin.Str.strKind
    rw [if_pos h]
  have h2 : 1 ≤ Builtin.Str.strKind z := by
    unfold Builtin.Str.strKind
    split
    · omega
    · split <;> omega
  omega
theorem split_ne (z : Str) : Txt.split z " " ≠ [] := by
  intro e
  have h := split_spl z " " (by decide +kernel) (kind_one z " " (by decide +kernel))
  rw [e] at h
  exact spl_ne _ _ _ _ h.symm
theorem last_of {ws : List Str} (h : ws ≠ []) : ∃ as z, ws = as ++ [z] := ⟨ws.dropLast, ws.getLast h, (List.dropLast_concat_getLast h).symm⟩
theorem sIx_last (n : Nat) (d : Nat) : HT.sIx (n + 1) d (some (-1)) = n := by
  show (if (-1 : Int) < 0 then ((-1 : Int) + ((n + 1 : Nat) : Int)).toNat else min (-1 : Int).toNat (n + 1)) = n
  rw [if_pos (by decide)]
  omega
theorem cut_last (as : List Str) (z : Str) : cutV ((as ++ [z]).map V.str) none (some (-1)) = as.map V.str := by
  unfold cutV
  have e : ((as ++ [z]).map V.str).length = as.length + 1 := by simp
  rw [e, sIx_last, HT.sIx_none, Nat.sub_zero, List.drop_zero, List.map_append, List.take_append_of_le_length (by simp), List.take_of_length_le (by simp)]
/-- the names that the program's checks use -/
structure Ck (K : PySem.W.Frag) (mg : Str → Option Value) : Prop where
  isinstance : mg "isinstance" = none
  str : mg "str" = none
theorem loopW_len (bs : List Str) : ∀ ws : List Str, ws.length ≠ 3 → loopW bs ws = false
  | [], _ => rfl
  | [_], _ => rfl
  | [_, _], _ => rfl
  | [_, _, _], h => absurd rfl h
  | _ :: _ :: _ :: _ :: _, _ => rfl
theorem three_of : ∀ ws : List Str, ws.length = 3 → ∃ a b c, ws = [a, b, c]
  | [a, b, c], _ => ⟨a, b, c, rfl⟩
theorem tyOf_ext {K : PySem.W.Frag} {H H' : Hp} {x : V} {t : Value} (e : Same H H') (h : TyOf K H x t) : TyOf K H' x t := by
  cases h with
  | non => exact .non
  | bl x => exact .bl x
  | int i => exact .int i
  | str x => exact .str x
  | flt x => exact .flt x
  | lst h => exact .lst (e _ _ h)
  | frz h => exact .frz (e _ _ h)
  | tup h => exact .tup (e _ _ h)
  | dK h => exact .dK (e _ _ h)
  | dT h => exact .dT (e _ _ h)
  | ins h c a n k m => exact .ins (e _ _ h) c a n k m
theorem tyX_ext {K : PySem.W.Frag} {H H' : Hp} {x : V} {t : Value} (e : Same H H') (h : TyX K H x t) : TyX K H' x t := by
  cases h
  case base h => exact .base (tyOf_ext e h)
  case byt => exact .byt _
  case set h => exact .set (e _ _ h)
  case kList h c => exact .kList h c
  case kTuple h c => exact .kTuple h c
  case kDict h c => exact .kDict h c
  case fTuple h => exact .fTuple (e _ _ h)
  case fDict h => exact .fDict (e _ _ h)
theorem Any.ext {K : PySem.W.Frag} {H H' : Hp} {v : V} (e : Same H H') (h : Any K H v) : Any K H' v := by
  rcases h with h | ⟨h1, t, h2, h3⟩
  · exact .inl h
  · exact .inr ⟨h1, t, tyX_ext e h2, h3⟩
def fw (i m : Nat) : List Bool → Option Nat
  | [] => none
  | b :: r => if i = m ∨ b = false then some i else fw (i + 1) m r
def optV : Option Nat → V
  | none => .non
  | some i => .int (i : Int)

/-- the bounds: their three numbers -/
def btab : List (Str × Int × Int × Int) := [("-1", 0, 0, -1), ("0", 0, 0, 0), ("1", 0, 0, 1), ("n-1", 1, 0, -1), ("n", 1, 0, 0), ("n+1", 1, 0, 1), ("n//2-1", 2, 0, -1), ("n//2", 2, 0, 0), ("n//2+1", 2, 0, 1), ("(n+1)//2-1", 3, 0, -1), ("(n+1)//2", 3, 0, 0), ("(n+1)//2+1", 3, 0, 1),
  ("i-1", 0, 1, -1), ("i", 0, 1, 0), ("i+1", 0, 1, 1), ("n-i-1", 1, -1, -1), ("n-i", 1, -1, 0), ("n-i+1", 1, -1, 1)]
theorem btab_names : btab.map (·.1) = obs ++ ibs := by decide +kernel
theorem btab_step : ∀ q ∈ btab, decide (q.2.2.1 = 0) = memB obs q.1 := by decide +kernel
/-- the three numbers stand at a -/
def Bd (K : PySem.W.Frag) (a : Addr) (t : Int × Int × Int) : Prop := ∀ H, SqT K H a [.int t.1, .int t.2.1, .int t.2.2]
/-- the written dict of the bounds -/
structure BndD (K : PySem.W.Frag) (w : World) (d : Addr) : Prop where
  ex : ∃ L : List (Str × Addr × Int × Int × Int), TDict K w d (L.map fun q => (q.1, V.ref q.2.1)) ∧ (∀ q ∈ L, Bd K q.2.1 q.2.2) ∧ L.map (fun q => (q.1, q.2.2)) = btab
theorem look_map (L : List (Str × Addr × Int × Int × Int)) (z : Str) : match (L.map fun q => (q.1, V.ref q.2.1)).lookup z with
    | none => ∀ q ∈ L, q.1 ≠ z
    | some v => ∃ q ∈ L, q.1 = z ∧ v = .ref q.2.1 := by
  induction L with
  | nil => exact fun q hq => by cases hq
  | cons q L ih =>
    by_cases h : z = q.1
    · subst h
      have l : ((q :: L).map fun q => (q.1, V.ref q.2.1)).lookup q.1 = some (.ref q.2.1) := by simp [List.lookup]
      rw [l]
      exact ⟨q, List.mem_cons_self .., rfl, rfl⟩
    · have hz : (z == q.1) = false := by simpa using h
      have l : ((q :: L).map fun q => (q.1, V.ref q.2.1)).lookup z = (L.map fun q => (q.1, V.ref q.2.1)).lookup z := by simp [List.lookup, hz]
      rw [l]
      cases e : (L.map fun q => (q.1, V.ref q.2.1)).lookup z with
      | none =>
        rw [e] at ih
        intro r hr
        rcases List.mem_cons.mp hr with rfl | hr
        · exact fun e => h e.symm
        · exact ih r hr
      | some v =>
        rw [e] at ih
        obtain ⟨r, hr, e1, e2⟩ := ih
        exact ⟨r, List.mem_cons_of_mem _ hr, e1, e2⟩
theorem memB_iff {bs : List Str} {a : Str} : memB bs a = true ↔ a ∈ bs := by
  unfold memB
  rw [List.any_eq_true]
  constructor
  · rintro ⟨x, hx, e⟩
    rw [beq_iff_eq] at e
    exact e ▸ hx
  · exact fun h => ⟨a, h, by simp⟩
theorem bnd_none {L : List (Str × Addr × Int × Int × Int)} (h : L.map (fun q => (q.1, q.2.2)) = btab) (z : Str) : ((L.map fun q => (q.1, V.ref q.2.1)).lookup z).isSome = memB (obs ++ ibs) z := by
  have nm : L.map (·.1) = obs ++ ibs := by
    rw [← btab_names, ← h, List.map_map]
    rfl
  have lm := look_map L z
  cases e : (L.map fun q => (q.1, V.ref q.2.1)).lookup z with
  | none =>
    rw [e] at lm
    cases hm : memB (obs ++ ibs) z with
    | false => rfl
    | true =>
      have := memB_iff.mp hm
      rw [← nm] at this
      obtain ⟨q, hq, e2⟩ := List.mem_map.mp this
      exact absurd e2 (lm q hq)
  | some v =>
    rw [e] at lm
    obtain ⟨q, hq, e1, _⟩ := lm
    have : z ∈ obs ++ ibs := by
      rw [← nm, ← e1]
      exact List.mem_map_of_mem hq
    rw [memB_iff.mpr this]
    rfl
theorem bnd_some {K : PySem.W.Frag} {L : List (Str × Addr × Int × Int × Int)} (hb : ∀ q ∈ L, Bd K q.2.1 q.2.2) (h : L.map (fun q => (q.1, q.2.2)) = btab) {z : Str} (m : memB (obs ++ ibs) z = true) :
    ∃ a t, (L.map fun q => (q.1, V.ref q.2.1)).lookup z = some (.ref a) ∧ Bd K a t ∧ (z, t) ∈ btab := by
  have z1 := bnd_none h z
  rw [m] at z1
  have lm := look_map L z
  cases e : (L.map fun q => (q.1, V.ref q.2.1)).lookup z with
  | none =>
    rw [e] at z1
    cases z1
  | some v =>
    rw [e] at lm
    obtain ⟨q, hq, e1, rfl⟩ := lm
    refine ⟨q.2.1, q.2.2, rfl, hb q hq, ?_⟩
    rw [← h, ← e1]
    exact List.mem_map_of_mem (f := fun q : Str × Addr × Int × Int × Int => (q.1, q.2.2)) hq
theorem BndD.of {K : PySem.W.Frag} {w : World} {d : Addr} {es : Array DictEntry} {n : Nat} (lk : K.lookup d = some ⟨.type "dict", none, .dict es n, #[]⟩) (lit : PySem.W.KeysLit w.params es.toList) (hs : (d == sysModules) = false)
    (hk : es.toList.map (fun e => (strW e.key, tupW K e.val)) = btab.map (fun q => (some q.1, some [q.2.1, q.2.2.1, q.2.2.2]))) : BndD K w d := by
  have go : ∀ {es : List DictEntry} {tb : List (Str × Int × Int × Int)}, es.map (fun e => (strW e.key, tupW K e.val)) = tb.map (fun q => (some q.1, some [q.2.1, q.2.2.1, q.2.2.2])) →
      ∃ L : List (Str × Addr × Int × Int × Int), es.map (fun e => strW e.key) = L.map (fun q => some q.1) ∧ Vals (L.map fun q => V.ref q.2.1) (es.map (·.val)) ∧ (∀ q ∈ L, Bd K q.2.1 q.2.2) ∧ L.map (fun q => (q.1, q.2.2)) = tb := by
    intro es
    induction es with
    | nil =>
      intro tb h
      cases tb with
      | nil => exact ⟨[], rfl, .nil, (fun q hq => by cases hq), rfl⟩
      | cons _ _ => cases h
    | cons e es ih =>
      intro tb h
      cases tb with
      | nil => cases h
      | cons q tb =>
        obtain ⟨h1, h2⟩ := List.cons.inj h
        obtain ⟨L, a1, a2, a3, a4⟩ := ih h2
        obtain ⟨k1, k2⟩ := Prod.mk.inj h1
        obtain ⟨a, ea, ha⟩ := tupW_at k2 (Nat.le_refl _)
        refine ⟨(q.1, a, q.2) :: L, ?_, ?_, ?_, ?_⟩
        · rw [List.map_cons, List.map_cons, a1]
          exact congrArg (fun x => x :: _) k1
        · exact .cons (by show RelV (V.ref a) e.val; rw [ea]; rfl) a2
        · intro r hr
          rcases List.mem_cons.mp hr with e2 | hr
          · rw [e2]
            exact ha
          · exact a3 r hr
        · rw [List.map_cons, a4]
  obtain ⟨L, a1, a2, a3, a4⟩ := go hk
  refine ⟨L, TDict.of lk lit hs ?_ ?_, a3, a4⟩
  · rw [a1, List.map_map]
    rfl
  · rw [List.map_map]
    exact a2
theorem cut_drop (l : List Str) (k : Nat) : cutV (l.map V.str) (some (k : Int)) none = (l.drop k).map V.str := by
  unfold cutV
  rw [HT.sIx_none, HT.sIx_nat, List.length_map]
  by_cases h : k ≤ l.length
  · rw [Nat.min_eq_left h, List.take_of_length_le (by rw [List.length_drop, List.length_map]; exact Nat.le_refl _), List.map_drop]
  · rw [Nat.min_eq_right (by omega), Nat.sub_self, List.take_zero, List.drop_eq_nil_of_le (by omega)]
    rfl
end Sq
namespace Sq
open PySem L2 TL
/-- a loop's words, its two bounds as numbers, and whether it descends -/
structure LoopR (z : Str) (t1 t2 : Int × Int × Int) (d : Bool) : Prop where
  words : ∃ w0 w2 : Str, (w0, t1) ∈ btab ∧ (w2, t2) ∈ btab ∧ Txt.split z " " = [w0, "to", w2] ++ (if d = true then [("down" : Str)] else [])
/-- what was read in a loop stands at p -/
def LoopAt (K : PySem.W.Frag) (H : Hp) (p : Addr) (z : Str) : Prop := ∃ a1 a2 t1 t2 d, H p = some (.tup [.ref a1, .ref a2, .int (if d = true then 1 else 0)]) ∧ Bd K a1 t1 ∧ Bd K a2 t2 ∧ LoopR z t1 t2 d
def spReadL (K : PySem.W.Frag) (bs : List Str) : Sp := fun vs H Q _ => ∃ v : V, vs = [v] ∧ Any K H v ∧ (okLoop bs v = false → ∀ H', Same H H' → Q .non H') ∧
  (okLoop bs v = true → ∀ z p H', v = .str z → H p = none → Same H H' → LoopAt K H' p z → Q (.ref p) H')
theorem cut_yes (as : List Str) : cutDown (as ++ [("down" : Str)]) = as := by
  unfold cutDown
  rw [List.getLast?_concat, if_pos rfl, List.dropLast_concat]
theorem cut_no (as : List Str) {z : Str} (h : z ≠ "down") : cutDown (as ++ [z]) = as ++ [z] := by
  unfold cutDown
  rw [List.getLast?_concat, if_neg (fun e => h (Option.some.inj e))]
theorem down_no : memB (obs ++ ibs) "down" = false := by decide +kernel
/-- the words that the program takes for a loop's -/
def rdW (ws : List Str) : Bool := decide (ws.length = 3 + (if ws.drop 3 = [("down" : Str)] then 1 else 0)) && (decide (ws.getD 1 "" = "to") && (memB (obs ++ ibs) (ws.getD 0 "") && memB (obs ++ ibs) (ws.getD 2 "")))
theorem rd_loop : ∀ ws : List Str, ws ≠ [] → loopW (obs ++ ibs) (cutDown ws) = rdW ws
  | [], h => absurd rfl h
  | [a], _ => by
    have e : rdW [a] = false := by simp [rdW]
    rw [e]
    unfold cutDown
    split <;> rfl
  | [a, b], _ => by
    have e : rdW [a, b] = false := by simp [rdW]
    rw [e]
    unfold cutDown
    split <;> rfl
  | [a, b, c], _ => by
    by_cases h : c = "down"
    · subst h
      have e : rdW [a, b, "down"] = false := by simp [rdW, down_no]
      rw [e, show [a, b, ("down" : Str)] = [a, b] ++ [("down" : Str)] from rfl, cut_yes]
      rfl
    · rw [show cutDown [a, b, c] = [a, b, c] from cut_no [a, b] h]
      unfold rdW loopW
      simp
      cases memB (obs ++ ibs) a <;> cases memB (obs ++ ibs) c <;> simp
  | [a, b, c, d], _ => by
    by_cases h : d = "down"
    · subst h
      rw [show cutDown [a, b, c, ("down" : Str)] = [a, b, c] from cut_yes [a, b, c]]
      unfold rdW
      simp [loopW]
      cases memB (obs ++ ibs) a <;> cases memB (obs ++ ibs) c <;> simp
    · rw [show cutDown [a, b, c, d] = [a, b, c, d] from cut_no [a, b, c] h]
      have e : rdW [a, b, c, d] = false := by simp [rdW, h]
      rw [e]
      rfl
  | a :: b :: c :: d :: e :: r, _ => by
    have e1 : rdW (a :: b :: c :: d :: e :: r) = false := by simp [rdW]
    rw [e1]
    refine loopW_len _ _ ?_
    unfold cutDown
    split
    · rw [List.length_dropLast]
      simp
    · simp
theorem ok_rd (z : Str) : okLoop (obs ++ ibs) (.str z) = rdW (Txt.split z " ") := rd_loop _ (split_ne z)
/-- what the words are then -/
theorem rd_words {ws : List Str} (h : rdW ws = true) : ∃ a c : Str, ws = [a, ("to" : Str), c] ++ (if ws.drop 3 = [("down" : Str)] then [("down" : Str)] else []) ∧ memB (obs ++ ibs) a = true ∧ memB (obs ++ ibs) c = true := by
  unfold rdW at h
  simp only [Bool.and_eq_true, decide_eq_true_eq] at h
  obtain ⟨h1, h2, h3, h4⟩ := h
  by_cases hd : ws.drop 3 = [("down" : Str)]
  · rw [if_pos hd] at h1 ⊢
    match ws, h1, hd, h2, h3, h4 with
    | [a, b, c, d], _, hd, h2, h3, h4 =>
      have hd : [d] = [("down" : Str)] := hd
      have h2 : b = "to" := h2
      cases hd
      subst h2
      exact ⟨a, c, rfl, h3, h4⟩
  · rw [if_neg hd] at h1 ⊢
    match ws, h1, hd, h2, h3, h4 with
    | [a, b, c], _, hd, h2, h3, h4 =>
      have h2 : b = "to" := h2
      subst h2
      exact ⟨a, c, rfl, h3, h4⟩
/-- the bounds of an outer loop: those without i -/
theorem outer_step {z : Str} {t1 t2 : Int × Int × Int} {d : Bool} (h : LoopR z t1 t2 d) : okLoop obs (.str z) = (decide (t1.2.1 = 0) && decide (t2.2.1 = 0)) := by
  obtain ⟨w0, w2, m0, m2, hs⟩ := h.words
  have e0 := btab_step _ m0
  have e2 := btab_step _ m2
  simp only at e0 e2
  rw [e0, e2]
  have n2 : w2 ≠ "down" := fun e => by
    have : memB (obs ++ ibs) "down" = true := memB_iff.mpr (by rw [← btab_names, ← e]; exact List.mem_map_of_mem (f := fun q : Str × Int × Int × Int => q.1) m2)
    rw [down_no] at this
    cases this
  show loopW obs (cutDown (Txt.split z " ")) = _
  rw [hs]
  cases d with
  | true =>
    rw [show cutDown ([w0, "to", w2] ++ (if true = true then [("down" : Str)] else [])) = [w0, "to", w2] from cut_yes [w0, "to", w2]]
    show (memB obs w0 && (decide (("to" : Str) = "to") && memB obs w2)) = _
    simp
  | false =>
    rw [show cutDown ([w0, "to", w2] ++ (if false = true then [("down" : Str)] else [])) = [w0, "to", w2] from cut_no [w0, "to"] n2]
    show (memB obs w0 && (decide (("to" : Str) = "to") && memB obs w2)) = _
    simp
theorem outer_inner {v : V} (h : okLoop obs v = true) : okLoop (obs ++ ibs) v = true := by
  cases v with
  | str z =>
    have h : loopW obs (cutDown (Txt.split z " ")) = true := h
    show loopW (obs ++ ibs) (cutDown (Txt.split z " ")) = true
    have up : ∀ a, memB obs a = true → memB (obs ++ ibs) a = true := fun a m => memB_iff.mpr (List.mem_append_left _ (memB_iff.mp m))
    revert h
    generalize cutDown (Txt.split z " ") = ws
    intro h
    match ws, h with
    | [a, b, c], h =>
      have h : (memB obs a && (decide (b = "to") && memB obs c)) = true := h
      show (memB (obs ++ ibs) a && (decide (b = "to") && memB (obs ++ ibs) c)) = true
      simp only [Bool.and_eq_true] at h ⊢
      exact ⟨up _ h.1, h.2.1, up _ h.2.2⟩
  | _ => cases h
theorem set_ {te : TE} {i : Nat} {D : Ends} {σ : L2.St} {H : Hp} (h : te σ H fun x H1 => D.nx (σ.set i (some x)) H1) : tAsg te (gName i) D σ H := h
theorem LoopAt.same {K : PySem.W.Frag} {H H' : Hp} {p : Addr} {z : Str} (h : LoopAt K H p z) (s : Same H H') : LoopAt K H' p z := by
  obtain ⟨a1, a2, t1, t2, d, h1, h2, h3, h4⟩ := h
  exact ⟨a1, a2, t1, t2, d, s _ _ h1, h2, h3, h4⟩
end Sq
namespace Sq
open PySem L2 TL
def top (i : Nat) : Stmt := PySem.Challenge.pw_squareloops_k09_nests_and_programs_equal.main.body.getD i (.Pass ⟨0, 0, 0, 0⟩)
section
variable {P : Program} {w : World} {K : PySem.W.Frag} {mg : Str → Option Value} {base : Heap}
abbrev s_read_loop : Stmt := top 2
theorem sc_read_loop : FnScope ["value", "words", "descends"] ["value"] (defScope s_read_loop) := ⟨rfl, rfl, rfl, by decide +kernel, rfl, by decide +kernel, by decide +kernel⟩
theorem ok_read_loop {f : Addr} {fd : FuncData} (F : Fun K "read_loop" "read_loop" s_read_loop f fd) (T : Bt mg) {aB : Addr} (mB : mg "BOUNDS" = some (.ref aB)) (DB : BndD K w aB) : FnOk P w K mg base CX0 1 f fd ["value"] (spReadL K (obs ++ ibs)) := by
  refine F.ok sc_read_loop (fun vs H Q E h => ?_) (fun cdv A outer s H vs Q E hr h => ?_)
  · obtain ⟨v, rfl, _⟩ := h
    rfl
  · obtain ⟨v, rfl, hv, qn, qs⟩ := h
    obtain ⟨LB, D, pB, eB⟩ := DB.ex
    refine ⟨_, (pss_cons (ps_set (i := 1) sc_read_loop.nd rfl (by first | exact .inl rfl | exact .inr rfl) (pe_ifExp (pt_val (pe_callB call_isi (by rfl) T.isinstance (by decide +kernel) (pa_cons (pv 0) (pa_cons (pe_bltn (v := .ty "str") (by rfl) T.str (by decide +kernel) rfl) pa_nil)))) (pe_split (pv 0) pe_str) (pe_lst pa_nil)))
        (pss_cons (ps_set (i := 2) sc_read_loop.nd rfl (by first | exact .inl rfl | exact .inr rfl) (pe_cmpR (op_eqOne hr) (pe_slice sl_list (pv 1) (po_some pe_int) po_none) (pe_lst (pa_cons pe_str pa_nil)) (nomark _)))
        (pss_cons (ps_if (PW.pt (pw_or (pt_cmpR op_ne (pe_callB call_len_seq (by rfl) T.len PySem.boot_len (pa_cons (pv 1) pa_nil)) (pe_op op_add_ib pe_int (pv 2)) (nomark _)) (pw_or (pt_cmpR op_ne (pe_ix ix_list (pv 1) pe_int (fun _ _ => rfl)) pe_str (nomark _)) (pw_or (pt_cmpR (op_notInT D) (pe_ix ix_list (pv 1) pe_int (fun _ _ => rfl)) (pe_glob (v := .ref aB) (by rfl) mB rfl) (by with_unfolding_all rfl)) (pw_or1 (pt_cmpR (op_notInT D) (pe_ix ix_list (pv 1) pe_int (fun _ _ => rfl)) (pe_glob (v := .ref aB) (by rfl) mB rfl) (by with_unfolding_all rfl)))))))
        (pss_one (ps_ret pe_non))
        pss_nil)
        (pss_one (ps_ret (pe_tup (pa_cons (pe_ix (ix_T D) (pe_glob (v := .ref aB) (by rfl) mB rfl) (pe_ix ix_list (pv 1) pe_int (fun _ _ => rfl)) (fun _ _ => rfl)) (pa_cons (pe_ix (ix_T D) (pe_glob (v := .ref aB) (by rfl) mB rfl) (pe_ix ix_list (pv 1) pe_int (fun _ _ => rfl)) (fun _ _ => rfl)) (pa_cons (pe_callTy call_int1 (by rfl) T.int (by decide +kernel) (pa_cons (pv 2) pa_nil)) pa_nil))))))))), ?_⟩
    refine sq_ (set_ (gen_of (fun x H' => ∃ (p : Addr) (ws : List Str), x = .ref p ∧ Same H H' ∧ H' p = some (.lst (ws.map V.str)) ∧ (ws = [] ∧ okLoop (obs ++ ibs) v = false ∨ ∃ z, v = .str z ∧ ws = Txt.split z " ")) (fun Q' k => ?_) ?_))
    · rcases hv with ⟨z, rfl, hz⟩ | ⟨hn, t, ht, hk⟩
      · refine ⟨_, rfl, _, _, .type "str", _, true, rfl, .ty "str", .base (.str z), kit_ty (by decide +kernel), true, rfl, ?_⟩
        refine iteT ?_
        refine ⟨_, rfl, ⟨_, rfl⟩, _, _, rfl, rfl, rfl, hz, fun p np => ?_⟩
        exact k _ _ ⟨p, _, rfl, same_new np, upd_same, .inr ⟨z, rfl, rfl⟩⟩
      · refine ⟨_, rfl, _, _, t, _, false, rfl, .ty "str", ht, hk, false, rfl, ?_⟩
        refine iteF ?_
        refine ⟨Nat.zero_le _, fun p np => ?_⟩
        exact k _ _ ⟨p, [], rfl, same_new np, upd_same, .inl ⟨rfl, okLoop_no hn⟩⟩
    rintro _ H1 ⟨p, ws, rfl, s1, hp, hw⟩
    refine nm_seq (set_ (gen_of (fun x H' => x = .bl (decide (ws.drop 3 = [("down" : Str)])) ∧ Same H1 H') (fun Q' k => ?_) ?_))
    · refine ⟨_, rfl, _, rfl, p, _, rfl, SqL.of hp, fun p2 np2 => ?_⟩
      have s2 := same_new (o := .lst (cutV (ws.map V.str) (some 3) none)) np2
      refine ⟨(by show 1 ≤ sizeLine; decide), fun p3 np3 => ?_⟩
      have s3 := same_new (o := .lst [V.str "down"]) np3
      refine ⟨p2, p3, ws.drop 3, "down", rfl, rfl, ?_, upd_same, ?_⟩
      · rw [← cut_drop ws 3]
        exact s3 _ _ upd_same
      · exact k _ _ ⟨rfl, s2.trans s3⟩
    rintro _ H2 ⟨rfl, s2⟩
    refine nm_seq (if_ ?_)
    have hp2 := s2 _ _ hp
    have sm := s1.trans s2
    have rl : okLoop (obs ++ ibs) v = rdW ws := by
      rcases hw with ⟨e1, e2⟩ | ⟨z, rfl, e1⟩
      · rw [e1, e2]
        rfl
      · rw [e1]
        exact ok_rd z
    have bad : okLoop (obs ++ ibs) v = false → Q .non H2 := fun e => qn e _ sm
    have dd : PyProof.Rows.b2i (decide (ws.drop 3 = [("down" : Str)])) = (((if ws.drop 3 = [("down" : Str)] then 1 else 0) : Nat) : Int) := by
      by_cases h : ws.drop 3 = [("down" : Str)]
      · rw [decide_eq_true h, if_pos h]
        rfl
      · rw [decide_eq_false h, if_neg h]
        rfl
    refine ⟨_, rfl, p, _, rfl, .inl (SqL.of hp2), _, rfl, _, _, rfl, rfl, rfl, _, rfl, ?_⟩
    rw [List.length_map, dd]
    refine ite2 (fun hl => ?_) (fun hl => ?_)
    · refine bad (rl.trans ?_)
      have hl : ¬ ws.length = 3 + (if ws.drop 3 = [("down" : Str)] then 1 else 0) := fun e => by
        rw [e] at hl
        simp at hl
      unfold rdW
      rw [decide_eq_false hl]
      rfl
    have hl : ws.length = 3 + (if ws.drop 3 = [("down" : Str)] then 1 else 0) := by
      refine Classical.byContradiction fun n => hl ?_
      have : ¬ (V.int (ws.length : Int) = V.int (3 + (((if ws.drop 3 = [("down" : Str)] then 1 else 0) : Nat) : Int))) := fun e => n (by have := V.int.inj e; omega)
      simpa using this
    have h3 : 3 ≤ ws.length := by omega
    have g0 : (ws.map V.str)[0]? = some (.str (ws.getD 0 "")) := by rw [List.getElem?_map, List.getD_eq_getElem?_getD, List.getElem?_eq_getElem (by omega)]; rfl
    have g1 : (ws.map V.str)[1]? = some (.str (ws.getD 1 "")) := by rw [List.getElem?_map, List.getD_eq_getElem?_getD, List.getElem?_eq_getElem (by omega)]; rfl
    have g2 : (ws.map V.str)[2]? = some (.str (ws.getD 2 "")) := by rw [List.getElem?_map, List.getD_eq_getElem?_getD, List.getElem?_eq_getElem (by omega)]; rfl
    have rl2 : rdW ws = (decide (ws.getD 1 "" = "to") && (memB (obs ++ ibs) (ws.getD 0 "") && memB (obs ++ ibs) (ws.getD 2 ""))) := by
      unfold rdW
      rw [decide_eq_true hl, Bool.true_and]
    rw [rl2] at rl
    refine ⟨_, rfl, p, _, 1, _, rfl, rfl, SqL.of hp2, atI_nat g1, rfl, _, rfl, ?_⟩
    refine ite2 (fun ht => ?_) (fun ht => ?_)
    · refine bad (rl.trans ?_)
      have ht : ¬ ws.getD 1 "" = "to" := fun e => by
        rw [e] at ht
        simp at ht
      rw [decide_eq_false ht]
      rfl
    have ht : ws.getD 1 "" = "to" := by
      refine Classical.byContradiction fun n => ht ?_
      have : ¬ (V.str (ws.getD 1 "") = V.str "to") := fun e => n (V.str.inj e)
      simpa using this
    rw [decide_eq_true ht, Bool.true_and] at rl
    refine ⟨_, rfl, p, _, 0, _, rfl, rfl, SqL.of hp2, atI_nat g0, _, rfl, rfl, _, rfl, ?_⟩
    rw [bnd_none eB]
    cases m0 : memB (obs ++ ibs) (ws.getD 0 "") with
    | false =>
      refine iteT (bad (rl.trans ?_))
      rw [m0]
      rfl
    | true =>
    refine iteF ?_
    refine ⟨_, rfl, p, _, 2, _, rfl, rfl, SqL.of hp2, atI_nat g2, _, rfl, rfl, _, rfl, ?_⟩
    rw [bnd_none eB]
    cases m2 : memB (obs ++ ibs) (ws.getD 2 "") with
    | false =>
      refine iteT (bad (rl.trans ?_))
      rw [m0, m2]
      rfl
    | true =>
    refine iteF ?_
    obtain ⟨a1, t1, l1, b1, i1⟩ := bnd_some pB eB m0
    obtain ⟨a2, t2, l2, b2, i2⟩ := bnd_some pB eB m2
    refine ⟨_, rfl, p, _, 0, _, rfl, rfl, SqL.of hp2, atI_nat g0, _, _, rfl, rfl, l1, ?_⟩
    refine ⟨_, rfl, p, _, 2, _, rfl, rfl, SqL.of hp2, atI_nat g2, _, _, rfl, rfl, l2, ?_⟩
    refine ⟨_, rfl, .inr ⟨_, rfl, ?_⟩⟩
    refine ⟨(by show 3 ≤ sizeLine; decide), fun t nt => ?_⟩
    rw [m0, m2] at rl
    have st := same_new (o := .tup [.ref a1, .ref a2, .int (if decide (ws.drop 3 = [("down" : Str)]) = true then 1 else 0)]) nt
    have nH : H t = none := by
      cases e : H t with
      | none => rfl
      | some o => rw [sm _ _ e] at nt; cases nt
    have rw' : rdW ws = true := rl2.trans (by rw [decide_eq_true ht, m0, m2]; rfl)
    obtain ⟨a, c, ew, ma, mc⟩ := rd_words rw'
    have ea : ws.getD 0 "" = a := by rw [ew]; rfl
    have ec : ws.getD 2 "" = c := by rw [ew]; rfl
    rw [ea] at i1
    rw [ec] at i2
    rcases hw with ⟨e1, _⟩ | ⟨z, rfl, e1⟩
    · rw [e1] at h3
      cases h3
    exact qs rl z t _ rfl nH (sm.trans st) ⟨a1, a2, t1, t2, decide (ws.drop 3 = [("down" : Str)]), upd_same, b1, b2, ⟨a, c, i1, i2, by
      rw [← e1, ew]
      congr 1
      by_cases h : ws.drop 3 = [("down" : Str)]
      · rw [← ew, if_pos h, decide_eq_true h, if_pos rfl]
      · rw [← ew, if_neg h, decide_eq_false h]
        rfl⟩⟩
end
end Sq
namespace Sq
open PySem L2 TL
section
variable {P : Program} {w : World} {K : PySem.W.Frag} {mg : Str → Option Value} {base : Heap}
def spFirst (K : PySem.W.Frag) : Sp := fun vs H Q _ => ∃ (p : Addr) (m : Nat) (bs : List Bool), vs = [.ref p, .int (m : Int)] ∧ SqL K H p (bs.map V.bl) ∧ ∀ H', Same H H' → Q (optV (fw 0 m bs)) H'
abbrev s_read_outer_loop : Stmt := top 3
theorem sc_read_outer_loop : FnScope ["value", "loop", "_", "steps", "more_steps"] ["value"] (defScope s_read_outer_loop) := ⟨rfl, rfl, rfl, by decide +kernel, rfl, by decide +kernel, by decide +kernel⟩
theorem ok_read_outer_loop {f : Addr} {fd : FuncData} (F : Fun K "read_outer_loop" "read_outer_loop" s_read_outer_loop f fd) (T : Bt mg) (G_read_loop : FB P w K mg base "read_loop" 1 ["value"] (spReadL K (obs ++ ibs))) : FnOk P w K mg base CX0 2 f fd ["value"] (spReadL K obs) := by
  refine F.ok sc_read_outer_loop (fun vs H Q E h => ?_) (fun cdv A outer s H vs Q E hr h => ?_)
  · obtain ⟨v, rfl, _⟩ := h
    rfl
  · obtain ⟨v, rfl, hv, qn, qs⟩ := h
    refine ⟨_, (pss_cons (ps_set (i := 1) sc_read_outer_loop.nd rfl (by first | exact .inl rfl | exact .inr rfl) (pe_fb G_read_loop hr (by decide) (by rfl) (pa_cons (pv 0) pa_nil)))
        (pss_cons (ps_if (pt_cmpR op_isN (pv 1) pe_non (nomark _))
        (pss_one (ps_ret pe_non))
        pss_nil)
        (pss_cons (ps_asg (pv 1) (pg_tup (by rfl) (pgs_cons (pg_tup (by rfl) (pgs_cons (pg_name (i := 2) sc_read_outer_loop.nd rfl (by first | exact .inl rfl | exact .inr rfl)) (pgs_cons (pg_name (i := 3) sc_read_outer_loop.nd rfl (by first | exact .inl rfl | exact .inr rfl)) (pgs_cons (pg_name (i := 2) sc_read_outer_loop.nd rfl (by first | exact .inl rfl | exact .inr rfl)) pgs_nil)))) (pgs_cons (pg_tup (by rfl) (pgs_cons (pg_name (i := 2) sc_read_outer_loop.nd rfl (by first | exact .inl rfl | exact .inr rfl)) (pgs_cons (pg_name (i := 4) sc_read_outer_loop.nd rfl (by first | exact .inl rfl | exact .inr rfl)) (pgs_cons (pg_name (i := 2) sc_read_outer_loop.nd rfl (by first | exact .inl rfl | exact .inr rfl)) pgs_nil)))) (pgs_cons (pg_name (i := 2) sc_read_outer_loop.nd rfl (by first | exact .inl rfl | exact .inr rfl)) pgs_nil)))))
        (pss_one (ps_ret (pe_ifExp (PW.pt (pw_and (pt_cmpR op_eq (pv 3) pe_int (nomark _)) (pw_and1 (pt_cmpR op_eq (pv 4) pe_int (nomark _))))) (pv 1) pe_non)))))), ?_⟩
    refine sq_ (set_ ?_)
    refine ⟨_, rfl, v, rfl, hv, fun e H1 s1 => ?_, fun e z p H1 ez np s1 hp => ?_⟩
    · refine nm_seq (if_ ?_)
      refine ⟨_, rfl, rfl, _, rfl, ?_⟩
      refine iteT ?_
      refine qn ?_ H1 s1
      cases e2 : okLoop obs v with
      | false => rfl
      | true => rw [outer_inner e2] at e; cases e
    · subst ez
      obtain ⟨a1, a2, t1, t2, d, h1, b1, b2, h3⟩ := hp
      have st := outer_step h3
      refine nm_seq (if_ ?_)
      refine ⟨_, rfl, rfl, _, rfl, ?_⟩
      refine iteF ?_
      refine ⟨_, rfl, p, _, rfl, SqT.of h1, rfl, _, _, rfl, a1, _, rfl, b1 _, rfl, _, _, rfl, _, _, rfl, _, _, rfl, rfl, _, _, rfl, a2, _, rfl, b2 _, rfl, _, _, rfl, _, _, rfl, _, _, rfl, rfl, _, _, rfl, rfl, ?_⟩
      have no : okLoop obs (.str z) = false → Q .non H1 := fun e => qn e _ s1
      refine ⟨_, rfl, rfl, _, rfl, ?_⟩
      by_cases c1 : t1.2.1 = 0
      · rw [show decide (V.int t1.2.1 = V.int 0) = true by rw [c1]; rfl]
        refine iteT ?_
        refine ⟨_, rfl, rfl, _, rfl, ?_⟩
        by_cases c2 : t2.2.1 = 0
        · rw [show decide (V.int t2.2.1 = V.int 0) = true by rw [c2]; rfl]
          refine iteT ?_
          refine ⟨_, rfl, ?_⟩
          exact qs (by rw [st, c1, c2]; rfl) z p H1 rfl np s1 ⟨a1, a2, t1, t2, d, h1, b1, b2, h3⟩
        · have : decide (V.int t2.2.1 = V.int 0) = false := decide_eq_false fun e => c2 (V.int.inj e)
          rw [this]
          refine iteF ?_
          exact no (by rw [st, decide_eq_false c2, Bool.and_false])
      · have : decide (V.int t1.2.1 = V.int 0) = false := decide_eq_false fun e => c1 (V.int.inj e)
        rw [this]
        refine iteF ?_
        exact no (by rw [st, decide_eq_false c1, Bool.false_and])
abbrev s_first_wrong : Stmt := top 5
theorem sc_first_wrong : FnScope ["rights", "most", "index", "right"] ["rights", "most"] (defScope s_first_wrong) := ⟨rfl, rfl, rfl, by decide +kernel, rfl, by decide +kernel, by decide +kernel⟩
theorem ok_first_wrong {f : Addr} {fd : FuncData} (F : Fun K "first_wrong" "first_wrong" s_first_wrong f fd) (T : Bt mg)  : FnOk P w K mg base CX0 1 f fd ["rights", "most"] (spFirst K) := by
  refine F.ok sc_first_wrong (fun vs H Q E h => ?_) (fun cdv A outer s H vs Q E hr h => ?_)
  · obtain ⟨p, m, bs, rfl, _⟩ := h
    rfl
  · obtain ⟨p, m, bs, rfl, hp, q⟩ := h
    refine ⟨_, (pss_cons (ps_for PassesOwn.never rfl (pi_enum (by rfl) T.enumerate (pa_cons (pv 0) pa_nil)) (pg_tup (by rfl) (pgs_cons (pg_name (i := 2) sc_first_wrong.nd rfl (by first | exact .inl rfl | exact .inr rfl)) (pgs_cons (pg_name (i := 3) sc_first_wrong.nd rfl (by first | exact .inl rfl | exact .inr rfl)) pgs_nil)))
        (pss_one (ps_if (PW.pt (pw_or (pt_cmpR op_eq (pv 2) (pv 1) (nomark _)) (pw_or1 (pt_not (pt_val (pv 3))))))
        (pss_one (ps_ret (pv 2)))
        pss_nil)))
        (pss_one (ps_ret pe_non))), ?_⟩
    refine ⟨_, rfl, p, _, rfl, hp, ?_⟩
    refine for_it (walk_enum (xs := bs.map V.bl)) (fun i σ H' => (∃ v1 v2, σ = [some (.ref p), some (.int (m : Int)), v1, v2]) ∧ Same H H' ∧ fw 0 m bs = fw i m (bs.drop i)) ⟨⟨_, _, rfl⟩, Same.refl _, rfl⟩
      (fun i σ H' _ h => SqL.ext hp h.2.1) (fun i x σ H' H'' hi h y => ?_) (fun σ H' h => ?_)
    · obtain ⟨⟨v1, v2, rfl⟩, sm, hfw⟩ := h
      obtain ⟨T, x1, x2, rfl, hT, rfl, e1, e2⟩ := y
      cases e1
      have e2 : (bs.map V.bl)[i]? = some x2 := e2
      rw [List.getElem?_map] at e2
      have hlt : i < bs.length := by simpa using hi
      rw [List.getElem?_eq_getElem hlt] at e2
      cases e2
      rw [List.drop_eq_getElem_cons hlt] at hfw
      have sm2 : Same H (upd H' T (.tup [.int (i : Int), .bl bs[i]])) := sm.trans (same_new hT)
      refine ⟨T, _, rfl, SqT.of upd_same, rfl, _, _, rfl, _, _, rfl, rfl, ?_⟩
      refine ⟨_, rfl, _, rfl, rfl, _, rfl, ?_⟩
      refine ite2 (fun hm => ?_) (fun hm => ?_)
      · have e3 : i = m := Int.ofNat.inj (V.int.inj (of_decide_eq_true hm))
        refine ⟨_, rfl, ?_⟩
        have z := q _ sm2
        rw [hfw] at z
        unfold fw at z
        rw [if_pos (.inl e3)] at z
        exact z
      · have e3 : ¬ i = m := fun e => hm (decide_eq_true (by rw [e]))
        refine ⟨_, rfl, _, rfl, ?_⟩
        cases hb : bs[i] with
        | false =>
          refine iteT ?_
          refine ⟨_, rfl, ?_⟩
          have z := q _ sm2
          rw [hfw] at z
          unfold fw at z
          rw [if_pos (.inr hb)] at z
          rw [hb] at z
          exact z
        | true =>
          refine iteF ?_
          rw [hb] at sm2
          refine ⟨⟨_, _, rfl⟩, sm2, hfw.trans ?_⟩
          show (if i = m ∨ bs[i] = false then some i else fw (i + 1) m (bs.drop (i + 1))) = _
          rw [if_neg (fun e => e.elim e3 fun z => by rw [hb] at z; cases z)]
    · obtain ⟨⟨v1, v2, rfl⟩, sm, hfw⟩ := h
      have z := q _ sm
      rw [hfw, List.length_map, List.drop_length] at z
      exact z
end
end Sq
namespace Sq
open PySem L2 PySem.Spec PyProof.Rows
/-! ### d.get(key, x), d a written dict with texts as keys -/
def tGetT (d : Addr) (tab : List (Str × V)) (ty tx : TE) : TE := fun σ H Q => ty σ H fun y H1 => tx σ H1 fun z H2 => ∃ k : Str, y = .str k ∧ Q ((tab.lookup k).getD z) H2
theorem pe_getT {X : Cx} {d : Addr} {tab : List (Str × V)} {e f : Expr} {x : Str} {p apos cpos : Pos} {ty tx : TE} (D : TDict X.K X.w d tab) (hg : Gl X x) (hm : X.mg x = some (.ref d)) (he : PE X e ty) (hf : PE X f tx) (m : M2 X (.Name x p) "get" apos e f cpos) (hdb : (x == ("__debug__" : Str)) = false := by decide) :
    PE X (.Call (.Attribute (.Name x p) "get" apos) [e, f] [] cpos) (tGetT d tab ty tx) := by
  refine ⟨fun pins s σ H Q I h => ?_⟩
  obtain ⟨es, n, kd, hz⟩ := D.ex
  have ho : PE X (.Name x p) (tC (.ref d)) := pe_glob hg hm rfl hdb
  refine wpAny_Call_method m.base m.few m.line PySem.F.plainAttrs_dict PySem.F.slot_dict_get PySem.F.type_dict_get (thn (ho.run pins s σ H (fun v H1 => v = .ref d ∧ H1 = H) I ⟨rfl, rfl⟩) fun u s1 ⟨v, H1, I1, rx, ev, eH⟩ => ?_)
  subst ev eH
  obtain rfl : u = Value.ref d := rx
  have mp := PySem.W.mapOf_K (prog := X.prog) (w := X.w) I1.kIn kd.at_ kd.lit
  refine ⟨mp.typeIs, mp.noDict, ?_⟩
  rw [m.trees]
  refine Calls.callWith_builtin rfl (Calls.evalArgs_plain (Calls.spliced_cons (thn (he.run pins s1 σ _ _ I1 h) fun iv s2 ⟨y, H2, I2, ry, q2⟩ =>
    Calls.spliced_cons (thn (hf.run pins s2 σ H2 _ I2 q2) fun fv s3 ⟨z, H3, I3, rz, k, ey, q3⟩ => Calls.spliced_nil ?_))))
  subst ey
  obtain ⟨t, rfl⟩ := ry
  have hk := hz k
  have mp3 := PySem.W.mapOf_K (prog := X.prog) (w := X.w) I3.kIn kd.at_ kd.lit
  refine call_meetsIn PySem.F.slot_dict_get mp3.typeIs PySem.F.entry_dict_get (PySem.F.args_dict_get_3 _ _ _) (meets_dict_get_default (strKind X.prog X.w) d (strKind_is X.prog X.w k t) kd.low fv) ⟨_, mp3, ?_⟩
  cases hl : tab.lookup k with
  | none =>
    rw [hl] at hk q3
    rw [PySem.W.find_K kd.at_ hk]
    exact ⟨z, H3, I3.tok _, rz, q3⟩
  | some v0 =>
    rw [hl] at hk q3
    obtain ⟨u0, e0, r0⟩ := hk
    rw [PySem.W.find_K kd.at_ e0]
    exact ⟨v0, H3, I3.tok _, r0, q3⟩
/-! ### len(set(xs)), a list of numbers -/
theorem met_len (ns : List Int) : ∀ i, i ≤ ns.length → (∀ x, x ∈ PyProof.Rows.firstMet (fun i => ns.getD i 0) i ↔ x ∈ ns.take i) ∧ ((PyProof.Rows.firstMet (fun i => ns.getD i 0) i).length = i ↔ (ns.take i).Nodup) ∧ (PyProof.Rows.firstMet (fun i => ns.getD i 0) i).length ≤ i
  | 0, _ => ⟨fun x => by rw [PyProof.Rows.firstMet_zero, List.take_zero], by rw [PyProof.Rows.firstMet_zero, List.take_zero]; simp, Nat.le_refl _⟩
  | i + 1, hi => by
    have hlt : i < ns.length := hi
    have e1 : ns.getD i 0 = ns[i] := by rw [List.getD_eq_getElem?_getD, List.getElem?_eq_getElem hlt] <;> rfl
    have e2 : ns.take (i + 1) = ns.take i ++ [ns[i]] := by rw [List.take_add_one, List.getElem?_eq_getElem hlt] <;> rfl
    obtain ⟨m1, m2, m3⟩ := met_len ns i (Nat.le_of_lt hlt)
    have st : PyProof.Rows.firstMet (fun i => ns.getD i 0) (i + 1) = if ns[i] ∈ ns.take i then PyProof.Rows.firstMet (fun i => ns.getD i 0) i else PyProof.Rows.firstMet (fun i => ns.getD i 0) i ++ [ns[i]] := by
      rw [PyProof.Rows.firstMet_succ]
      unfold PyProof.Rows.step_dedup
      rw [e1]
      by_cases h : ns[i] ∈ ns.take i
      · have h' := (m1 _).mpr h
        rw [if_pos h, if_pos (by simpa using h')]
      · have h' : ¬ ns[i] ∈ PyProof.Rows.firstMet (fun i => ns.getD i 0) i := fun z => h ((m1 _).mp z)
        rw [if_neg h, if_neg (by simpa using h')]
    rw [st, e2]
    by_cases h : ns[i] ∈ ns.take i
    · rw [if_pos h]
      refine ⟨fun x => ?_, ?_, by omega⟩
      · rw [m1, List.mem_append, List.mem_singleton]
        exact ⟨.inl, fun z => z.elim id fun e => e ▸ h⟩
      · constructor
        · intro z
          omega
        · intro z
          rw [List.nodup_append] at z
          exact absurd rfl (z.2.2 _ h _ (List.mem_singleton.mpr rfl))
    · rw [if_neg h]
      refine ⟨fun x => ?_, ?_, by rw [List.length_append, List.length_singleton]; omega⟩
      · rw [List.mem_append, List.mem_append, m1]
      · rw [List.length_append, List.length_singleton, List.nodup_append]
        constructor
        · intro z
          refine ⟨m2.mp (by omega), by simp, fun a ha b hb => ?_⟩
          rw [List.mem_singleton.mp hb]
          exact fun e => h (e ▸ ha)
        · rintro ⟨z, _⟩
          rw [m2.mpr z]
def cntI (ns : List Int) : Nat := (PyProof.Rows.firstMet (fun i => ns.getD i 0) ns.length).length
theorem cnt_le (ns : List Int) : cntI ns ≤ ns.length := (met_len ns _ (Nat.le_refl _)).2.2
theorem cnt_nodup (ns : List Int) : cntI ns = ns.length ↔ ns.Nodup := by
  have z := (met_len ns _ (Nat.le_refl _)).2.1
  rw [List.take_length] at z
  exact z
def tLenSetN (K : PySem.W.Frag) (ta : TE) : TE := fun σ H Q => ta σ H fun x H1 => ∃ (l : Addr) (ns : List Int), x = .ref l ∧ SqL K H1 l (ns.map V.int) ∧ ns.length ≤ 4000 ∧ Q (.int (cntI ns : Nat)) H1
theorem pe_lenSetN {X : Cx} {a : Expr} {ta : TE} {p p2 q pos : Pos} (hg : Gl X "len") (hm : X.mg "len" = none) (hg2 : Gl X "set") (hm2 : X.mg "set" = none) (ha : PE X a ta) (hc : X.calm = true := by rfl)
    (na : starEach [a] X.env = (false, eval a X.env) :: starEach [] X.env := by rfl) : PE X (.Call (.Name "len" p) [.Call (.Name "set" p2) [a] [] q] [] pos) (tLenSetN X.K ta) := by
  refine ⟨fun pins s σ H Q I h => ?_⟩
  refine Call_ (ld_blt I hg hm boot_len ?_)
  refine PyProof.Rows.callWith_builtin1 (PyProof.Rows.args_cons ?_ rfl) rfl rfl
  refine Call_ (ld_blt I hg2 hm2 boot_set ?_)
  refine PyProof.Rows.callWith_type1 (PyProof.Rows.args_cons (thn (ha.run pins s σ H _ I h) fun v s1 ⟨x, H1, I1, r1, q1⟩ => PyProof.Rows.args_nil ?_) na) na rfl
  obtain ⟨l, ns, rfl, hq, hl, q1⟩ := q1
  cases r1
  obtain ⟨its, r, pl, hz⟩ := I1.list hq
  have hlen : its.toArray.size = ns.length := by rw [List.size_toArray, ← r.length, List.length_map]
  refine call_set_list (I1.ok.hd hc) pl.isList (by simpa using RZ.intsAre_vals r) (by rw [hlen]; unfold scanBound; omega) fun h' tk hS hk => ?_
  refine PyProof.Rows.args_nil ?_
  rw [hlen] at hS
  obtain ⟨o, es, ep, t, ho, hex, hd, _, _, _, hf, hn⟩ := hS
  have I2 : Inv X pins σ H1 { s1 with heap := h', toks := tk } := I1.kept fun b o e => hk b o (Heap.lt_size e) e
  have hc := cnt_le ns
  unfold cntI at hc
  exact call_len_set ho hex hd hf (by rw [hn] <;> omega) ⟨.int (cntI ns : Nat), H1, I2.tok _, ⟨_, by rw [hn]; rfl⟩, q1⟩
end Sq
namespace Sq
open PySem L2 PySem.Spec PyProof.Rows
/-- how many different texts -/
def dcount : List Str → Nat
  | [] => 0
  | x :: r => if r.any (· == x) = true then dcount r else dcount r + 1
theorem dcount_le : ∀ xs : List Str, dcount xs ≤ xs.length
  | [] => Nat.le_refl _
  | x :: r => by
    have ih := dcount_le r
    unfold dcount
    rw [List.length_cons]
    split <;> omega
/-- of the first i texts, looked at from the last -/
def seen (xs : List Str) (i : Nat) : List Str := (xs.take i).reverse
theorem seen_succ {xs : List Str} {i : Nat} {x : Str} (h : xs[i]? = some x) : seen xs (i + 1) = x :: seen xs i := by
  unfold seen
  rw [List.take_add_one, h]
  simp
section
variable {prog : Program} {w : World} {A : Around} {R : Result → Shared → Prop} {I : Addr} {fp wr : List Addr} {G : Array GenState → Array GenState → Prop} {n : Nat} {P : Nat → Value → Prop} {St : Nat → Shared → Prop}
/-- set.update over any walk of texts -/
theorem grow_set (W : WalksS prog w A.in1 I fp wr G n P St) (S : Addr) (hSf : S ∉ fp) (xs : List Str) (hval : ∀ i v, P i v → ∃ x t, xs[i]? = some x ∧ v = .str x t) (hz : n = xs.length) (hb : n + 1 < scanBound) :
    ∀ (k i : Nat) (s : Shared), n - i = k → i ≤ n → St i s → s.heap.SetOf (PySem.strKind prog w) S (fun k => (seen xs i).any (· == k)) (dcount (seen xs i)) →
      (∀ s', Moved (S :: wr) G s s' → s'.heap.SetOf (PySem.strKind prog w) S (fun k => (seen xs n).any (· == k)) (dcount (seen xs n)) → R (.ok (.ret .none)) s') →
      codeAny (model prog w) A (.builtin "set.update.loop" ⟨[.ref S, .ref I], []⟩) R s := by
  have nSw : S ∉ wr := fun h => hSf (W.sub _ h)
  have more : ∀ b ∈ wr, b ∈ S :: wr := fun b hb => List.mem_cons_of_mem _ hb
  have carry : ∀ {s s' : Shared} {T : Str → Bool} {m : Nat}, Moved wr G s s' → s.heap.SetOf (PySem.strKind prog w) S T m → s'.heap.SetOf (PySem.strKind prog w) S T m := fun {s s' T m} hm hS => by
    obtain ⟨o, es, ep, tb, ho, rest⟩ := hS
    exact ⟨o, es, ep, tb, hm.heap S _ nSw ho, rest⟩
  intro k
  induction k with
  | zero =>
    intro i s hk hi hst hS hR
    obtain rfl : i = n := by omega
    apply codeAny_builtin PyProof.Rows.F.entry_set_update_loop
    rw [Around.under_plainId PyProof.Rows.F.plain_set_update_loop _]
    show wpAny _ A.in1 (pyNext (.ref I) >>= _) _ _ s
    exact wpAny_bind (W.done s _ _ hst fun s' hm => wpAny_pure (hR s' (hm.mono more) (carry hm hS)))
  | succ k ih =>
    intro i s hk hi hst hS hR
    have hlt : i < n := by omega
    apply codeAny_builtin PyProof.Rows.F.entry_set_update_loop
    rw [Around.under_plainId PyProof.Rows.F.plain_set_update_loop _]
    show wpAny _ A.in1 (pyNext (.ref I) >>= _) _ _ s
    refine wpAny_bind (W.item i s _ _ hlt hst fun v s' hP hst' hm => ?_)
    obtain ⟨x, t, hx, rfl⟩ := hval i v hP
    have hS1 := carry hm hS
    have room : dcount (seen xs i) + 1 < scanBound := by
      have h1 := dcount_le (seen xs i)
      have h2 : (seen xs i).length ≤ i := by
        unfold seen
        rw [List.length_reverse, List.length_take]
        omega
      omega
    show wpAny _ A.in1 (holding [Value.str x t] (setAdd S (.str x t)) >>= _) _ _ s'
    apply wpAny_bind
    apply wpAny_holding
    unfold setAdd
    apply wpAny_holding
    refine wpAny_bind ((PySem.strKind prog w).pyHash (k := x) (strKind_is _ _ _ _) ?_)
    refine wpAny_setAddHashed_of (knd := PySem.strKind prog w) (s := { s' with toks := s'.toks + 1 }) (strKind_is _ _ _ _) rfl hS1 room fun h' same hS2 => ?_
    have next : h'.SetOf (PySem.strKind prog w) S (fun k => (seen xs (i + 1)).any (· == k)) (dcount (seen xs (i + 1))) := by
      rw [seen_succ hx]
      refine SetOf_congr hS2 (fun k' => ?_) ?_
      · rw [List.any_cons, Bool.or_comm]
        by_cases e : k' = x
        · subst e
          simp
        · have e2 : ¬ x = k' := fun q => e q.symm
          simp [e, e2]
      · show (if (seen xs i).any (· == x) = true then dcount (seen xs i) else dcount (seen xs i) + 1) = _
        rfl
    refine wpAny_pure ⟨plainId_quiet PyProof.Rows.F.plain_set_update_loop _, ih (i + 1) _ (by omega) hlt (W.frame _ s' _ _ hst' (Nat.le_succ _) fun b hb o e => ?_) next fun s'' hm2 hS3 => hR s'' ?_ hS3⟩
    · rw [same.2 b fun q => hSf (q ▸ hb)]
      exact e
    · refine Moved.trans W.gtrans ((hm.mono more).then_heap (Nat.le_succ _) fun b o hb e => ?_) hm2
      rw [same.2 b fun q => hb (q ▸ List.mem_cons_self)]
      exact e
end
section
variable {prog : Program} {w : World} {A : Around} {E : Value → Shared → Prop} {s : Shared}
theorem strs_get : ∀ {us : List Value} {xs : List Str}, Vals (xs.map V.str) us → ∀ (i : Nat) (v : Value), us[i]? = some v → ∃ x t, xs[i]? = some x ∧ v = .str x t
  | [], [], _, i, v, h => by simp at h
  | u :: us, x :: xs, .cons r q, 0, v, h => by
    obtain ⟨t, e⟩ := r
    refine ⟨x, t, rfl, ?_⟩
    rw [← e]
    simpa using h.symm
  | u :: us, x :: xs, .cons r q, i + 1, v, h => by
    obtain ⟨y, t, h1, h2⟩ := strs_get q i v (by simpa using h)
    exact ⟨y, t, by simpa using h1, h2⟩
  | [], _ :: _, r, _, _, _ => by cases r
  | _ :: _, [], r, _, _, _ => by cases r
set_option maxHeartbeats 16000000 in
/-- set(xs) of a list of texts -/
theorem set_of_list {l : Addr} {items : Array Value} {xs : List Str} {Q : Value → Shared → Prop} (hh : A.handled = none) (hl : s.heap.IsList l items) (hi : Vals (xs.map V.str) items.toList) (hb : items.size + 1 < scanBound)
    (h : ∀ (h' : Heap) (tk : Nat), h'.SetOf (PySem.strKind prog w) s.heap.objs.size (fun k => (seen xs items.size).any (· == k)) (dcount (seen xs items.size)) →
      (∀ b o, b < s.heap.objs.size → s.heap.get? b = some o → h'.get? b = some o) → Q (.ref s.heap.objs.size) { s with heap := h', toks := tk }) :
    wpAny (model prog w) A (call (.type "set") [.ref l]) Q E s := by
  have c0 := PySem.F.called_set
  obtain ⟨c, tl, hmro⟩ := c0.mro
  have hmade := c0.made
  have hsub := c0.sub
  apply wpAny_call
  apply codeAny_of_tree
  show wpAny _ _ (callAny (.type "set") _) _ _ _
  apply wpAny_pure
  refine ⟨Code.quiet_builtin _ (by decide +kernel), codeAny_builtin PySem.F.entry_type_call ?_⟩
  rw [Around.under_plain (weight_type_call_type "set" [.ref l] []) rfl]
  have h1 := c0.notType
  have h2 := c0.canCreate
  have hct := PySem.F.typeCall_set_1 (.ref l)
  repeat (any_goals (first | assumption | wp_step))
  refine codeAny_mono (code_set_new_1 (.ref l) (E := E) (Q₁ := fun obj z => ∃ led : Bool, obj = .ref s.heap.objs.size ∧ z = { s with heap := s.heap.push { cls := .type "set", dict := none, data := .set #[] 0 (.fresh 0 0 led) } })
    fun led => ⟨led, rfl, rfl⟩) ?_
  rintro (er | (obj | _ | _ | _)) z hr
  case error => exact hr
  case ok.next => exact hr.elim
  case ok.brk => exact hr.elim
  case ok.cont => exact hr.elim
  obtain ⟨led, e1, rfl⟩ := hr
  cases e1
  let o0 : Obj := { cls := .type "set", dict := none, data := .set #[] 0 (.fresh 0 0 led) }
  have at0 : (s.heap.push o0).get? s.heap.objs.size = some o0 := Heap.get?_push_size _ rfl
  have hT : Shared.TypeIs { s with heap := s.heap.push o0 } (.ref s.heap.objs.size) "set" := ⟨_, at0, rfl⟩
  have hli := c0.init.lookup
  have hbi := c0.init.bind (.ref s.heap.objs.size)
  repeat (any_goals (first | assumption | wp_step))
  refine codeAny_mono (codeAny_call_builtin (R := wants (fun r z => r = .none ∧ ∃ h' tk, z = { s with heap := h', toks := tk } ∧
      h'.SetOf (PySem.strKind prog w) s.heap.objs.size (fun k => (seen xs items.size).any (· == k)) (dcount (seen xs items.size)) ∧
      (∀ b o, b < s.heap.objs.size → s.heap.get? b = some o → h'.get? b = some o)) E) c0.init.plain PySem.F.entry_set_init (check_set_init_1 hT ?_)) ?_
  · obtain ⟨⟨lc, ld, ldat, ls⟩, hol, hcl, nl, hdl⟩ := hl
    simp only at hcl hdl
    subst hcl hdl
    have lt : l < s.heap.objs.size := Heap.lt_size hol
    have hol1 : (s.heap.push o0).get? l = some { cls := .type "list", dict := ld, data := .seq items nl, slots := ls } := Heap.get?_push_of_some _ hol
    have z1 := PySem.F.sub_list_set
    have z2 := PySem.F.sub_list_frozenset
    have z3 : (Value.type "list" == Value.type "dict") = false := by decide
    have hl1 : (s.heap.push o0).IsList l items := ⟨_, hol1, rfl, nl, rfl⟩
    unfold Builtin.«set.__init__» noKeywords Builtin.Frozenset.updateFrom
    generalize hPI : pyIter = PI
    wp_walk
    subst hPI
    refine wpAny_pyIter_list hl1 (wpAny_bind (wpAny_runValue ?_))
    have sz1 : (s.heap.push o0).objs.size = s.heap.objs.size + 1 := Heap.size_push _ _
    have hh3 : A.in1.in1.in1.handled = none := by simp [hh]
    have neI : l ≠ (s.heap.push o0).objs.size := by rw [sz1]; exact Nat.ne_of_lt (Nat.lt_succ_of_lt lt)
    have nfp : s.heap.objs.size ∉ [(s.heap.push o0).objs.size, l] := by
      rw [sz1]
      simp only [List.mem_cons, List.not_mem_nil, or_false, not_or]
      exact ⟨Nat.ne_of_lt (Nat.lt_succ_self _), Nat.ne_of_gt lt⟩
    have hsz : items.size = xs.length := by
      have e := hi.length
      rw [List.length_map, Array.length_toList] at e
      exact e.symm
    refine grow_set ((Walks.list hh3 _ l neI items).toS) s.heap.objs.size nfp xs (fun i v hv => strs_get hi i v (by rw [Array.getElem?_toList]; exact hv)) hsz hb items.size 0 _ rfl (Nat.zero_le _)
      ⟨⟨_, Heap.get?_push_size _ rfl, rfl, rfl⟩, hl1.push _⟩ ?_ ?_
    · have get2 : ((s.heap.push o0).push { cls := .type "list_iterator", data := .fields #[.ref l, .int 0 0] }).get? s.heap.objs.size = some o0 := Heap.get?_push_of_some _ at0
      exact SetOf_congr ((PyProof.Rows.setObjOf_fresh (knd := PySem.strKind prog w) led).setOf get2 (by unfold scanBound; omega)) (fun _ => rfl) rfl
    · intro s' hm hS'
      obtain ⟨h', g', d', tk', os'⟩ := s'
      obtain rfl : g' = s.gens := hm.gens
      obtain rfl : d' = s.drawn := hm.drawn
      obtain rfl : os' = s.os := hm.os
      show wpAny _ _ _ _ _ _
      apply wpAny_pure
      show wpAny _ _ (ret Value.none) _ _ _
      refine wpAny_pure ⟨rfl, h', tk', rfl, hS', fun b o hb e => ?_⟩
      refine hm.heap b o ?_ (Heap.get?_push_of_some _ (Heap.get?_push_of_some _ e))
      rw [sz1]
      simp only [List.mem_cons, List.not_mem_nil, or_false, not_or]
      exact ⟨Nat.ne_of_lt hb, Nat.ne_of_lt (Nat.lt_succ_of_lt hb)⟩
  · rintro (er | (r | _ | _ | _)) z hr
    case error => exact hr
    case ok.next => exact hr.elim
    case ok.brk => exact hr.elim
    case ok.cont => exact hr.elim
    obtain ⟨rfl, h', tk, rfl, hS', hk'⟩ := hr
    repeat (any_goals (first | assumption | wp_step))
    exact h _ _ hS' hk'
end

/-- len(set(xs)), xs a list of texts -/
def tLenSetS (K : PySem.W.Frag) (ta : TE) : TE := fun σ H Q => ta σ H fun x H1 => ∃ (l : Addr) (xs : List Str), x = .ref l ∧ SqL K H1 l (xs.map V.str) ∧ xs.length ≤ 4000 ∧ Q (.int (dcount xs.reverse : Nat)) H1
theorem pe_lenSetS {X : Cx} {a : Expr} {ta : TE} {p p2 q pos : Pos} (hg : Gl X "len") (hm : X.mg "len" = none) (hg2 : Gl X "set") (hm2 : X.mg "set" = none) (ha : PE X a ta) (hc : X.calm = true := by rfl)
    (na : starEach [a] X.env = (false, eval a X.env) :: starEach [] X.env := by rfl) : PE X (.Call (.Name "len" p) [.Call (.Name "set" p2) [a] [] q] [] pos) (tLenSetS X.K ta) := by
  constructor
  intro pins s σ H Q I h
  refine Call_ (ld_blt I hg hm boot_len (PyProof.Rows.callWith_builtin1 (PyProof.Rows.args_cons ?_ rfl) rfl rfl))
  refine Call_ (ld_blt I hg2 hm2 boot_set (PyProof.Rows.callWith_type1 (PyProof.Rows.args_cons (thn (ha.run pins s σ H _ I h) ?_) na) na rfl))
  rintro v s1 ⟨x, H1, I1, r1, l, xs, rfl, hq, hz, q1⟩
  refine PyProof.Rows.args_nil ?_
  cases r1
  obtain ⟨its, r, pl, _⟩ := I1.list hq
  have hlen : its.toArray.size = xs.length := by rw [List.size_toArray, ← r.length, List.length_map]
  refine set_of_list (I1.ok.hd hc) pl.isList (by simpa using r) (by rw [hlen]; unfold scanBound; omega) fun h' tk hS hk => PyProof.Rows.args_nil ?_
  rw [hlen] at hS
  have e : seen xs xs.length = xs.reverse := by
    unfold seen
    rw [List.take_length]
  rw [e] at hS
  obtain ⟨o, es, ep, t, ho, hex, hd, _, _, _, hf, hn⟩ := hS
  have I2 : Inv X pins σ H1 { s1 with heap := h', toks := tk } := I1.kept fun b o e => hk b o (Heap.lt_size e) e
  have hd := dcount_le xs.reverse
  rw [List.length_reverse] at hd
  exact call_len_set ho hex (by assumption) hf (by rw [hn]; omega) ⟨.int (dcount xs.reverse : Nat), H1, I2.tok _, ⟨_, by rw [hn]⟩, q1⟩
end Sq
namespace Sq
open PySem PySem.Spec PyProof.Rows L2
/-! ### a, b, *c = a list -/
/-- the starred target, the last one -/
theorem pgs_star {X : Cx} {e : Expr} {p : Pos} {t : TG} (h1 : PG X e t) : PGs X [.Starred e p] (gCons t gNil) := by
  refine ⟨fun pins s σ H vs us Q I r h => ?_⟩
  obtain ⟨v, vr, e1, h⟩ := h
  subst e1
  cases r with
  | cons r rr =>
    have hs : (assignEach [.Starred e p] X.env).map (·.2) = assign e X.env :: (assignEach [] X.env).map (·.2) := rfl
    rw [hs]
    refine assignInOrder_cons (thn (h1.run pins s σ H _ _ _ I r h) fun _ s1 ⟨σ1, H1, I1, q1⟩ => ?_)
    exact pgs_nil.run pins s1 σ1 H1 _ _ Q I1 rr q1
def gStar (K : PySem.W.Frag) (i : Nat) (t : TGs) : TG := fun v σ H Q => ∃ a xs, v = .ref a ∧ SqL K H a xs ∧ i ≤ xs.length ∧ ∀ D, H D = none → t (xs.take i ++ [.ref D]) σ (upd H D (.lst (xs.drop i))) Q
theorem pg_starL {X : Cx} {pos : Pos} {es : List Expr} {k : Nat} {t : TGs} {i : Nat} (hc : X.calm = true) (h : PGs X es t)
    (hn : (assignEach es X.env).length = i + 1 := by rfl) (hst : (assignEach es X.env).findIdx? (·.1) = some i := by rfl) : PG X (.Tuple es k pos) (gStar X.K i t) := by
  refine ⟨fun pins s σ H v u Q I r hw => ?_⟩
  obtain ⟨a, xs, e1, hq, hl, hw⟩ := hw
  subst e1
  cases r
  obtain ⟨its, rv, pl, hz⟩ := I.list hq
  have hlen := rv.length
  have hl' : s.heap.IsList a its.toArray := by
    obtain ⟨o, m, e, c, d, q⟩ := pl
    exact ⟨o, e, c, m, q⟩
  rw [PyProof.Rows.assign_Tuple]
  refine wpAny_bind (wpAny_standAt ?_)
  unfold unpack
  rw [hn, hst]
  refine wpAny_bind (wpAny_holding ?_)
  have hh : X.A.handled = none := I.ok.hd hc
  have hlt : a ≠ s.heap.objs.size := by obtain ⟨o, ho, _⟩ := hl'; exact Nat.ne_of_lt (Heap.lt_size ho)
  unfold unpackItems
  refine wpAny_bind ?_
  unfold notIterableAtAll
  refine wpAny_bind (wpAny_specialOf hl'.typeIs slot_list_iter.lookup ?_)
  refine wpAny_pure ?_
  simp only [Bool.false_eq_true, if_false]
  refine wpAny_bind (wpAny_holding (wpAny_pyIter_list hl' ?_))
  refine wpAny_bind (wpAny_holding (PySem.W.kun_draw hlt i 0 _ _ ⟨_, Heap.get?_push_size _ rfl, rfl, rfl⟩ (hl'.push _) (by simp; omega) fun h₁ hit₁ hs₁ => ?_))
  have hl₁ : h₁.IsList a its.toArray := (hl'.push _).extBut hs₁.extBut hlt
  rw [Nat.zero_add] at hit₁
  have hit₁' := hit₁
  obtain ⟨oi, hoi, _⟩ := hit₁'
  have hl₁' := hl₁
  obtain ⟨ol, hol, _⟩ := hl₁'
  rw [List.drop_zero]
  have hfl : (its.toArray.toList.take i).length = i := by rw [List.length_take]; simp; omega
  rw [if_neg (show ¬ ((its.toArray.toList.take i).length < i) by rw [hfl]; omega)]
  refine wpAny_bind (wpAny_holding (PySem.W.kun_collect (s := { s with heap := h₁ }) (T := "list_iterator") (.inr (.inr (.inl rfl))) (Walks.list (A := X.A.in1) hh s.heap.objs.size a hlt its.toArray) (fun j u st => st.1.typeIs) (k := i) (by simp; omega) ⟨hit₁, hl₁⟩ (Heap.lt_size hoi) (Heap.lt_size hol) (fun h₂ tk hk => ?_) (by simp; omega)))
  have e0 : i + 1 - 1 - i = 0 := by omega
  show wpAny _ _ (if (its.toArray.toList.drop i).length < i + 1 - 1 - i then _ else _) _ _ _
  rw [e0, if_neg (by omega)]
  show wpAny _ _ (newList ((its.toArray.toList.drop i).take ((its.toArray.toList.drop i).length - 0)) >>= fun d => pure (its.toArray.toList.take i ++ [d] ++ (its.toArray.toList.drop i).drop ((its.toArray.toList.drop i).length - 0))) _ _ _
  rw [Nat.sub_zero, List.take_length, List.drop_length]
  have kp : ∀ b o, s.heap.get? b = some o → h₂.get? b = some o := fun b o e => hk b o (Nat.ne_of_lt (Heap.lt_size e)) (hs₁.extBut b o (Nat.ne_of_lt (Heap.lt_size e)) (Heap.get?_push_of_some _ e))
  have I1 : Inv X pins σ H { s with heap := h₂, toks := tk } := I.kept kp
  refine wpAny_bind (wpAny_newList (wpAny_pure ?_) (by rw [List.length_drop]; simp; omega))
  have rd : Vals (xs.drop i) (its.drop i) := rv.drop i
  have new : ObjOk X.prog X.w (upd H h₂.objs.size (.lst (xs.drop i))) (h₂.push { cls := .type "list", dict := none, data := .seq (its.toArray.toList.drop i).toArray 0, slots := #[] }) h₂.objs.size (.lst (xs.drop i)) :=
    ⟨by rw [List.length_drop]; omega, its.drop i, 0, rd, Heap.get?_push_size _ rfl⟩
  have I2 := I1.laid (t' := tk) (fun b o e => Heap.get?_push_of_some _ e) (Nat.le_refl _) new
  refine h.run pins _ σ _ (xs.take i ++ [.ref h₂.objs.size]) _ Q I2 ?_ (hw _ (I1.hok.fresh (Nat.le_refl _)))
  rw [List.append_nil]
  exact (rv.take i).append (.cons (show RelV (.ref h₂.objs.size) (.ref h₂.objs.size) from rfl) .nil)
/-! ### C(a, .., *b) and cls(*b), C a class of the text with an __init__ -/
section
variable {X : Cx} {CX : CXT} {k i : Nat} {f C : Addr} {sp : Sp} {E : XK} {x : Str} {e : Expr} {es : List Expr} {te : TE} {t : TA} {p sp_ pos : Pos}
theorem pe_makeS2 (M : Mk X.K C f) (F : FnR X.prog X.w X.K X.mg X.base CX k f sp) (hr : Room (k + 1) X.A) (hg : Gl X x) (hm : X.mg x = some (.ref C)) (hx : Passes CX X E) (ha : PA X (e :: es) t) (hdb : (x == ("__debug__" : Str)) = false := by decide)
    (he : starEach (e :: es) X.env = (false, eval e X.env) :: starEach es X.env := by rfl) (hst : (backTo pos (starEach es X.env)).any (·.1) = true := by rfl) : PE X (.Call (.Name x p) (e :: es) [] pos) (StX.tMakeR C sp E t) := by
  refine ⟨fun pins s σ H Q I h => ?_⟩
  refine wpAny_Call_Name_kw (ld_glob I hg hm ?_ hdb)
  refine PySem.W.callWith_S2 (h₀ := X.base) I.ok.mod.kin M.kp (thn (ha.run pos pins s σ H _ I h) fun us s1 ⟨vs, H1, I1, r, q⟩ => ⟨I1.kIn, ?_⟩) he hst
  exact StX.run_makeR M F hr hx I1 r q
def tMakeL (K : PySem.W.Frag) (C : Addr) (i : Nat) (sp : Sp) (E : XK) (te : TE) : TE := fun σ H Q => σ[i]? = some (some (.ref C)) ∧ te σ H fun y H1 => ∃ a xs, y = V.ref a ∧ (SqT K H1 a xs ∨ SqL K H1 a xs) ∧ ∀ x dx, H1 x = Option.none → H1 dx = Option.none → dx ≠ x →
  sp (V.ref x :: xs) (upd (upd H1 dx (.own x)) x (.ins C dx [])) (fun v H2 => v = .non ∧ Q (.ref x) H2) E
theorem pe_makeSL (M : Mk X.K C f) (F : FnR X.prog X.w X.K X.mg X.base CX k f sp) (hr : Room (k + 1) X.A) (hN : X.N[i]? = some x) (hv : Vis X.env.scope x) (hx : Passes CX X E) (he : PE X e te) (hdb : (x == ("__debug__" : Str)) = false := by decide) (hcd : (x == ("__classdict__" : Str)) = false := by decide)
    (hst : starEach [.Starred e sp_] X.env = [(true, eval e X.env)] := by rfl) : PE X (.Call (.Name x p) [.Starred e sp_] [] pos) (tMakeL X.K C i sp E te) := by
  refine ⟨fun pins s σ H Q I h => ?_⟩
  obtain ⟨hs, h⟩ := h
  refine wpAny_Call_Name_kw (thn ((pe_var (pos := p) hN hv hdb hcd).run pins s σ H (fun v H1 => v = .ref C ∧ H1 = H) I ⟨.ref C, hs, rfl, rfl⟩) fun u s1 ⟨v, H1, I1, r1, q1⟩ => ?_)
  obtain ⟨rfl, rfl⟩ := q1
  cases r1
  refine PySem.W.callWith_S (h₀ := X.base) I.ok.mod.kin M.kp (thn (he.run pins s1 σ _ _ I1 h) fun v s1 ⟨y, H1, I1, ry, a, xs, ey, hxs, q⟩ => ?_) hst
  subst ey
  obtain rfl : v = Value.ref a := ry
  exact StX.star_any I1 hxs fun us s2 I2 rv => ⟨I2.kIn, StX.run_makeR M F hr hx I2 rv q⟩
end
end Sq
namespace Sq
open PySem L2 TL
/-- a deed's word, places and condition -/
structure Deed where
  w : Str
  ps : List Str
  cs : List Str
def deedW (ws : List Str) : Deed :=
  if 4 < ws.length ∧ ws[ws.length - 4]? = some ("if" : Str) then ⟨ws.headD "", (ws.drop 1).take (ws.length - 5), ws.drop (ws.length - 3)⟩ else ⟨ws.headD "", ws.drop 1, []⟩
def deedD (z : Str) : Deed := deedW (Txt.split z " ")
theorem atI_neg {α : Type} (xs : List α) (k : Nat) (h0 : 0 < k) (h : k ≤ xs.length) : atI xs (-(k : Int)) = xs[xs.length - k]? := by
  unfold atI
  have e : ixN xs.length (-(k : Int)) = some (xs.length - k) := by
    unfold ixN
    rw [if_neg (by omega), if_pos (by omega)]
    congr 1
    omega
  rw [e]
  rfl
theorem sIx_neg (n d k : Nat) (h0 : 0 < k) (h : k ≤ n) : HT.sIx n d (some (-(k : Int))) = n - k := by
  show (if (-(k : Int)) < 0 then (-(k : Int) + (n : Int)).toNat else min (-(k : Int)).toNat n) = n - k
  rw [if_pos (by omega)]
  omega
theorem cut_3 (ws : List Str) (h : 3 ≤ ws.length) : cutV (ws.map V.str) (some (-3)) none = (ws.drop (ws.length - 3)).map V.str := by
  unfold cutV
  have e1 : HT.sIx (ws.map V.str).length 0 (some (-3)) = ws.length - 3 := by
    rw [List.length_map]
    exact sIx_neg _ _ 3 (by decide) h
  rw [e1, HT.sIx_none, List.map_drop, List.take_of_length_le (by rw [List.length_drop]; exact Nat.le_refl _)]
theorem cut_1 (ws : List Str) (h : 1 ≤ ws.length) : cutV (ws.map V.str) (some 1) none = (ws.drop 1).map V.str := by
  unfold cutV
  have e1 : HT.sIx (ws.map V.str).length 0 (some 1) = 1 := by
    rw [show (1 : Int) = ((1 : Nat) : Int) from rfl, HT.sIx_nat, List.length_map]
    omega
  rw [e1, HT.sIx_none, List.map_drop, List.take_of_length_le (by rw [List.length_drop]; exact Nat.le_refl _)]
def nums : List Str := ["i", "j", "~i", "~j"]
def cmps : List Str := ["<", "<=", "==", "!="]
def plcs : List Str := ["i,j", "j,i", "i,~j", "~j,i", "~i,j", "j,~i", "~i,~j", "~j,~i"]
def counts (z : Str) : Option (Nat × Nat) := if z = "swap" then some (2, 2) else if z = "copy" then some (2, 2) else if z = "order" then some (2, 2) else if z = "turn" then some (3, 8) else none
def condB : List Str → Bool
  | [] => true
  | [l, s, r] => memB nums l && (memB cmps s && (memB nums r && !decide (l = r)))
  | _ => false
def placesB (wd : Str) (ps : List Str) : Bool := match counts wd with
  | none => false
  | some (lo, hi) => (decide (lo ≤ ps.length) && decide (ps.length ≤ hi)) && (decide (dcount ps.reverse = ps.length) && ps.all (memB plcs))
def deedB (z : Str) : Bool := placesB (deedD z).w (deedD z).ps && condB (deedD z).cs
def okDeed : V → Bool
  | .str z => deedB z
  | _ => false
/-- a value that may be passed where a deed is asked for -/
def DAny (K : PySem.W.Frag) (H : Hp) (v : V) : Prop := (∃ z : Str, v = .str z ∧ z.length ≤ 2000) ∨ ((∀ z, v ≠ .str z) ∧ ∃ t, TyX K H v t ∧ PySem.W.kitOne K t (.type "str") = some false)
theorem DAny.ext {K : PySem.W.Frag} {H H' : Hp} {v : V} (e : Same H H') (h : DAny K H v) : DAny K H' v := by
  rcases h with h | ⟨h1, t, h2, h3⟩
  · exact .inl h
  · exact .inr ⟨h1, t, tyX_ext e h2, h3⟩
theorem spl_len (S : List Nat) : ∀ (l : List Nat) (k : Nat) (acc : List Nat), (spl S k acc l).length ≤ l.length + 1
  | [], k, acc => by rw [spl_nil]; exact Nat.le_refl _
  | c :: r, 0, acc => by
    unfold spl
    split
    · rw [List.length_cons, List.length_cons]
      exact Nat.succ_le_succ (spl_len S r _ _)
    · rw [List.length_cons]
      exact Nat.le_succ_of_le (spl_len S r 0 _)
  | _ :: r, k + 1, acc => by
    rw [List.length_cons]
    exact Nat.le_succ_of_le (spl_len S r k acc)
theorem split_len (z : Str) : (Txt.split z " ").length ≤ z.length + 1 := by
  have h := split_spl z " " (by decide +kernel) (kind_one z " " (by decide +kernel))
  have e := congrArg List.length h
  rw [List.length_map] at e
  rw [e, len_tl]
  exact spl_len _ _ _ _
theorem deed_len (z : Str) : (deedD z).ps.length ≤ z.length + 1 ∧ ((deedD z).cs = [] ∨ (deedD z).cs.length = 3) := by
  have h := split_len z
  unfold deedD deedW
  split
  · rename_i hc
    refine ⟨?_, .inr ?_⟩
    · show (((Txt.split z " ").drop 1).take _).length ≤ _
      rw [List.length_take, List.length_drop]
      omega
    · show ((Txt.split z " ").drop _).length = 3
      rw [List.length_drop]
      omega
  · refine ⟨?_, .inl rfl⟩
    show ((Txt.split z " ").drop 1).length ≤ _
    rw [List.length_drop]
    omega
theorem okDeed_no {v : V} (h : ∀ z, v ≠ .str z) : okDeed v = false := by
  cases v with
  | str z => exact absurd rfl (h z)
  | _ => rfl

/-- the statements up to a point: either a return, or what holds behind them -/
theorem st_or {t : TS} {D : Ends} {σ : L2.St} {H : Hp} (J : L2.St → Hp → Prop) (h : ∀ D' : Ends, D'.rt = D.rt → (∀ σ' H', J σ' H' → D'.nx σ' H') → t D' σ H) (k : ∀ σ' H', J σ' H' → D.nx σ' H') : t D σ H := h D rfl k
theorem asg2_ {te : TE} {i j : Nat} {D : Ends} {σ : L2.St} {H : Hp} (h : te σ H fun x H1 => D.nx ((σ.set i (some x)).set j (some x)) H1) : tAsg2 te (gName i) (gName j) D σ H := h
def ctab : List (Str × Int × Int) := [("swap", 2, 2), ("copy", 2, 2), ("order", 2, 2), ("turn", 3, 8)]
def ptab : List (Str × Int) := [("i,j", 0), ("j,i", 1), ("i,~j", 2), ("~j,i", 3), ("~i,j", 4), ("j,~i", 5), ("~i,~j", 6), ("~j,~i", 7)]
def ntab : List (Str × Int) := [("i", 0), ("j", 1), ("~i", 2), ("~j", 3)]
def tabI (t : List (Str × Int)) : List (Str × V) := t.map fun q => (q.1, V.int q.2)
def placeIx (z : Str) : Int := (ptab.lookup z).getD 0
def numIx (z : Str) : Int := (ntab.lookup z).getD 0
theorem look_I : ∀ (t : List (Str × Int)) (z : Str), (tabI t).lookup z = (t.lookup z).map V.int
  | [], z => rfl
  | q :: t, z => by
    unfold tabI
    rw [List.map_cons, List.lookup_cons, List.lookup_cons]
    cases h : z == q.1 with
    | true => rfl
    | false => exact look_I t z
theorem look_some {α : Type} : ∀ (t : List (Str × α)) (z : Str), (t.lookup z).isSome = memB (t.map (·.1)) z
  | [], z => rfl
  | q :: t, z => by
    rw [List.lookup_cons]
    have ih := look_some t z
    unfold memB at ih ⊢
    rw [List.map_cons, List.any_cons]
    cases h : z == q.1 with
    | true => rw [show (q.1 == z) = true by rw [beq_iff_eq] at h ⊢; exact h.symm]; rfl
    | false => rw [show (q.1 == z) = false by rw [beq_eq_false_iff_ne] at h ⊢; exact h.symm, Bool.false_or]; exact ih
theorem plc_some (z : Str) : (ptab.lookup z).isSome = memB plcs z := (look_some ptab z).trans (by rfl)
theorem num_some (z : Str) : (ntab.lookup z).isSome = memB nums z := (look_some ntab z).trans (by rfl)
theorem place_of {z : Str} (h : memB plcs z = true) : (tabI ptab).lookup z = some (.int (placeIx z)) := by
  rw [look_I]
  unfold placeIx
  have := plc_some z
  rw [h] at this
  cases e : ptab.lookup z with
  | none => rw [e] at this; cases this
  | some i => rfl
theorem num_of {z : Str} (h : memB nums z = true) : (tabI ntab).lookup z = some (.int (numIx z)) := by
  rw [look_I]
  unfold numIx
  have := num_some z
  rw [h] at this
  cases e : ntab.lookup z with
  | none => rw [e] at this; cases this
  | some i => rfl
theorem num_in (z : Str) : ((tabI ntab).lookup z).isSome = memB nums z := by
  rw [look_I, Option.isSome_map, num_some]
theorem place_in (z : Str) : ((tabI ptab).lookup z).isSome = memB plcs z := by
  rw [look_I, Option.isSome_map, plc_some]
theorem place_inj : ∀ a ∈ plcs, ∀ b ∈ plcs, placeIx a = placeIx b → a = b := by decide +kernel
/-- how often texts are met, and their indexes -/
theorem dc_iff : ∀ l : List Str, dcount l = l.length ↔ l.Nodup
  | [] => by simp [dcount]
  | x :: r => by
    have ih := dc_iff r
    have le := dcount_le r
    have e : dcount (x :: r) = if r.any (· == x) = true then dcount r else dcount r + 1 := by rw [dcount]
    have a : r.any (· == x) = true ↔ x ∈ r := by
      rw [List.any_eq_true]
      exact ⟨fun ⟨y, hy, h⟩ => beq_iff_eq.mp h ▸ hy, fun h => ⟨x, h, by simp⟩⟩
    rw [e, List.length_cons, List.nodup_cons]
    by_cases h : x ∈ r
    · rw [if_pos (a.mpr h)]
      constructor
      · intro z
        omega
      · exact fun z => absurd h z.1
    · rw [if_neg (fun z => h (a.mp z))]
      constructor
      · exact fun z => ⟨h, ih.mp (by omega)⟩
      · exact fun z => by rw [ih.mpr z.2]
theorem dc_rev (l : List Str) : dcount l.reverse = l.length ↔ l.Nodup := by
  have := dc_iff l.reverse
  rw [List.length_reverse] at this
  rw [this]
  unfold List.Nodup
  rw [List.pairwise_reverse]
  exact ⟨fun h => h.imp fun e => e.symm, fun h => h.imp fun e => e.symm⟩
theorem nodup_ix : ∀ ps : List Str, (∀ x ∈ ps, memB plcs x = true) → ((ps.map placeIx).Nodup ↔ ps.Nodup)
  | [], _ => by simp
  | a :: ps, h => by
    rw [List.map_cons, List.nodup_cons, List.nodup_cons, nodup_ix ps fun x hx => h x (List.mem_cons_of_mem _ hx)]
    refine and_congr_left fun _ => not_congr ⟨fun m => ?_, fun m => List.mem_map_of_mem m⟩
    obtain ⟨b, hb, e⟩ := List.mem_map.mp m
    have := place_inj b (memB_iff.mp (h b (List.mem_cons_of_mem _ hb))) a (memB_iff.mp (h a (List.mem_cons_self ..))) e
    exact this ▸ hb
/-! ### what stands where a deed was read -/
def CondAt (H : Hp) (c : V) (cs : List Str) : Prop := (cs = [] ∧ c = .non) ∨ ∃ (a : Addr) (l s r : Str), cs = [l, s, r] ∧ c = .ref a ∧ H a = some (.tup [.int (numIx l), .str s, .int (numIx r)])
def ixs (z : Str) : List Int := (deedD z).ps.map placeIx
def startsD (z : Str) : List Int := if (deedD z).w = "copy" then (ixs z).take 1 else ixs z
def endsD (z : Str) : List Int := if (deedD z).w = "copy" then (ixs z).drop 1 else if (deedD z).w = "order" then ixs z else (ixs z).drop 1 ++ (ixs z).take 1
def PlanAt (H : Hp) (p : Addr) (z : Str) : Prop := ∃ (ts te : Addr) (c : V), H p = some (.tup [.ref ts, .ref te, .bl (decide ((deedD z).w = "order")), c]) ∧ H ts = some (.tup ((startsD z).map V.int)) ∧
  H te = some (.tup ((endsD z).map V.int)) ∧ CondAt H c (deedD z).cs
theorem CondAt.same {H H' : Hp} {c : V} {cs : List Str} (h : CondAt H c cs) (s : Same H H') : CondAt H' c cs := by
  rcases h with h | ⟨a, l, x, r, h1, h2, h3⟩
  · exact .inl h
  · exact .inr ⟨a, l, x, r, h1, h2, s _ _ h3⟩
theorem PlanAt.same {H H' : Hp} {p : Addr} {z : Str} (h : PlanAt H p z) (s : Same H H') : PlanAt H' p z := by
  obtain ⟨ts, te, c, h1, h2, h3, h4⟩ := h
  exact ⟨ts, te, c, s _ _ h1, s _ _ h2, s _ _ h3, h4.same s⟩
def spReadC (K : PySem.W.Frag) : Sp := fun vs H Q _ => ∃ (l : Addr) (cs : List Str), vs = [.ref l] ∧ SqL K H l (cs.map V.str) ∧ cs.length = 3 ∧ (condB cs = false → ∀ H', Same H H' → Q .non H') ∧
  (condB cs = true → ∀ p H', H p = none → Same H H' → CondAt H' (.ref p) cs → Q (.ref p) H')
def spReadD (K : PySem.W.Frag) : Sp := fun vs H Q _ => ∃ v : V, vs = [v] ∧ DAny K H v ∧ (okDeed v = false → ∀ H', Same H H' → Q .non H') ∧
  (okDeed v = true → ∀ z p H', v = .str z → H p = none → Same H H' → PlanAt H' p z → Q (.ref p) H')
/-- the written dict of the words -/
structure CntD (K : PySem.W.Frag) (w : World) (d : Addr) : Prop where
  ex : ∃ L : List (Str × Addr × Int × Int), TDict K w d (L.map fun q => (q.1, V.ref q.2.1)) ∧ (∀ q ∈ L, ∀ H, SqT K H q.2.1 [.int q.2.2.1, .int q.2.2.2]) ∧ L.map (fun q => (q.1, q.2.2)) = ctab
def intW (v : Value) : Option Int := match v with
  | .int i _ => some i
  | _ => none
theorem intD_of {K : PySem.W.Frag} {w : World} {d : Addr} {es : Array DictEntry} {n : Nat} {tb : List (Str × Int)} (lk : K.lookup d = some ⟨.type "dict", none, .dict es n, #[]⟩) (lit : PySem.W.KeysLit w.params es.toList) (hs : (d == sysModules) = false)
    (hk : es.toList.map (fun e => (strW e.key, intW e.val)) = tb.map (fun q => (some q.1, some q.2))) : TDict K w d (tabI tb) := by
  have go : ∀ {es : List DictEntry} {tb : List (Str × Int)}, es.map (fun e => (strW e.key, intW e.val)) = tb.map (fun q => (some q.1, some q.2)) →
      es.map (fun e => strW e.key) = (tabI tb).map (fun q => some q.1) ∧ Vals ((tabI tb).map (·.2)) (es.map (·.val)) := by
    intro es
    induction es with
    | nil =>
      intro tb h
      cases tb with
      | nil => exact ⟨rfl, .nil⟩
      | cons _ _ => cases h
    | cons e es ih =>
      intro tb h
      cases tb with
      | nil => cases h
      | cons q tb =>
        obtain ⟨h1, h2⟩ := List.cons.inj h
        obtain ⟨a1, a2⟩ := ih h2
        obtain ⟨k1, k2⟩ := Prod.mk.inj h1
        refine ⟨?_, ?_⟩
        · rw [List.map_cons, a1]
          exact congrArg (fun x => x :: _) k1
        · refine .cons (?_ : RelV (V.int q.2) e.val) a2
          unfold intW at k2
          split at k2
          · rename_i i t e1
            cases k2
            rw [e1]
            exact ⟨t, rfl⟩
          · cases k2
  obtain ⟨a1, a2⟩ := go hk
  exact TDict.of lk lit hs a1 a2
theorem CntD.of {K : PySem.W.Frag} {w : World} {d : Addr} {es : Array DictEntry} {n : Nat} (lk : K.lookup d = some ⟨.type "dict", none, .dict es n, #[]⟩) (lit : PySem.W.KeysLit w.params es.toList) (hs : (d == sysModules) = false)
    (hk : es.toList.map (fun e => (strW e.key, tupW K e.val)) = ctab.map (fun q => (some q.1, some [q.2.1, q.2.2]))) : CntD K w d := by
  have go : ∀ {es : List DictEntry} {tb : List (Str × Int × Int)}, es.map (fun e => (strW e.key, tupW K e.val)) = tb.map (fun q => (some q.1, some [q.2.1, q.2.2])) →
      ∃ L : List (Str × Addr × Int × Int), es.map (fun e => strW e.key) = L.map (fun q => some q.1) ∧ Vals (L.map fun q => V.ref q.2.1) (es.map (·.val)) ∧ (∀ q ∈ L, ∀ H, SqT K H q.2.1 [.int q.2.2.1, .int q.2.2.2]) ∧ L.map (fun q => (q.1, q.2.2)) = tb := by
    intro es
    induction es with
    | nil =>
      intro tb h
      cases tb with
      | nil => exact ⟨[], rfl, .nil, (fun q hq => by cases hq), rfl⟩
      | cons _ _ => cases h
    | cons e es ih =>
      intro tb h
      cases tb with
      | nil => cases h
      | cons q tb =>
        obtain ⟨h1, h2⟩ := List.cons.inj h
        obtain ⟨L, a1, a2, a3, a4⟩ := ih h2
        obtain ⟨k1, k2⟩ := Prod.mk.inj h1
        obtain ⟨a, ea, ha⟩ := tupW_at k2 (show 2 ≤ 3 by decide)
        refine ⟨(q.1, a, q.2) :: L, ?_, ?_, ?_, ?_⟩
        · rw [List.map_cons, List.map_cons, a1]
          exact congrArg (fun x => x :: _) k1
        · exact .cons (by show RelV (V.ref a) e.val; rw [ea]; rfl) a2
        · intro r hr
          rcases List.mem_cons.mp hr with e2 | hr
          · rw [e2]
            exact ha
          · exact a3 r hr
        · rw [List.map_cons, a4]
  obtain ⟨L, a1, a2, a3, a4⟩ := go hk
  refine ⟨L, TDict.of lk lit hs ?_ ?_, a3, a4⟩
  · rw [a1, List.map_map]
    rfl
  · rw [List.map_map]
    exact a2
theorem cnt_look {K : PySem.W.Frag} {L : List (Str × Addr × Int × Int)} (hb : ∀ q ∈ L, ∀ H, SqT K H q.2.1 [.int q.2.2.1, .int q.2.2.2]) (h : L.map (fun q => (q.1, q.2.2)) = ctab) (z : Str) :
    (counts z = none ∧ (L.map fun q => (q.1, V.ref q.2.1)).lookup z = none) ∨ ∃ (lo hi : Nat) (a : Addr), counts z = some (lo, hi) ∧ (L.map fun q => (q.1, V.ref q.2.1)).lookup z = some (.ref a) ∧ ∀ H, SqT K H a [.int (lo : Int), .int (hi : Int)] := by
  have tab : ∀ q ∈ ctab, ∃ lo hi : Nat, counts q.1 = some (lo, hi) ∧ q.2 = ((lo : Int), (hi : Int)) := by
    intro q hq
    unfold ctab at hq
    simp only [List.mem_cons, List.not_mem_nil, or_false] at hq
    rcases hq with rfl | rfl | rfl | rfl
    · exact ⟨2, 2, by rfl, rfl⟩
    · exact ⟨2, 2, by rfl, rfl⟩
    · exact ⟨2, 2, by rfl, rfl⟩
    · exact ⟨3, 8, by rfl, rfl⟩
  have lm : match (L.map fun q => (q.1, V.ref q.2.1)).lookup z with
      | none => ∀ q ∈ L, q.1 ≠ z
      | some v => ∃ q ∈ L, q.1 = z ∧ v = .ref q.2.1 := by
    clear h hb
    induction L with
    | nil => exact fun q hq => by cases hq
    | cons q L ih =>
      by_cases hz : z = q.1
      · subst hz
        have l : ((q :: L).map fun q => (q.1, V.ref q.2.1)).lookup q.1 = some (.ref q.2.1) := by simp [List.lookup]
        rw [l]
        exact ⟨q, List.mem_cons_self .., rfl, rfl⟩
      · have hz2 : (z == q.1) = false := by simpa using hz
        have l : ((q :: L).map fun q => (q.1, V.ref q.2.1)).lookup z = (L.map fun q => (q.1, V.ref q.2.1)).lookup z := by simp [List.lookup, hz2]
        rw [l]
        cases e : (L.map fun q => (q.1, V.ref q.2.1)).lookup z with
        | none =>
          rw [e] at ih
          intro r hr
          rcases List.mem_cons.mp hr with rfl | hr
          · exact fun e => hz e.symm
          · exact ih r hr
        | some v =>
          rw [e] at ih
          obtain ⟨r, hr, e1, e2⟩ := ih
          exact ⟨r, List.mem_cons_of_mem _ hr, e1, e2⟩
  cases e : (L.map fun q => (q.1, V.ref q.2.1)).lookup z with
  | none =>
    rw [e] at lm
    refine .inl ⟨?_, rfl⟩
    have nm : ∀ q ∈ ctab, q.1 ≠ z := by
      intro q hq
      rw [← h] at hq
      obtain ⟨r, hr, e2⟩ := List.mem_map.mp hq
      rw [← e2]
      exact lm r hr
    unfold counts
    rw [if_neg (fun e => nm ("swap", 2, 2) (by decide) e.symm), if_neg (fun e => nm ("copy", 2, 2) (by decide) e.symm), if_neg (fun e => nm ("order", 2, 2) (by decide) e.symm), if_neg (fun e => nm ("turn", 3, 8) (by decide) e.symm)]
  | some v =>
    rw [e] at lm
    obtain ⟨q, hq, e1, e2⟩ := lm
    obtain ⟨lo, hi, c1, c2⟩ := tab (q.1, q.2.2) (by rw [← h]; exact List.mem_map_of_mem (f := fun q : Str × Addr × Int × Int => (q.1, q.2.2)) hq)
    have e3 : q.2.2 = ((lo : Int), (hi : Int)) := c2
    refine .inr ⟨lo, hi, q.2.1, e1 ▸ c1, by rw [e2], fun H => ?_⟩
    have := hb q hq H
    rw [e3] at this
    exact this
theorem cut_t1 (xs : List V) : cutV xs none (some 1) = xs.take 1 := by
  unfold cutV
  rw [HT.sIx_none, Nat.sub_zero, List.drop_zero, show (1 : Int) = ((1 : Nat) : Int) from rfl, HT.sIx_nat]
  cases xs with
  | nil => rfl
  | cons x r =>
    rw [Nat.min_eq_left (by simp)]
theorem cut_d1 (xs : List V) : cutV xs (some 1) none = xs.drop 1 := by
  unfold cutV
  rw [HT.sIx_none, show (1 : Int) = ((1 : Nat) : Int) from rfl, HT.sIx_nat]
  cases xs with
  | nil => rfl
  | cons x r =>
    rw [Nat.min_eq_left (by simp), List.take_of_length_le (by rw [List.length_drop]; exact Nat.le_refl _)]
theorem cut_m4 (ws : List Str) (h : 4 < ws.length) : cutV (ws.map V.str) none (some (-4)) = (ws.take (ws.length - 4)).map V.str := by
  unfold cutV
  have e2 : HT.sIx (ws.map V.str).length (ws.map V.str).length (some (-4)) = ws.length - 4 := by
    rw [List.length_map]
    exact sIx_neg _ _ 4 (by decide) (by omega)
  rw [HT.sIx_none, e2, List.drop_zero, Nat.sub_zero, List.map_take]
/-- what a deed's check asks, by the indexes of its places -/
theorem places_ok {wd : Str} {ps : List Str} {lo hi : Nat} (h : counts wd = some (lo, hi)) (h1 : lo ≤ ps.length) (h2 : ps.length ≤ hi) :
    placesB wd ps = !decide ((cntI ((ps.filter (memB plcs)).map placeIx) : Int) < (ps.length : Int)) := by
  unfold placesB
  rw [h]
  show (decide (lo ≤ ps.length) && decide (ps.length ≤ hi) && (decide (dcount ps.reverse = ps.length) && ps.all (memB plcs))) = _
  rw [decide_eq_true h1, decide_eq_true h2, Bool.and_self, Bool.true_and]
  have le := cnt_le ((ps.filter (memB plcs)).map placeIx)
  have lf := List.length_filter_le (memB plcs) ps
  rw [List.length_map] at le
  by_cases ha : ∀ x ∈ ps, memB plcs x = true
  · have fe : ps.filter (memB plcs) = ps := List.filter_eq_self.mpr ha
    rw [fe, List.all_eq_true.mpr ha, Bool.and_true]
    have cn := cnt_nodup (ps.map placeIx)
    rw [List.length_map, nodup_ix ps ha, ← dc_rev] at cn
    rw [fe] at le
    by_cases hd : dcount ps.reverse = ps.length
    · rw [decide_eq_true hd, decide_eq_false (by have := cn.mpr hd; omega)]
      rfl
    · rw [decide_eq_false hd, decide_eq_true (by have : ¬ cntI (ps.map placeIx) = ps.length := fun e => hd (cn.mp e); omega)]
      rfl
  · have hf : ps.all (memB plcs) = false := by
      cases e : ps.all (memB plcs) with
      | false => rfl
      | true => exact absurd (List.all_eq_true.mp e) ha
    have lt : (ps.filter (memB plcs)).length < ps.length := by
      refine Nat.lt_of_le_of_ne lf fun e => ha ?_
      exact List.filter_eq_self.mp (List.filter_sublist.eq_of_length e)
    rw [hf, Bool.and_false, decide_eq_true (by omega)]
    rfl
end Sq
namespace Sq
open PySem L2 TL
section
variable {P : Program} {w : World} {K : PySem.W.Frag} {mg : Str → Option Value} {base : Heap}
abbrev s_read_condition : Stmt := top 13
theorem sc_read_condition : FnScope ["words", "left", "sign", "right"] ["words"] (defScope s_read_condition) := ⟨rfl, rfl, rfl, by decide +kernel, rfl, by decide +kernel, by decide +kernel⟩
theorem ok_read_condition {f : Addr} {fd : FuncData} (F : Fun K "read_condition" "read_condition" s_read_condition f fd) (T : Bt mg) {aN aS : Addr} (mN : mg "NUMBERS" = some (.ref aN)) (DN : TDict K w aN (tabI ntab)) (mS : mg "COMPARISONS" = some (.ref aS)) (tS : ∀ H, SqT K H aS (cmps.map V.str)) : FnOk P w K mg base CX0 1 f fd ["words"] (spReadC K) := by
  refine F.ok sc_read_condition (fun vs H Q E h => ?_) (fun cdv A outer s H vs Q E hr h => ?_)
  · obtain ⟨l, cs, rfl, _⟩ := h
    rfl
  · obtain ⟨l, cs, rfl, hl, h3, qn, qs⟩ := h
    refine ⟨_, (pss_cons (ps_asg (pv 0) (pg_unl (by rfl) (pgs_cons (pg_name (i := 1) sc_read_condition.nd rfl (by first | exact .inl rfl | exact .inr rfl)) (pgs_cons (pg_name (i := 2) sc_read_condition.nd rfl (by first | exact .inl rfl | exact .inr rfl)) (pgs_cons (pg_name (i := 3) sc_read_condition.nd rfl (by first | exact .inl rfl | exact .inr rfl)) pgs_nil)))))
        (pss_cons (ps_if (PW.pt (pw_or (pt_cmpR (op_notInT DN) (pv 1) (pe_glob (v := .ref aN) (by rfl) mN rfl) (by with_unfolding_all rfl)) (pw_or (pt_cmpR op_notIn_seq (pv 2) (pe_glob (v := .ref aS) (by rfl) mS rfl) (by with_unfolding_all rfl)) (pw_or (pt_cmpR (op_notInT DN) (pv 3) (pe_glob (v := .ref aN) (by rfl) mN rfl) (by with_unfolding_all rfl)) (pw_or1 (pt_cmpR op_eq (pv 1) (pv 3) (nomark _)))))))
        (pss_one (ps_ret pe_non))
        pss_nil)
        (pss_one (ps_ret (pe_tup (pa_cons (pe_ix (ix_T DN) (pe_glob (v := .ref aN) (by rfl) mN rfl) (pv 1) (fun _ _ => rfl)) (pa_cons (pv 2) (pa_cons (pe_ix (ix_T DN) (pe_glob (v := .ref aN) (by rfl) mN rfl) (pv 3) (fun _ _ => rfl)) pa_nil)))))))), ?_⟩
    obtain ⟨x, y, z, rfl⟩ := three_of cs h3
    refine sq_ (asg_ ?_)
    refine ⟨_, rfl, l, _, rfl, hl, rfl, _, _, rfl, _, _, rfl, _, _, rfl, rfl, ?_⟩
    refine pr_seq (if_ ?_)
    have bad : condB [x, y, z] = false → Q .non H := fun e => qn e _ (Same.refl _)
    refine ⟨_, rfl, _, rfl, rfl, _, rfl, ?_⟩
    rw [num_in]
    cases hx : memB nums x with
    | false => exact iteT (bad (by simp [condB, hx]))
    | true =>
    refine iteF ?_
    refine ⟨_, rfl, aS, _, rfl, .inr (tS _), rfl, flat_strs _, _, rfl, ?_⟩
    rw [inV_str]
    cases hy : memB cmps y with
    | false => exact iteT (bad (by simp [condB, hx, hy]))
    | true =>
    refine iteF ?_
    refine ⟨_, rfl, _, rfl, rfl, _, rfl, ?_⟩
    rw [num_in]
    cases hz : memB nums z with
    | false => exact iteT (bad (by simp [condB, hx, hy, hz]))
    | true =>
    refine iteF ?_
    refine ⟨_, rfl, _, rfl, rfl, _, rfl, ?_⟩
    by_cases e : x = z
    · subst e
      rw [show decide (V.str x = V.str x) = true from decide_eq_true rfl]
      exact iteT (bad (by simp [condB]))
    · have e2 : ¬ V.str x = V.str z := fun q => e (V.str.inj q)
      rw [decide_eq_false e2]
      refine iteF ?_
      refine pr_one (ret_ ?_)
      refine ⟨_, rfl, _, _, rfl, rfl, num_of hx, ?_⟩
      refine ⟨_, rfl, _, rfl, _, _, rfl, rfl, num_of hz, ?_⟩
      refine ⟨(by show 3 ≤ sizeLine; decide), fun p np => ?_⟩
      exact qs (by simp [condB, hx, hy, hz, e]) p _ np (same_new np) (.inr ⟨p, x, y, z, rfl, rfl, upd_same⟩)
end
end Sq
namespace Sq
open PySem L2 TL
section
variable {P : Program} {w : World} {K : PySem.W.Frag} {mg : Str → Option Value} {base : Heap}
abbrev s_read_deed : Stmt := top 12
theorem sc_read_deed : FnScope ["value", "words", "condition", "word", "names", "least", "most", "places", "name", "starts", "ends"] ["value"] (defScope s_read_deed) := ⟨rfl, rfl, rfl, by decide +kernel, rfl, by decide +kernel, by decide +kernel⟩
theorem ok_read_deed {f : Addr} {fd : FuncData} (F : Fun K "read_deed" "read_deed" s_read_deed f fd) (T : Bt mg) {aC aP : Addr} (mC : mg "PLACE_COUNTS" = some (.ref aC)) (DC : CntD K w aC) (mP : mg "PLACE_INDEXES" = some (.ref aP)) (DP : TDict K w aP (tabI ptab)) (mset : mg "set" = none) (G_read_condition : FB P w K mg base "read_condition" 1 ["words"] (spReadC K)) : FnOk P w K mg base CX0 2 f fd ["value"] (spReadD K) := by
  refine F.ok sc_read_deed (fun vs H Q E h => ?_) (fun cdv A outer s H vs Q E hr h => ?_)
  · obtain ⟨v, rfl, _⟩ := h
    rfl
  · obtain ⟨v, rfl, hv, qn, qs⟩ := h
    obtain ⟨LC, LD, pC, eC⟩ := DC.ex
    refine ⟨_, (pss_cons (ps_set (i := 1) sc_read_deed.nd rfl (by first | exact .inl rfl | exact .inr rfl) (pe_ifExp (pt_val (pe_callB call_isi (by rfl) T.isinstance (by decide +kernel) (pa_cons (pv 0) (pa_cons (pe_bltn (v := .ty "str") (by rfl) T.str (by decide +kernel) rfl) pa_nil)))) (pe_split (pv 0) pe_str) (pe_lst (pa_cons pe_str pa_nil))))
        (pss_cons (ps_set (i := 2) sc_read_deed.nd rfl (by first | exact .inl rfl | exact .inr rfl) pe_non)
        (pss_cons (ps_if (PW.pt (pw_and (pt_cmpR op_gt (pe_callB call_len_seq (by rfl) T.len PySem.boot_len (pa_cons (pv 1) pa_nil)) pe_int (nomark _)) (pw_and1 (pt_cmpR op_eq (pe_ix ix_list (pv 1) (pe_un un_neg pe_int) (fun _ _ => rfl)) pe_str (nomark _)))))
        (pss_cons (ps_set (i := 2) sc_read_deed.nd rfl (by first | exact .inl rfl | exact .inr rfl) (pe_fb G_read_condition hr (by decide) (by rfl) (pa_cons (pe_slice sl_list (pv 1) (po_some (pe_un un_neg pe_int)) po_none) pa_nil)))
        (pss_cons (ps_if (pt_cmpR op_isN (pv 2) pe_non (nomark _))
        (pss_one (ps_ret pe_non))
        pss_nil)
        (pss_one (ps_set (i := 1) sc_read_deed.nd rfl (by first | exact .inl rfl | exact .inr rfl) (pe_slice sl_list (pv 1) po_none (po_some (pe_un un_neg pe_int)))))))
        pss_nil)
        (pss_cons (ps_asg (pv 1) (pg_starL (i := 1) rfl (pgs_cons (pg_name (i := 3) sc_read_deed.nd rfl (by first | exact .inl rfl | exact .inr rfl)) (pgs_star (pg_name (i := 4) sc_read_deed.nd rfl (by first | exact .inl rfl | exact .inr rfl))))))
        (pss_cons (ps_asg (pe_getT LD (by rfl) mC (pv 3) (pe_tup (pa_cons pe_int (pa_cons pe_int pa_nil))) ⟨by rfl, by rfl, by rfl, by rfl⟩) (pg_tup (by rfl) (pgs_cons (pg_name (i := 5) sc_read_deed.nd rfl (by first | exact .inl rfl | exact .inr rfl)) (pgs_cons (pg_name (i := 6) sc_read_deed.nd rfl (by first | exact .inl rfl | exact .inr rfl)) pgs_nil))))
        (pss_cons (ps_setLc (i := 7) (own := [("name", 8)]) (g := gName 8) (by rfl) sc_read_deed.nd rfl rfl (by rfl) (pi_list (pv 4)) (blkOk_by (own := [("name", 8)]) (N := ["value", "words", "condition", "word", "names", "least", "most", "places", "name", "starts", "ends"]) (sc := defScope s_read_deed) (by decide +kernel))
            (fun _ _ _ _ _ => (pg_name (i := 8) sc_read_deed.nd rfl (by first | exact .inl rfl | exact .inr rfl))) (fun _ _ _ _ _ => (pts_one (pt_cmpR (op_inT DP) (pv 8) (pe_glob (v := .ref aP) (by rfl) mP rfl) (by with_unfolding_all rfl)))) (fun _ _ _ _ _ => (pe_ix (ix_T DP) (pe_glob (v := .ref aP) (by rfl) mP rfl) (pv 8) (fun _ _ => rfl))))
        (pss_cons (ps_if (PW.pt (pw_or (pt_not (pt_chain op_le op_le (pv 5) (pe_callB call_len_seq (by rfl) T.len PySem.boot_len (pa_cons (pv 4) pa_nil)) (pv 6))) (pw_or1 (pt_cmpR op_lt (pe_lenSetN (by rfl) T.len (by rfl) mset (pv 7)) (pe_callB call_len_seq (by rfl) T.len PySem.boot_len (pa_cons (pv 4) pa_nil)) (nomark _)))))
        (pss_one (ps_ret pe_non))
        pss_nil)
        (pss_cons (ps_asg2 (pv 7) (pg_name (i := 9) sc_read_deed.nd rfl (by first | exact .inl rfl | exact .inr rfl)) (pg_name (i := 10) sc_read_deed.nd rfl (by first | exact .inl rfl | exact .inr rfl)))
        (pss_cons (ps_if (pt_cmpR op_eq (pv 3) pe_str (nomark _))
        (pss_one (ps_par (i := 9) (j := 10) (by rfl) sc_read_deed.nd rfl rfl (by decide) rfl rfl (pa_cons (pe_slice sl_list (pv 7) po_none (po_some pe_int)) (pa_cons (pe_slice sl_list (pv 7) (po_some pe_int) po_none) pa_nil)) (by rfl)))
        (pss_one (ps_if (pt_cmpR op_ne (pv 3) pe_str (nomark _))
        (pss_one (ps_set (i := 10) sc_read_deed.nd rfl (by first | exact .inl rfl | exact .inr rfl) (pe_op op_cat (pe_slice sl_list (pv 7) (po_some pe_int) po_none) (pe_slice sl_list (pv 7) po_none (po_some pe_int)))))
        pss_nil)))
        (pss_one (ps_ret (pe_tup (pa_cons (pe_tupleOf (by rfl) T.tuple (pv 9)) (pa_cons (pe_tupleOf (by rfl) T.tuple (pv 10)) (pa_cons (pe_cmpR op_eq (pv 3) pe_str (nomark _)) (pa_cons (pv 2) pa_nil)))))))))))))))), ?_⟩
    refine sq_ (set_ (gen_of (fun x H' => ∃ (p : Addr) (ws : List Str), x = .ref p ∧ Same H H' ∧ H' p = some (.lst (ws.map V.str)) ∧ ws.length ≤ 2001 ∧ (ws = [("" : Str)] ∧ okDeed v = false ∨ ∃ z, v = .str z ∧ ws = Txt.split z " ")) (fun Q' k => ?_) ?_))
    · rcases hv with ⟨z, rfl, hz⟩ | ⟨hn, t, ht, hk⟩
      · refine ⟨_, rfl, _, _, .type "str", _, true, rfl, .ty "str", .base (.str z), kit_ty (by decide +kernel), true, rfl, ?_⟩
        refine iteT ?_
        have big : 3000 ≤ sizeLine := by decide
        have sl := split_len z
        refine ⟨_, rfl, ⟨_, rfl⟩, _, _, rfl, rfl, rfl, by omega, fun p np => ?_⟩
        exact k _ _ ⟨p, _, rfl, same_new np, upd_same, by omega, .inr ⟨z, rfl, rfl⟩⟩
      · refine ⟨_, rfl, _, _, t, _, false, rfl, .ty "str", ht, hk, false, rfl, ?_⟩
        refine iteF ?_
        refine ⟨(by show 1 ≤ sizeLine; decide), fun p np => ?_⟩
        exact k _ _ ⟨p, [("" : Str)], rfl, same_new np, upd_same, by decide, .inl ⟨rfl, okDeed_no hn⟩⟩
    rintro _ H1 ⟨p, ws, rfl, s1, hp, hn, hw⟩
    have ne : ws ≠ [] := by
      rcases hw with ⟨e, _⟩ | ⟨z, _, e⟩
      · rw [e]
        exact List.cons_ne_nil _ _
      · rw [e]
        exact split_ne z
    have okv : okDeed v = (placesB (deedW ws).w (deedW ws).ps && condB (deedW ws).cs) := by
      rcases hw with ⟨e1, e2⟩ | ⟨z, rfl, e1⟩
      · rw [e2, e1]
        rfl
      · show (placesB (deedD z).w (deedD z).ps && condB (deedD z).cs) = _
        unfold deedD
        rw [e1]
    have hDz : ∀ z, v = .str z → okDeed v = true → deedD z = deedW ws := fun z e o => by
      rcases hw with ⟨e1, e2⟩ | ⟨y, e1, e2⟩
      · rw [e2] at o
        cases o
      · rw [e] at e1
        cases e1
        unfold deedD
        rw [e2]
    have lenps : (deedW ws).ps.length ≤ 2001 := by
      unfold deedW
      split
      · show ((ws.drop 1).take _).length ≤ _
        rw [List.length_take, List.length_drop]
        omega
      · show (ws.drop 1).length ≤ _
        rw [List.length_drop]
        omega
    refine nm_seq (set_ ?_)
    refine pr_seq (st_or (fun σ' H' => ∃ (pw : Addr) (c : V), σ' = [some v, some (.ref pw), some c, none, none, none, none, none, none, none, none] ∧ Same H1 H' ∧ H' pw = some (.lst (((deedW ws).w :: (deedW ws).ps).map V.str)) ∧ condB (deedW ws).cs = true ∧ CondAt H' c (deedW ws).cs) (fun D' er k => if_ ?_) ?_)
    · have bad : condB (deedW ws).cs = false → ∀ H', Same H1 H' → D'.rt .non H' := fun e H' s => by
        rw [er]
        exact qn (by rw [okv, e, Bool.and_false]) H' (s1.trans s)
      have plain : ¬ (4 < ws.length ∧ ws[ws.length - 4]? = some ("if" : Str)) → D'.nx [some v, some (.ref p), some .non, none, none, none, none, none, none, none, none] H1 := by
        intro hc
        have e : deedW ws = ⟨ws.headD "", ws.drop 1, []⟩ := by
          unfold deedW
          rw [if_neg hc]
        refine k _ _ ⟨p, .non, rfl, Same.refl _, ?_, by rw [e]; rfl, .inl ⟨by rw [e], rfl⟩⟩
        rw [hp, e]
        cases ws with
        | nil => exact absurd rfl ne
        | cons a r => rfl
      refine ⟨_, rfl, p, _, rfl, .inl (SqL.of hp), _, _, rfl, rfl, _, rfl, ?_⟩
      rw [List.length_map]
      refine ite2 (fun hl => ?_) (fun hl => ?_)
      · have hl4 : 4 < ws.length := Int.ofNat_lt.mp (of_decide_eq_true hl)
        have lt : ws.length - 4 < ws.length := by omega
        have hat : atI (ws.map V.str) (-4) = some (.str ws[ws.length - 4]) := by
          have z := atI_neg (ws.map V.str) 4 (by decide) (by rw [List.length_map]; omega)
          rw [List.length_map, List.getElem?_map, List.getElem?_eq_getElem lt] at z
          exact z
        refine ⟨_, rfl, _, rfl, p, _, _, _, rfl, rfl, SqL.of hp, hat, rfl, _, rfl, ?_⟩
        refine ite2 (fun hif => ?_) (fun hif => ?_)
        · have e4 : ws[ws.length - 4]? = some ("if" : Str) := by
            rw [List.getElem?_eq_getElem lt]
            exact congrArg some (V.str.inj (of_decide_eq_true hif))
          have e : deedW ws = ⟨ws.headD "", (ws.drop 1).take (ws.length - 5), ws.drop (ws.length - 3)⟩ := by
            unfold deedW
            rw [if_pos ⟨hl4, e4⟩]
          refine sq_ (set_ ?_)
          refine ⟨_, rfl, _, rfl, _, rfl, p, _, rfl, SqL.of hp, fun p2 np2 => ?_⟩
          rw [cut_3 _ (by omega)]
          have s2 := same_new (o := .lst ((ws.drop (ws.length - 3)).map V.str)) np2
          refine ⟨p2, ws.drop (ws.length - 3), rfl, SqL.of upd_same, by rw [List.length_drop]; omega, fun ec H' s => ?_, fun ec p3 H' np3 s hc => ?_⟩
          · refine pr_seq (if_ ?_)
            refine ⟨_, rfl, rfl, _, rfl, ?_⟩
            refine iteT ?_
            exact bad (by rw [e]; exact ec) _ (s2.trans s)
          · refine pr_seq (if_ ?_)
            refine ⟨_, rfl, rfl, _, rfl, ?_⟩
            refine iteF ?_
            refine pr_one (set_ ?_)
            have hp' := (s2.trans s) _ _ hp
            refine ⟨_, rfl, _, rfl, _, rfl, p, _, rfl, SqL.of hp', fun p4 np4 => ?_⟩
            rw [cut_m4 _ hl4]
            have s4 := same_new (o := .lst ((ws.take (ws.length - 4)).map V.str)) np4
            refine k _ _ ⟨p4, .ref p3, rfl, (s2.trans s).trans s4, ?_, by rw [e]; exact ec, by rw [e]; exact hc.same s4⟩
            rw [upd_same, e]
            cases ws with
            | nil => exact absurd rfl ne
            | cons a r =>
              show some (HO.lst (((a :: r).take ((a :: r).length - 4)).map V.str)) = some (HO.lst ((a :: r.take ((a :: r).length - 5)).map V.str))
              have : (a :: r).length - 4 = ((a :: r).length - 5) + 1 := by omega
              rw [this, List.take_succ_cons]
        · exact plain fun hc => by
            obtain ⟨_, e4⟩ := hc
            rw [List.getElem?_eq_getElem lt] at e4
            exact hif (decide_eq_true (congrArg V.str (Option.some.inj e4)))
      · exact plain fun hc => hl (decide_eq_true (Int.ofNat_lt.mpr hc.1))
    rintro _ H2 ⟨pw, c, rfl, s2, hpw, cb, hc⟩
    generalize deedW ws = D at *
    obtain ⟨wd, ps, cs⟩ := D
    dsimp only at okv hDz lenps hpw cb hc
    rw [cb, Bool.and_true] at okv
    refine pr_seq (asg_ ?_)
    refine ⟨_, rfl, pw, _, rfl, SqL.of hpw, (by show 1 ≤ ((wd :: ps).map V.str).length; simp), fun Dn nDn => ?_⟩
    have s3 := same_new (o := .lst (((wd :: ps).map V.str).drop 1)) nDn
    refine ⟨_, _, rfl, _, _, rfl, rfl, ?_⟩
    have hDn : upd H2 Dn (.lst (((wd :: ps).map V.str).drop 1)) Dn = some (.lst (ps.map V.str)) := upd_same
    have sm3 := (s1.trans s2).trans s3
    replace hc := hc.same s3
    generalize upd H2 Dn (.lst (((wd :: ps).map V.str).drop 1)) = H3 at *
    refine pr_seq (asg_ (gen_of (fun x H' => ∃ (t : Addr) (lo hi : Nat), x = .ref t ∧ SqT K H' t [.int (lo : Int), .int (hi : Int)] ∧ Same H3 H' ∧ ((counts wd = none ∧ lo = 1 ∧ hi = 0) ∨ counts wd = some (lo, hi))) (fun Q' k => ?_) ?_))
    · refine ⟨_, rfl, (by show 2 ≤ sizeLine; decide), fun t nt => ⟨wd, rfl, ?_⟩⟩
      have st := same_new (o := .tup [V.int 1, V.int 0]) nt
      rcases cnt_look pC eC wd with ⟨c0, l0⟩ | ⟨lo, hi, a, c0, l0, ha⟩
      · rw [l0]
        exact k _ _ ⟨t, 1, 0, rfl, SqT.of upd_same, st, .inl ⟨c0, rfl, rfl⟩⟩
      · rw [l0]
        exact k _ _ ⟨a, lo, hi, rfl, ha _, st, .inr c0⟩
    rintro _ H4 ⟨t, lo, hi, rfl, ht, s4, hcnt⟩
    refine ⟨t, _, rfl, ht, rfl, _, _, rfl, _, _, rfl, rfl, ?_⟩
    have hDn4 := s4 _ _ hDn
    refine pr_seq (set_ (gen_of (fun x H' => ∃ Dp : Addr, x = .ref Dp ∧ Same H4 H' ∧ H' Dp = some (.lst (((ps.filter (memB plcs)).map placeIx).map V.int))) (fun Q' k => ?_) ?_))
    · refine ⟨_, rfl, Dn, rfl, ⟨_, SqL.of hDn4⟩, fun Dp nDp => ?_⟩
      refine lc_list (K := K) (a := Dn) (xs := ps.map V.str) (fun i H' => Same H4 H' ∧ H' Dp = some (.lst ((((ps.take i).filter (memB plcs)).map placeIx).map V.int))) ⟨same_new nDp, upd_same⟩ (fun i H' _ h => (SqL.of hDn4).ext h.1) (fun i x H' hx h => ?_) (fun H' h => ?_)
      · obtain ⟨sm, hD⟩ := h
        rw [List.getElem?_map] at hx
        cases hps : ps[i]? with
        | none =>
          rw [hps] at hx
          cases hx
        | some y =>
          rw [hps] at hx
          cases hx
          refine ⟨rfl, ?_⟩
          refine ⟨_, rfl, y, rfl, rfl, _, rfl, ?_⟩
          have tk : ps.take (i + 1) = ps.take i ++ [y] := by rw [List.take_add_one, hps]; rfl
          rw [tk, List.filter_append]
          show (if (((tabI ptab).lookup y).isSome) = true then _ else _)
          rw [place_in]
          cases hy : memB plcs y with
          | true =>
            refine iteT ?_
            refine ⟨_, rfl, y, _, rfl, rfl, place_of hy, _, hD, ?_, ?_, ?_⟩
            · have hf := List.length_filter_le (memB plcs) (ps.take i)
              rw [List.length_map, List.length_map]
              rw [List.length_take] at hf
              have big : 3000 ≤ sizeLine := by decide
              omega
            · intro c o hc
              rw [upd_ne (fun e => by rw [e, nDp] at hc; cases hc)]
              exact sm c o hc
            · rw [upd_same]
              simp [hy]
          | false =>
            refine iteF ?_
            refine ⟨sm, ?_⟩
            rw [hD]
            simp [hy]
      · obtain ⟨sm, hD⟩ := h
        rw [List.length_map, List.take_length] at hD
        exact k _ _ ⟨Dp, rfl, sm, hD⟩
    rintro _ H5 ⟨Dp, rfl, s5, hDp⟩
    have sm5 := (sm3.trans s4).trans s5
    have hDn5 := s5 _ _ hDn4
    have bad5 : placesB wd ps = false → Q .non H5 := fun e => qn (okv.trans e) _ sm5
    replace hc := (hc.same s4).same s5
    have okp : placesB wd ps = true → okDeed v = true := fun e => okv.trans e
    refine pr_seq (if_ ?_)
    have noCnt : ¬ (lo ≤ ps.length ∧ ps.length ≤ hi) → placesB wd ps = false := fun n => by
      unfold placesB
      rcases hcnt with ⟨c0, _, _⟩ | c0
      · rw [c0]
      · rw [c0]
        show (decide (lo ≤ ps.length) && decide (ps.length ≤ hi) && _) = false
        by_cases h1 : lo ≤ ps.length
        · rw [decide_eq_false (fun h2 => n ⟨h1, h2⟩), Bool.and_false, Bool.false_and]
        · rw [decide_eq_false h1, Bool.false_and, Bool.false_and]
    refine ⟨_, rfl, _, rfl, Dn, _, rfl, .inl (SqL.of hDn5), _, _, rfl, rfl, _, rfl, ?_⟩
    rw [List.length_map]
    refine ite2 (fun h1 => ?_) (fun h1 => ?_)
    case refine_2 =>
      have h1 : ¬ lo ≤ ps.length := fun e => h1 (decide_eq_true (Int.ofNat_le.mpr e))
      refine ⟨_, rfl, ?_⟩
      refine iteT ?_
      exact bad5 (noCnt fun z => h1 z.1)
    have h1 : lo ≤ ps.length := Int.ofNat_le.mp (of_decide_eq_true h1)
    refine ⟨_, rfl, _, _, rfl, rfl, _, rfl, ?_⟩
    by_cases h2 : ps.length ≤ hi
    case neg =>
      have : decide ((ps.length : Int) ≤ (hi : Int)) = false := decide_eq_false fun e => h2 (Int.ofNat_le.mp e)
      rw [this]
      refine iteT ?_
      exact bad5 (noCnt fun z => h2 z.2)
    have : decide ((ps.length : Int) ≤ (hi : Int)) = true := decide_eq_true (Int.ofNat_le.mpr h2)
    rw [this]
    refine iteF ?_
    have hcnt : counts wd = some (lo, hi) := by
      rcases hcnt with ⟨_, e1, e2⟩ | c0
      · omega
      · exact c0
    have pok := places_ok hcnt h1 h2
    refine ⟨_, rfl, Dp, (ps.filter (memB plcs)).map placeIx, rfl, SqL.of hDp, ?_, _, rfl, Dn, _, rfl, .inl (SqL.of hDn5), _, _, rfl, rfl, _, rfl, ?_⟩
    · have hf := List.length_filter_le (memB plcs) ps
      rw [List.length_map]
      omega
    rw [List.length_map]
    by_cases h4 : ((cntI ((ps.filter (memB plcs)).map placeIx) : Nat) : Int) < (ps.length : Int)
    case pos =>
      rw [decide_eq_true h4]
      refine iteT ?_
      rw [decide_eq_true h4] at pok
      exact bad5 pok
    rw [decide_eq_false h4]
    rw [decide_eq_false h4] at pok
    refine iteF ?_
    have allP : ps.filter (memB plcs) = ps := by
      have le := cnt_le ((ps.filter (memB plcs)).map placeIx)
      have lf := List.length_filter_le (memB plcs) ps
      rw [List.length_map] at le
      exact List.filter_sublist.eq_of_length (by omega)
    rw [allP] at hDp
    have hok : okDeed v = true := okv.trans pok
    obtain ⟨z, rfl⟩ : ∃ z, v = .str z := by
      rcases hw with ⟨_, e2⟩ | ⟨z, e, _⟩
      · rw [e2] at hok
        cases hok
      · exact ⟨z, e⟩
    have hD := hDz z rfl hok
    have qs := qs hok z
    have eS : startsD z = if wd = "copy" then (ps.map placeIx).take 1 else ps.map placeIx := by
      unfold startsD ixs
      rw [hD]
    have eE : endsD z = if wd = "copy" then (ps.map placeIx).drop 1 else if wd = "order" then ps.map placeIx else (ps.map placeIx).drop 1 ++ (ps.map placeIx).take 1 := by
      unfold endsD ixs
      rw [hD]
    refine pr_seq (asg2_ ?_)
    refine ⟨_, rfl, ?_⟩
    refine pr_seq (st_or (fun σ' H' => ∃ (a b : Addr), σ' = [some (.str z), some (.ref pw), some c, some (.str wd), some (.ref Dn), some (.int (lo : Int)), some (.int (hi : Int)), some (.ref Dp), none, some (.ref a), some (.ref b)] ∧ Same H5 H' ∧ H' a = some (.lst ((startsD z).map V.int)) ∧ H' b = some (.lst ((endsD z).map V.int))) (fun D' er k => if_ ?_) ?_)
    · refine ⟨_, rfl, rfl, _, rfl, ?_⟩
      by_cases w1 : wd = "copy"
      · rw [show decide (V.str wd = V.str "copy") = true by rw [w1]; rfl]
        rw [if_pos w1] at eS eE
        refine iteT ?_
        refine ⟨_, rfl, _, rfl, Dp, _, rfl, SqL.of hDp, fun a na => ?_⟩
        rw [cut_t1]
        have sa := same_new (o := .lst (((ps.map placeIx).map V.int).take 1)) na
        refine ⟨_, rfl, _, rfl, Dp, _, rfl, SqL.of (sa _ _ hDp), fun b nb => ?_⟩
        rw [cut_d1]
        have sb := same_new (o := .lst (((ps.map placeIx).map V.int).drop 1)) nb
        refine ⟨_, _, rfl, ?_⟩
        refine k _ _ ⟨a, b, rfl, sa.trans sb, ?_, ?_⟩
        · rw [eS, List.map_take]
          exact sb _ _ upd_same
        · rw [eE, List.map_drop]
          exact upd_same
      · rw [decide_eq_false (fun e => w1 (V.str.inj e) : ¬ V.str wd = V.str "copy")]
        rw [if_neg w1] at eS eE
        refine iteF ?_
        refine if_ ?_
        refine ⟨_, rfl, rfl, _, rfl, ?_⟩
        by_cases w2 : wd = "order"
        · rw [show decide (V.str wd = V.str "order") = true by rw [w2]; rfl]
          rw [if_pos w2] at eE
          refine iteF ?_
          exact k _ _ ⟨Dp, Dp, rfl, Same.refl _, by rw [eS]; exact hDp, by rw [eE]; exact hDp⟩
        · rw [decide_eq_false (fun e => w2 (V.str.inj e) : ¬ V.str wd = V.str "order")]
          rw [if_neg w2] at eE
          refine iteT ?_
          refine set_ ?_
          refine ⟨_, rfl, _, rfl, Dp, _, rfl, SqL.of hDp, fun a na => ?_⟩
          rw [cut_d1]
          have sa := same_new (o := .lst (((ps.map placeIx).map V.int).drop 1)) na
          refine ⟨_, rfl, _, rfl, Dp, _, rfl, SqL.of (sa _ _ hDp), fun b nb => ?_⟩
          rw [cut_t1]
          have sb := same_new (o := .lst (((ps.map placeIx).map V.int).take 1)) nb
          refine ⟨a, b, _, _, rfl, rfl, sb _ _ upd_same, upd_same, ?_, fun d nd => ?_⟩
          · rw [List.length_drop, List.length_take, List.length_map, List.length_map]
            have big : 3000 ≤ sizeLine := by decide
            omega
          have sd := same_new (o := .lst (((ps.map placeIx).map V.int).drop 1 ++ ((ps.map placeIx).map V.int).take 1)) nd
          refine k _ _ ⟨Dp, d, rfl, (sa.trans sb).trans sd, ?_, ?_⟩
          · rw [eS]
            exact ((sa.trans sb).trans sd) _ _ hDp
          · rw [eE, List.map_append, List.map_drop, List.map_take]
            exact upd_same
    rintro _ H6 ⟨a, b, rfl, s6, ha, hb⟩
    refine pr_one (ret_ ?_)
    refine ⟨_, rfl, .inl ⟨a, _, rfl, SqL.of ha, fun ta nta => ?_⟩⟩
    have s7 := same_new (o := .tup ((startsD z).map V.int)) nta
    refine ⟨_, rfl, .inl ⟨b, _, rfl, SqL.of (s7 _ _ hb), fun tb ntb => ?_⟩⟩
    have s8 := same_new (o := .tup ((endsD z).map V.int)) ntb
    refine ⟨_, rfl, rfl, _, rfl, (by show 4 ≤ sizeLine; decide), fun p np => ?_⟩
    have s9 := same_new (o := .tup [.ref ta, .ref tb, .bl (decide (V.str wd = V.str "order")), c]) np
    have sm9 := (((sm5.trans s6).trans s7).trans s8)
    have npH : H p = none := by
      cases e : H p with
      | none => rfl
      | some o => rw [sm9 _ _ e] at np; cases np
    refine qs p _ rfl npH (sm9.trans s9) ⟨ta, tb, c, ?_, s9 _ _ (s8 _ _ upd_same), s9 _ _ upd_same, ?_⟩
    · rw [hD]
      show upd _ _ _ p = some (.tup [.ref ta, .ref tb, .bl (decide (wd = "order")), c])
      have : decide (V.str wd = V.str "order") = decide (wd = "order") := by
        by_cases e : wd = "order"
        · rw [e]
          rfl
        · rw [decide_eq_false e, decide_eq_false (fun q => e (V.str.inj q) : ¬ V.str wd = V.str "order")]
      rw [← this]
      exact upd_same
    · rw [hD]
      exact ((hc.same s6).same (s7.trans s8)).same s9
end
end Sq
namespace Sq
open PySem L2 PySem.Spec PyProof.Rows
/-! ### d[i, j], d a written dict whose keys are tuples of numbers -/
structure ODict (P : Program) (w : World) (K : PySem.W.Frag) (d : Addr) (xs : List (List Int × Addr × Value)) : Prop where
  lk : ∃ (es : Array DictEntry) (ep : Nat), K.lookup d = some ⟨.type "dict", none, .dict es ep, #[]⟩ ∧ es.toList = xs.map (entryOfKey (tupleKind (intKind P w)))
  keys : ∀ x ∈ xs, ∀ H, SqT K H x.2.1 (x.1.map V.int)
  nd : (xs.map (·.1)).Nodup
theorem items_ints {P : Program} {w : World} : ∀ {ks : List Int} {vs : List Value}, Vals (ks.map V.int) vs → ItemsAre (intKind P w) ks vs
  | [], vs, h => by cases h; exact .nil
  | k :: ks, vs, h => by
    cases h with
    | cons r rr =>
      obtain ⟨t, rfl⟩ := r
      exact .cons (show Value.isInt k (.int k t) = true by simp [Value.isInt]) (items_ints rr)
def rIxO (K : PySem.W.Frag) (d : Addr) (xs : List (List Int × Addr × Value)) : R2 := fun x y H Q => ∃ (t : Addr) (ks : List Int) (p : Addr × Value) (v : V), x = .ref d ∧ y = .ref t ∧ SqT K H t (ks.map V.int) ∧ atKey xs ks = some p ∧ RelV v p.2 ∧ Q v H
theorem ix_O {X : Cx} {d : Addr} {xs : List (List Int × Addr × Value)} (D : ODict X.prog X.w X.K d xs) (hu : X.A.units + 1 < cLine) : IxR X (rIxO X.K d xs) := by
  intro value slice pins s σ H x y v u Q I rx ry h hs
  obtain ⟨t, ks, p, v0, rfl, rfl, ht, hp, r, q⟩ := h
  cases rx
  cases ry
  obtain ⟨its, rv, e, z⟩ := I.tuple ht
  obtain ⟨es, ep, lk, he⟩ := D.lk
  have hm : s.heap.DictOfH (tupleKind (intKind X.prog X.w)) d xs := ⟨_, es, ep, I.kIn _ _ lk, ⟨rfl, rfl, rfl⟩, rfl, he, fun x hx => by
    obtain ⟨jts, rj, ⟨o, ho, hc, n, hd⟩, _⟩ := I.tuple (D.keys x hx H)
    exact ⟨o, _, n, ho, hc, hd, items_ints rj⟩, D.nd⟩
  have hk : (tupleKind (intKind X.prog X.w)).is s.heap ks t := by
    obtain ⟨o, ho, hc, n, hd⟩ := e
    exact ⟨o, _, n, ho, hc, hd, items_ints rv⟩
  exact tail_any (show s.TypeIs (.ref d) "dict" from ⟨_, I.kIn _ _ lk, rfl⟩) slot_dict_getitem.lookup (wpAny_getItem_heap (show (tupleKind (intKind X.prog X.w)).room X.A.in1 from hu) hk hm hp ⟨v0, H, I.tok _, r, q⟩) hs
end Sq
namespace Sq
open PySem L2 PySem.Spec PyProof.Rows
/-! ### the written dict of the orders: two numbers to a tuple -/
structure OrdD (P : Program) (w : World) (K : PySem.W.Frag) (d : Addr) : Prop where
  ex : ∃ xs, ODict P w K d xs ∧ ∀ a b : Bool, ∃ p q : Addr, atKey xs [if a = true then 1 else 0, if b = true then 1 else 0] = some (p, .ref q)
def okeys : List (List Int) := [[0, 0], [0, 1], [1, 0], [1, 1]]
def thash (ks : List Int) : Int := reduceHash (Builtin.Tuple.tupleHashOf (ks.map hashInt))
theorem thash_eq {P : Program} {w : World} (ks : List Int) : (tupleKind (intKind P w)).hash ks = thash ks := rfl
theorem OrdD.of {P : Program} {w : World} {K : PySem.W.Frag} {d : Addr} {es : Array DictEntry} {n : Nat} (lk : K.lookup d = some ⟨.type "dict", none, .dict es n, #[]⟩)
    (hk : es.toList.map (fun e => tupW K e.key) = okeys.map some) (hh : es.toList.map (·.hash) = okeys.map thash)
    (hv : ∃ q0 q1 q2 q3 : Addr, es.toList.map (·.val) = [.ref q0, .ref q1, .ref q2, .ref q3]) : OrdD P w K d := by
  obtain ⟨q0, q1, q2, q3, hv⟩ := hv
  generalize hes : es.toList = l at *
  have hl : l.length = 4 := by
    have := congrArg List.length hv
    rw [List.length_map] at this
    exact this
  match l, hl with
  | [e0, e1, e2, e3], _ =>
    obtain ⟨k0, hk⟩ := List.cons.inj hk
    obtain ⟨k1, hk⟩ := List.cons.inj hk
    obtain ⟨k2, hk⟩ := List.cons.inj hk
    obtain ⟨k3, hk⟩ := List.cons.inj hk
    obtain ⟨h0, hh⟩ := List.cons.inj hh
    obtain ⟨h1, hh⟩ := List.cons.inj hh
    obtain ⟨h2, hh⟩ := List.cons.inj hh
    obtain ⟨h3, hh⟩ := List.cons.inj hh
    obtain ⟨v0, hv⟩ := List.cons.inj hv
    obtain ⟨v1, hv⟩ := List.cons.inj hv
    obtain ⟨v2, hv⟩ := List.cons.inj hv
    obtain ⟨v3, hv⟩ := List.cons.inj hv
    obtain ⟨a0, f0, g0⟩ := tupW_at k0 (show 2 ≤ 3 by decide)
    obtain ⟨a1, f1, g1⟩ := tupW_at k1 (show 2 ≤ 3 by decide)
    obtain ⟨a2, f2, g2⟩ := tupW_at k2 (show 2 ≤ 3 by decide)
    obtain ⟨a3, f3, g3⟩ := tupW_at k3 (show 2 ≤ 3 by decide)
    refine ⟨[([0, 0], a0, .ref q0), ([0, 1], a1, .ref q1), ([1, 0], a2, .ref q2), ([1, 1], a3, .ref q3)], ⟨⟨es, n, lk, ?_⟩, ?_, ?_⟩, ?_⟩
    · rw [hes]
      have en : ∀ (e : DictEntry) {h : Int} {k v : Value}, e.hash = h → e.key = k → e.val = v → e = ⟨h, k, v⟩ := fun e {h k v} a b c => by
        cases e
        cases a
        cases b
        cases c
        rfl
      rw [en e0 h0 f0 v0, en e1 h1 f1 v1, en e2 h2 f2 v2, en e3 h3 f3 v3]
      simp only [List.map_cons, List.map_nil, entryOfKey, thash_eq]
    · intro x hx H
      simp only [List.mem_cons, List.not_mem_nil, or_false] at hx
      rcases hx with rfl | rfl | rfl | rfl
      · exact g0 H
      · exact g1 H
      · exact g2 H
      · exact g3 H
    · show okeys.Nodup
      decide
    · intro a b
      cases a <;> cases b
      · exact ⟨_, _, rfl⟩
      · exact ⟨_, _, rfl⟩
      · exact ⟨_, _, rfl⟩
      · exact ⟨_, _, rfl⟩
end Sq
namespace Sq
open PySem L2 PySem.Spec PyProof.Rows
/-- __init__ at an instance and two keywords -/
def FnK2 (P : Program) (w : World) (K : PySem.W.Frag) (mg : Str → Option Value) (base : Heap) (k : Nat) (f : Addr) (n1 n2 : Str) (sp : Sp) : Prop :=
  ∀ (A : Around) (fr : List Env) (s : Shared) (H : Hp) (x : Addr) (u1 u2 : Value) (v1 v2 : V) (Q : VK), Room k A → Env0 P w K mg base A fr s H → RelV v1 u1 → RelV v2 u2 →
    sp [.ref x, v1, v2] H Q E0 → codeAny (model P w) A (.call (.ref f) ⟨[.ref x], [(n1, u1), (n2, u2)]⟩) (CR CX0 fr P w H s Q E0) s
section
variable {P : Program} {w : World} {K : PySem.W.Frag} {mg : Str → Option Value} {base : Heap} {k : Nat} {f : Addr} {name qual : Str} {params : Arguments} {body : List Stmt} {scope : Scope} {dV kV doc pm cdv ct oc : Value} {an od : Option Addr}
  {osl : Array (Option Value)} {N : List Str} {sp : Sp} {n0 n1 n2 nv : Str}
/-- def f(self, b, a, *v) called as f(x, a = .., b = ..): the star parameter is an empty tuple -/
theorem fn_starK2 (lk : K.lookup f = some ⟨oc, od, .func (PySem.W.fnOf name qual params body scope dV kV doc pm an cdv ct), osl⟩) (hcd : PySem.W.codeIn K cdv qual = true) (S : FnScope N [n0, n2, n1, nv] scope)
    (hb : ∀ x u1 u2 : Value, bindArgs (PySem.W.fnOf name qual params body scope dV kV doc pm an cdv ct) ⟨[x], [(n1, u1), (n2, u2)]⟩ = (newTuple [] >>= fun t => pure [(n0, x), (n2, u2), (n1, u1), (nv, t)]))
    (hbody : ∀ (A : Around) (outer : List Env) (s : Shared) (H : Hp) (vs : List V) (Q : VK) (E : XK), Room k (A.deeper (envOfC qual scope s.heap.objs.size f cdv)) → sp vs H Q E →
      ∃ t, PSs (cxOf CX0 P w K mg base N qual scope f cdv A outer s H E) body t ∧ t { nx := fun _ H' => Q .non H', rt := Q } (L2.start N vs) H) :
    FnK2 P w K mg base (k + 1) f n1 n2 (fun vs H Q E => ∃ x v1 v2, vs = [x, v1, v2] ∧ ∀ p, H p = none → sp [x, v2, v1, .ref p] (upd H p (.tup [])) Q E) := by
  intro A fr s H x u1 u2 v1 v2 Q hr e0 r1 r2 h
  obtain ⟨x', v1', v2', ev, hq⟩ := h
  cases ev
  have hn : H s.heap.objs.size = none := e0.hok.fresh (Nat.le_refl _)
  refine StX.run_bnd lk hcd S hr e0 (G := fun xs H2 => ∃ p, H p = none ∧ xs = [.ref x, v2, v1, .ref p] ∧ H2 = upd H p (.tup [])) (fun A' Ex Q' hz => ?_) fun s2 H2 xs hx hr' => ?_
  · rw [hb (.ref x) u1 u2]
    refine wpAny_bind (wpAny_newTuple (wpAny_pure ?_) (Nat.zero_le _))
    have new : ObjOk P w (upd H s.heap.objs.size (.tup [])) (s.heap.push ({ cls := .type "tuple", data := .seq (([] : List Value)).toArray } : Obj)) s.heap.objs.size (.tup []) := ⟨Nat.zero_le _, [], .nil, ⟨_, Heap.get?_push_size _ rfl, rfl, _, rfl⟩⟩
    exact hz _ _ [.ref x, v2, v1, .ref s.heap.objs.size] [.ref x, u2, u1, .ref s.heap.objs.size] (StX.env0_laid e0 new) (StX.un_laid hn) rfl (fun _ _ z => z) (.cons rfl (.cons r2 (.cons r1 (.cons rfl .nil)))) rfl ⟨_, hn, rfl, rfl⟩
  · obtain ⟨p, hp, rfl, rfl⟩ := hx
    exact hbody A fr s2 _ _ Q E0 hr' (hq p hp)
end
section
variable {X : Cx} {k : Nat} {f C : Addr} {sp : Sp} {x n1 n2 : Str} {p pos : Pos} {kws : List Keyword} {tk : TA}
def tMakeK2 (C : Addr) (sp : Sp) (tk : TA) : TE := fun σ H Q => tk σ H fun zs H2 => ∃ v1 v2, zs = [v1, v2] ∧ ∀ x dx, H2 x = none → H2 dx = none → dx ≠ x →
  sp [.ref x, v1, v2] (upd (upd H2 dx (.own x)) x (.ins C dx [])) (fun v H3 => v = .non ∧ Q (.ref x) H3) E0
/-- C(a = .., b = ..) -/
theorem pe_makeK2 (M : Mk X.K C f) (F : FnK2 X.prog X.w X.K X.mg X.base k f n1 n2 sp) (hr : Room (k + 1) X.A) (hg : Gl X x) (hm : X.mg x = some (.ref C)) (hkw : PK X kws tk)
    (hall : (backToKw pos (keywordEach kws X.env)).all (·.1.isSome) = true := by rfl) (hks : (backToKw pos (keywordEach kws X.env)).filterMap (·.1) = [n1, n2] := by rfl) (hdb : (x == ("__debug__" : Str)) = false := by decide)
    (hpl : ((backTo pos (starEach [] X.env)).any (·.1) || (backToKw pos (keywordEach kws X.env)).any (·.1.isNone)) = false := by rfl) :
    PE X (.Call (.Name x p) [] kws pos) (tMakeK2 C sp tk) := by
  constructor
  intro pins s σ H Q I h
  refine wpAny_Call_Name_kw (ld_glob I hg hm (PySem.W.callWith_KW0 (h₀ := X.base) I.ok.mod.kin M.kp hall ?_ hpl) hdb)
  refine thn (hkw.run pos pins s σ H _ I h) ?_
  rintro ws s2 ⟨zs, H2, I2, rz, v1, v2, ez, q⟩
  subst ez
  refine ⟨I2.kIn, ?_⟩
  rw [hks]
  obtain ⟨u1, u2, rfl, r1, r2⟩ : ∃ u1 u2, ws = [u1, u2] ∧ RelV v1 u1 ∧ RelV v2 u2 := by
    cases rz with
    | cons a b =>
      cases b with
      | cons c d =>
        cases d
        exact ⟨_, _, rfl, a, c⟩
  have hq := q (s2.heap.objs.size + 1) s2.heap.objs.size (I2.hok.fresh (Nat.le_succ _)) (I2.hok.fresh (Nat.le_refl _)) (Nat.ne_of_lt (Nat.lt_succ_self _))
  have I3 := Inv.made (C := C) I2
  have run := F _ X.stack _ _ (s2.heap.objs.size + 1) u1 u2 v1 v2 _ (hr.make C [] [(n1, u1), (n2, u2)]) (I3.env0.make C [] [(n1, u1), (n2, u2)]) r1 r2 hq
  refine wpAny_call (make_map (f := f) I2.kIn M.makes M.init (beq_iff_eq.mp M.fn) (codeAny_mono run fun z s' hz => ?_))
  match z, hz with
  | .error _, hz => exact False.elim hz
  | .ok .next, hz => exact False.elim hz
  | .ok .brk, hz => exact False.elim hz
  | .ok .cont, hz => exact False.elim hz
  | .ok (.ret u), hz =>
    obtain ⟨v, H', I4, rv, ev, q3⟩ := I3.after hz
    subst ev
    exact ⟨rv, ⟨.ref (s2.heap.objs.size + 1), H', I4, rfl, q3⟩⟩
end
end Sq
namespace Sq
open PySem L2 TL
section
variable {P : Program} {w : World} {K : PySem.W.Frag} {mg : Str → Option Value} {base : Heap}
theorem ko_i : ¬ (("_inner" : Str) = "_outer") := by decide +kernel
/-- the attributes of a nest: its loops and deeds, and what was read in them -/
structure Rd3 where
  b : V
  o : V
  p : V
def nfl (o i : Str) (dp : Addr) (R : Rd3) : List (Str × V) := putF "plans" R.p (putF "orders" R.o (putF "bounds" R.b (putF "_deeds" (.ref dp) (putF "_inner" (.str i) (putF "_outer" (.str o) [])))))
theorem nfl_at (o i : Str) (dp : Addr) (R : Rd3) (m : Str) : (nfl o i dp R).lookup m = if m = "plans" then some R.p else if m = "orders" then some R.o else if m = "bounds" then some R.b else if m = "_deeds" then some (.ref dp) else if m = "_inner" then some (.str i) else if m = "_outer" then some (.str o) else none := by
  unfold nfl
  rw [lookup_putF, lookup_putF, lookup_putF, lookup_putF, lookup_putF, lookup_putF]
  all_goals rfl
theorem nfl_outer (o i : Str) (dp : Addr) (R : Rd3) : (nfl o i dp R).lookup ("_outer" : Str) = some (.str o) := by
  rw [nfl_at]
  rfl
theorem nfl_inner (o i : Str) (dp : Addr) (R : Rd3) : (nfl o i dp R).lookup ("_inner" : Str) = some (.str i) := by
  rw [nfl_at]
  rfl
theorem nfl_deeds (o i : Str) (dp : Addr) (R : Rd3) : (nfl o i dp R).lookup ("_deeds" : Str) = some (.ref dp) := by
  rw [nfl_at]
  rfl
theorem nfl_plans (o i : Str) (dp : Addr) (R : Rd3) : (nfl o i dp R).lookup ("plans" : Str) = some R.p := by
  rw [nfl_at]
  rfl
theorem nfl_orders (o i : Str) (dp : Addr) (R : Rd3) : (nfl o i dp R).lookup ("orders" : Str) = some R.o := by
  rw [nfl_at]
  rfl
theorem nfl_bounds (o i : Str) (dp : Addr) (R : Rd3) : (nfl o i dp R).lookup ("bounds" : Str) = some R.b := by
  rw [nfl_at]
  rfl
theorem nfl_no (o i : Str) (dp : Addr) (R : Rd3) {m : Str} (h1 : ¬ m = "_outer") (h2 : ¬ m = "_inner") (h3 : ¬ m = "_deeds") (h4 : ¬ m = "bounds") (h5 : ¬ m = "orders") (h6 : ¬ m = "plans") : (nfl o i dp R).lookup m = none := by
  rw [nfl_at, if_neg h6, if_neg h5, if_neg h4, if_neg h3, if_neg h2, if_neg h1]
/-- a nest stands at a -/
def NestAt (C : Addr) (H : Hp) (a : Addr) (o i : Str) (ds : List Str) : Prop := ∃ dx dp, (∃ R, H a = some (.ins C dx (nfl o i dp R))) ∧ H dp = some (.tup (ds.map V.str))
theorem NestAt.ext {C : Addr} {H H' : Hp} {a : Addr} {o i : Str} {ds : List Str} (e : Same H H') (h : NestAt C H a o i ds) : NestAt C H' a o i ds := by
  obtain ⟨dx, dp, ⟨R, h1⟩, h2⟩ := h
  exact ⟨dx, dp, ⟨R, e _ _ h1⟩, e _ _ h2⟩
/-- the class Nest as it stands in the text -/
structure Nc (K : PySem.W.Frag) (C : Addr) : Prop where
  cl : Cls K C
  nO : NoAttr K C "_outer"
  nI : NoAttr K C "_inner"
  nD : NoAttr K C "_deeds"
  nB : NoAttr K C "bounds"
  nR : NoAttr K C "orders"
  nP : NoAttr K C "plans"
theorem putF_len (f : Str) (v : V) : ∀ fs : List (Str × V), (putF f v fs).length ≤ fs.length + 1
  | [] => Nat.le_refl _
  | (g, x) :: r => by
    unfold putF
    split
    · exact Nat.le_succ _
    · exact Nat.succ_le_succ (putF_len f v r)
def deedsOk (ds : List Str) : Prop := (∀ d ∈ ds, d.length ≤ 2000) ∧ fw 0 6 (ds.map deedB) = none
theorem fw_le : ∀ (bs : List Bool) (i m : Nat), fw i m bs = none → i ≤ m → i + bs.length ≤ m
  | [], i, m, _, h => h
  | b :: r, i, m, e, h => by
    unfold fw at e
    split at e
    · cases e
    · rename_i hn
      have h1 : ¬ i = m := fun q => hn (.inl q)
      have := fw_le r (i + 1) m e (by omega)
      rw [List.length_cons]
      omega
theorem fw_all : ∀ (bs : List Bool) (i m : Nat), fw i m bs = none → ∀ b ∈ bs, b = true
  | [], _, _, _, b, h => by cases h
  | c :: r, i, m, e, b, h => by
    unfold fw at e
    split at e
    · cases e
    · rename_i hn
      have h1 : c = true := by
        cases c with
        | true => rfl
        | false => exact absurd (.inr rfl) hn
      rcases List.mem_cons.mp h with q | q
      · rw [q, h1]
      · exact fw_all r (i + 1) m e b q
theorem fw_none : ∀ (bs : List Bool) (i m : Nat), (∀ b ∈ bs, b = true) → i + bs.length ≤ m → fw i m bs = none
  | [], _, _, _, _ => rfl
  | c :: r, i, m, h, hl => by
    rw [List.length_cons] at hl
    unfold fw
    rw [if_neg (fun q => q.elim (fun e => by omega) fun e => by have := h c List.mem_cons_self; rw [e] at this; cases this)]
    exact fw_none r (i + 1) m (fun b hb => h b (List.mem_cons_of_mem _ hb)) (by omega)
theorem deeds_len {ds : List Str} (h : deedsOk ds) : ds.length ≤ 6 := by
  have z := fw_le _ _ _ h.2 (Nat.zero_le _)
  rw [List.length_map] at z
  omega
theorem deeds_ok {ds : List Str} (h : deedsOk ds) : ∀ d ∈ ds, deedB d = true := fun d hd => fw_all _ _ _ h.2 _ (List.mem_map_of_mem hd)
/-- the plans of deeds, one behind the other -/
inductive Plans (H : Hp) : List V → List Str → Prop
  | nil : Plans H [] []
  | cons {p : Addr} {z : Str} {qs : List V} {ds : List Str} : PlanAt H p z → Plans H qs ds → Plans H (.ref p :: qs) (z :: ds)
theorem Plans.same {H H' : Hp} (s : Same H H') : ∀ {qs : List V} {ds : List Str}, Plans H qs ds → Plans H' qs ds
  | _, _, .nil => .nil
  | _, _, .cons h r => .cons (h.same s) (r.same s)
theorem Plans.snoc {H : Hp} {p : Addr} {z : Str} (h : PlanAt H p z) : ∀ {qs : List V} {ds : List Str}, Plans H qs ds → Plans H (qs ++ [.ref p]) (ds ++ [z])
  | _, _, .nil => .cons h .nil
  | _, _, .cons h1 r => .cons h1 (r.snoc h)
theorem Plans.refs {H : Hp} : ∀ {qs : List V} {ds : List Str}, Plans H qs ds → ∀ x ∈ qs, ∃ p, x = .ref p
  | _, _, .nil, x, hx => by cases hx
  | _, _, .cons h r, x, hx => by
    rcases List.mem_cons.mp hx with rfl | hx
    · exact ⟨_, rfl⟩
    · exact r.refs x hx
theorem Plans.len {H : Hp} : ∀ {qs : List V} {ds : List Str}, Plans H qs ds → qs.length = ds.length
  | _, _, .nil => rfl
  | _, _, .cons h r => by rw [List.length_cons, List.length_cons, r.len]
theorem st_same {t : TS} {D : Ends} {σ : L2.St} {H : Hp} (J : Hp → Prop) (h : ∀ D' : Ends, (∀ H', J H' → D'.nx σ H') → t D' σ H) (k : ∀ H', J H' → D.nx σ H') : t D σ H := h D k
theorem ne_ins {H : Hp} {x a C dx : Addr} {fs : List (Str × V)} {ys : List V} (hx : H x = some (.ins C dx fs)) (ha : H a = some (.tup ys)) : a ≠ x := fun e => by
  rw [e, hx] at ha
  cases ha
theorem PlanAt.off {H H' : Hp} {x C dx : Addr} {fs : List (Str × V)} (hx : H x = some (.ins C dx fs)) (s : Off x H H') {p : Addr} {z : Str} (h : PlanAt H p z) : PlanAt H' p z := by
  obtain ⟨ts, te, c, h1, h2, h3, h4⟩ := h
  refine ⟨ts, te, c, s _ _ (ne_ins hx h1) h1, s _ _ (ne_ins hx h2) h2, s _ _ (ne_ins hx h3) h3, ?_⟩
  rcases h4 with h4 | ⟨a4, l4, s4, r4, e1, e2, e3⟩
  · exact .inl h4
  · exact .inr ⟨a4, l4, s4, r4, e1, e2, s _ _ (ne_ins hx e3) e3⟩
theorem Plans.off {H H' : Hp} {x C dx : Addr} {fs : List (Str × V)} (hx : H x = some (.ins C dx fs)) (s : Off x H H') : ∀ {qs : List V} {ds : List Str}, Plans H qs ds → Plans H' qs ds
  | _, _, .nil => .nil
  | _, _, .cons h r => .cons (h.off hx s) (r.off hx s)
/-- what was read in a nest's loops and deeds -/
def ReadAt (K : PySem.W.Frag) (H : Hp) (R : Rd3) (o i : Str) (ds : List Str) : Prop := ∃ (bp op pp a1 a2 b1 b2 : Addr) (t1 t2 u1 u2 : Int × Int × Int) (d e : Bool) (qs : List V), R = ⟨.ref bp, .ref op, .ref pp⟩ ∧
  H bp = some (.tup [.ref a1, .ref a2, .ref b1, .ref b2]) ∧ Bd K a1 t1 ∧ Bd K a2 t2 ∧ Bd K b1 u1 ∧ Bd K b2 u2 ∧ LoopR o t1 t2 d ∧ LoopR i u1 u2 e ∧ H pp = some (.tup qs) ∧ Plans H qs ds
def spInit (K : PySem.W.Frag) (C : Addr) : Sp := fun vs H Q _ => ∃ (x dx dp : Addr) (o i : Str) (ds : List Str), vs = [.ref x, .str o, .str i, .ref dp] ∧ H x = some (.ins C dx []) ∧ H dp = some (.tup (ds.map V.str)) ∧ o.length + 2 ≤ sizeLine ∧ i.length + 2 ≤ sizeLine ∧
  loopB obs o = true ∧ loopB (obs ++ ibs) i = true ∧ deedsOk ds ∧ ∀ (R : Rd3) (H' : Hp), ReadAt K H' R o i ds → H' x = some (.ins C dx (nfl o i dp R)) → Off x H H' → Q .non H'
def spFirstN (K : PySem.W.Frag) : Sp := spFirst K
abbrev s_NInit : Stmt := inClass (top 25) 0
theorem sc_NInit : FnScope ["self", "outer", "inner", "deeds", "outer_loop", "inner_loop", "plans", "deed", "index", "plan", "start", "stop", "outer_descends", "low", "high", "inner_descends"] ["self", "outer", "inner", "deeds"] (defScope s_NInit) := ⟨rfl, rfl, rfl, by decide +kernel, rfl, by decide +kernel, by decide +kernel⟩
theorem init_body {C : Addr} (N : Nc K C) (T : Bt mg) (G_read_outer_loop : FB P w K mg base "read_outer_loop" 2 ["value"] (spReadL K obs))(G_read_loop : FB P w K mg base "read_loop" 1 ["value"] (spReadL K (obs ++ ibs)))(G_read_deed : FB P w K mg base "read_deed" 2 ["value"] (spReadD K))(G_first_wrong : FB P w K mg base "first_wrong" 1 ["rights", "most"] (spFirst K)) {u : Tok} (mM : mg "MOST_DEEDS" = some (.int 6 u)) {aR : Addr} (mR : mg "ORDERS" = some (.ref aR)) (DO : OrdD P w K aR) {f : Addr} {cdv : Value} {A : Around} {outer : List Env} {s : Shared} {H : Hp} {vs : List V} {Q : VK} {E : XK} (hr : Room 3 (A.deeper (PyProof.Rows.envOfC "Nest.__init__" (defScope s_NInit) s.heap.objs.size f cdv))) (h : spInit K C vs H Q E) :
    ∃ t, PSs (cxOf CX0 P w K mg base ["self", "outer", "inner", "deeds", "outer_loop", "inner_loop", "plans", "deed", "index", "plan", "start", "stop", "outer_descends", "low", "high", "inner_descends"] "Nest.__init__" (defScope s_NInit) f cdv A outer s H E) (defBody s_NInit) t ∧
      t { nx := fun _ H' => Q .non H', rt := Q } (L2.start ["self", "outer", "inner", "deeds", "outer_loop", "inner_loop", "plans", "deed", "index", "plan", "start", "stop", "outer_descends", "low", "high", "inner_descends"] vs) H := by
  obtain ⟨x, dx, dp, o, i, ds, rfl, hx, hd, ho, hi, lo, li, hds, q⟩ := h
  obtain ⟨xs, DR, hR⟩ := DO.ex
  have hl6 := deeds_len hds
  have bigL : 3000 ≤ sizeLine := by decide
  refine ⟨_, (pss_cons (ps_par (i := 4) (j := 5) (by rfl) sc_NInit.nd rfl rfl (by decide) rfl rfl (pa_cons (pe_fb G_read_outer_loop hr (by decide) (by rfl) (pa_cons (pv 1) pa_nil)) (pa_cons (pe_fb G_read_loop hr (by decide) (by rfl) (pa_cons (pv 2) pa_nil)) pa_nil)) (by rfl))
          (pss_cons (ps_if (pt_cmpR op_isN (pv 4) pe_non (nomark _))
          (pss_one ps_never)
          pss_nil)
          (pss_cons (ps_if (pt_cmpR op_isN (pv 5) pe_non (nomark _))
          (pss_one ps_never)
          pss_nil)
          (pss_cons (ps_setLc (i := 6) (own := [("deed", 7)]) (g := gName 7) (by rfl) sc_NInit.nd rfl rfl (by rfl) (pi_tup (pv 3)) (blkOk_by (own := [("deed", 7)]) (N := ["self", "outer", "inner", "deeds", "outer_loop", "inner_loop", "plans", "deed", "index", "plan", "start", "stop", "outer_descends", "low", "high", "inner_descends"]) (sc := defScope s_NInit) (by decide +kernel))
              (fun _ _ _ _ _ => (pg_name (i := 7) sc_NInit.nd rfl (by first | exact .inl rfl | exact .inr rfl))) (fun _ _ _ _ _ => pts_nil) (fun _ _ _ _ _ => (pe_fb G_read_deed hr (by decide) (by rfl) (pa_cons (pv 7) pa_nil))))
          (pss_cons (ps_set (i := 8) sc_NInit.nd rfl (by first | exact .inl rfl | exact .inr rfl) (pe_fb G_first_wrong hr (by decide) (by rfl) (pa_cons (pe_lc (own := [("plan", 9)]) (g := gName 9) (by rfl) sc_NInit.nd (pi_list (pv 6)) (blkOk_by (own := [("plan", 9)]) (N := ["self", "outer", "inner", "deeds", "outer_loop", "inner_loop", "plans", "deed", "index", "plan", "start", "stop", "outer_descends", "low", "high", "inner_descends"]) (sc := defScope s_NInit) (by decide +kernel))
              (fun _ _ _ _ _ => (pg_name (i := 9) sc_NInit.nd rfl (by first | exact .inl rfl | exact .inr rfl))) (fun _ _ _ _ _ => pts_nil) (fun _ _ _ _ _ => (pe_cmpR op_notN (pv 9) pe_non (nomark _)))) (pa_cons (pe_glob (v := .int 6) (by rfl) mM ⟨_, rfl⟩) pa_nil))))
          (pss_cons (ps_if (pt_cmpR op_notN (pv 8) pe_non (nomark _))
          (pss_one ps_never)
          pss_nil)
          (pss_cons (ps_fld (pv 0) (pv 1) rfl)
          (pss_cons (ps_fld (pv 0) (pv 2) rfl)
          (pss_cons (ps_fld (pv 0) (pv 3) rfl)
          (pss_cons (ps_asg (pv 4) (pg_tup (by rfl) (pgs_cons (pg_name (i := 10) sc_NInit.nd rfl (by first | exact .inl rfl | exact .inr rfl)) (pgs_cons (pg_name (i := 11) sc_NInit.nd rfl (by first | exact .inl rfl | exact .inr rfl)) (pgs_cons (pg_name (i := 12) sc_NInit.nd rfl (by first | exact .inl rfl | exact .inr rfl)) pgs_nil)))))
          (pss_cons (ps_asg (pv 5) (pg_tup (by rfl) (pgs_cons (pg_name (i := 13) sc_NInit.nd rfl (by first | exact .inl rfl | exact .inr rfl)) (pgs_cons (pg_name (i := 14) sc_NInit.nd rfl (by first | exact .inl rfl | exact .inr rfl)) (pgs_cons (pg_name (i := 15) sc_NInit.nd rfl (by first | exact .inl rfl | exact .inr rfl)) pgs_nil)))))
          (pss_cons (ps_fld (pv 0) (pe_tup (pa_cons (pv 10) (pa_cons (pv 11) (pa_cons (pv 13) (pa_cons (pv 14) pa_nil))))) rfl)
          (pss_cons (ps_fld (pv 0) (pe_ix (ix_O DR (un1 hr)) (pe_glob (v := .ref aR) (by rfl) mR rfl) (pe_tup (pa_cons (pv 12) (pa_cons (pv 15) pa_nil))) (fun _ _ => rfl)) rfl)
          (pss_one (ps_fld (pv 0) (pe_tupleOf (by rfl) T.tuple (pv 6)) rfl))))))))))))))), ?_⟩
  refine sq_ ?_
  refine ⟨_, rfl, .str o, rfl, .inl ⟨o, rfl, ho⟩, (fun e => by rw [show okLoop obs (.str o) = true from lo] at e; cases e), fun _ z p1 H1 ez np1 s1 hp1 => ?_⟩
  cases ez
  refine ⟨_, rfl, .str i, rfl, .inl ⟨i, rfl, hi⟩, (fun e => by rw [show okLoop (obs ++ ibs) (.str i) = true from li] at e; cases e), fun _ z p2 H2 ez np2 s2 hp2 => ?_⟩
  cases ez
  refine ⟨_, _, rfl, ?_⟩
  refine pr_seq (if_ ?_)
  refine ⟨_, rfl, rfl, _, rfl, ?_⟩
  refine iteF ?_
  refine pr_seq (if_ ?_)
  refine ⟨_, rfl, rfl, _, rfl, ?_⟩
  refine iteF ?_
  have hp1' := hp1.same s2
  have s12 := s1.trans s2
  refine pr_seq (set_ (gen_of (fun y H' => ∃ (Dq : Addr) (qs : List V), y = .ref Dq ∧ Same H2 H' ∧ H' Dq = some (.lst qs) ∧ Plans H' qs ds) (fun Q' k => ?_) ?_))
  · refine ⟨_, rfl, dp, rfl, ⟨_, SqT.of (s12 _ _ hd)⟩, fun Dq nDq => ?_⟩
    refine lc_tup (K := K) (a := dp) (xs := ds.map V.str) (fun j H' => Same H2 H' ∧ ∃ qs, H' Dq = some (.lst qs) ∧ Plans H' qs (ds.take j)) ⟨same_new nDq, [], upd_same, .nil⟩ (fun j H' _ h => (SqT.of (s12 _ _ hd)).ext h.1) (fun j y H' hy h => ?_) (fun H' h => ?_)
    · obtain ⟨sm, qs, hD, hq⟩ := h
      rw [List.getElem?_map] at hy
      cases hj : ds[j]? with
      | none =>
        rw [hj] at hy
        cases hy
      | some z =>
        rw [hj] at hy
        cases hy
        have hz := List.mem_of_getElem? hj
        refine ⟨rfl, ?_⟩
        have okz : okDeed (.str z) = true := deeds_ok hds z hz
        refine ⟨_, rfl, .str z, rfl, .inl ⟨z, rfl, hds.1 z hz⟩, (fun e => by rw [okz] at e; cases e), fun _ z' p H3 ez np s3 hp => ⟨qs, s3 _ _ hD, ?_, ?_, qs ++ [.ref p], ?_, ?_⟩⟩
        · rw [hq.len, List.length_take]
          omega
        · intro c o' hc
          rw [upd_ne (fun e => by rw [e, nDq] at hc; cases hc)]
          exact s3 c o' (sm c o' hc)
        · exact upd_same
        · cases ez
          rw [List.take_add_one, hj]
          have hD3 := s3 _ _ hD
          have up : ∀ a oo, a ≠ Dq → H3 a = some oo → upd H3 Dq (.lst (qs ++ [.ref p])) a = some oo := fun a oo na e => by
            rw [upd_ne na]
            exact e
          have tupNe : ∀ a ys, H3 a = some (HO.tup ys) → a ≠ Dq := fun a ys e e2 => by
            rw [e2, hD3] at e
            cases e
          have one : ∀ {a : Addr} {zz : Str}, PlanAt H3 a zz → PlanAt (upd H3 Dq (.lst (qs ++ [.ref p]))) a zz := fun {a zz} h => by
            obtain ⟨ts, te, c, h1, h2, h3, h4⟩ := h
            refine ⟨ts, te, c, up _ _ (tupNe _ _ h1) h1, up _ _ (tupNe _ _ h2) h2, up _ _ (tupNe _ _ h3) h3, ?_⟩
            rcases h4 with h4 | ⟨a4, l4, s4, r4, e1, e2, e3⟩
            · exact .inl h4
            · exact .inr ⟨a4, l4, s4, r4, e1, e2, up _ _ (tupNe _ _ e3) e3⟩
          have all : ∀ {ps : List V} {zs : List Str}, Plans H3 ps zs → Plans (upd H3 Dq (.lst (qs ++ [.ref p]))) ps zs := fun h => by
            induction h with
            | nil => exact .nil
            | cons h r ih => exact .cons (one h) ih
          exact (all (hq.same s3)).snoc (one hp)
    · obtain ⟨sm, qs, hD, hq⟩ := h
      rw [List.length_map, List.take_length] at hq
      exact k _ _ ⟨Dq, qs, rfl, sm, hD, hq⟩
  rintro _ H3 ⟨Dq, qs, rfl, s3, hDq, hqs⟩
  refine pr_seq (set_ (gen_of (fun y H' => y = .non ∧ Same H3 H') (fun Q' k => ?_) ?_))
  · refine ⟨_, rfl, Dq, rfl, ⟨_, SqL.of hDq⟩, fun Df nDf => ?_⟩
    refine lc_list (K := K) (a := Dq) (xs := qs) (fun j H' => Same H3 H' ∧ H' Df = some (.lst ((List.replicate j true).map V.bl))) ⟨same_new nDf, upd_same⟩ (fun j H' _ h => (SqL.of hDq).ext h.1) (fun j y H' hy h => ?_) (fun H' h => ?_)
    · obtain ⟨sm, hD⟩ := h
      obtain ⟨p, rfl⟩ := hqs.refs y (List.mem_of_getElem? hy)
      have hj : j < qs.length := by
        obtain ⟨h1, _⟩ := List.getElem?_eq_some_iff.mp hy
        exact h1
      refine ⟨rfl, ?_⟩
      refine ⟨_, rfl, rfl, _, hD, ?_, ?_, ?_⟩
      · rw [List.length_map, List.length_replicate]
        have := hqs.len
        omega
      · intro c o' hc
        rw [upd_ne (fun e => by rw [e, nDf] at hc; cases hc)]
        exact sm c o' hc
      · rw [upd_same, List.replicate_succ', List.map_append]
        rfl
    · obtain ⟨sm, hD⟩ := h
      refine ⟨Df, 6, _, rfl, SqL.of hD, fun H' s' => ?_⟩
      rw [fw_none (List.replicate qs.length true) 0 6 (fun b hb => List.eq_of_mem_replicate hb) (by rw [List.length_replicate, hqs.len]; omega)]
      exact k _ _ ⟨rfl, sm.trans s'⟩
  rintro _ H4 ⟨rfl, s4⟩
  refine pr_seq (if_ ?_)
  refine ⟨_, rfl, rfl, _, rfl, ?_⟩
  refine iteF ?_
  have sm4 : Same H H4 := (s12.trans s3).trans s4
  have hx4 := sm4 _ _ hx
  obtain ⟨a1, a2, t1, t2, d, g1, gb1, gb2, gl⟩ := hp1'
  obtain ⟨b1, b2, u1, u2, e, k1, kb1, kb2, kl⟩ := hp2
  have g1 := s4 _ _ (s3 _ _ g1)
  have k1 := s4 _ _ (s3 _ _ k1)
  have hDq4 := s4 _ _ hDq
  replace hqs := hqs.same s4
  obtain ⟨kp, op, hkey⟩ := hR d e
  have len1 : ∀ (m : Str) (v : V) (fs : List (Str × V)) (n : Nat), fs.length ≤ n → (putF m v fs).length ≤ n + 1 := fun m v fs n h => Nat.le_trans (putF_len m v fs) (Nat.succ_le_succ h)
  refine pr_seq (st_same (fun H' => H' x = some (.ins C dx (putF "_outer" (.str o) [])) ∧ Off x H4 H') (fun D' k => ?_) ?_)
  · exact ⟨_, rfl, _, rfl, x, C, dx, _, rfl, hx4, N.cl, N.nO, (by show 0 < 1000; decide), k _ ⟨upd_same, fun b u hb e => by rw [upd_ne hb]; exact e⟩⟩
  rintro H5 ⟨hx5, o5⟩
  refine pr_seq (st_same (fun H' => H' x = some (.ins C dx (putF "_inner" (.str i) (putF "_outer" (.str o) []))) ∧ Off x H4 H') (fun D' k => ?_) ?_)
  · refine ⟨_, rfl, _, rfl, x, C, dx, _, rfl, hx5, N.cl, N.nI, ?_, k _ ⟨upd_same, fun b u hb e => by rw [upd_ne hb]; exact o5 _ _ hb e⟩⟩
    have := len1 "_outer" (.str o) [] 0 (Nat.le_refl _)
    omega
  rintro H6 ⟨hx6, o6⟩
  refine pr_seq (st_same (fun H' => H' x = some (.ins C dx (putF "_deeds" (.ref dp) (putF "_inner" (.str i) (putF "_outer" (.str o) [])))) ∧ Off x H4 H') (fun D' k => ?_) ?_)
  · refine ⟨_, rfl, _, rfl, x, C, dx, _, rfl, hx6, N.cl, N.nD, ?_, k _ ⟨upd_same, fun b u hb e => by rw [upd_ne hb]; exact o6 _ _ hb e⟩⟩
    have := len1 "_inner" (.str i) _ _ (len1 "_outer" (.str o) [] 0 (Nat.le_refl _))
    omega
  rintro H7 ⟨hx7, o7⟩
  refine pr_seq (asg_ ?_)
  refine ⟨_, rfl, p1, _, rfl, SqT.of (o7 _ _ (ne_ins hx4 g1) g1), rfl, _, _, rfl, _, _, rfl, _, _, rfl, rfl, ?_⟩
  refine pr_seq (asg_ ?_)
  refine ⟨_, rfl, p2, _, rfl, SqT.of (o7 _ _ (ne_ins hx4 k1) k1), rfl, _, _, rfl, _, _, rfl, _, _, rfl, rfl, ?_⟩
  refine pr_seq (st_same (fun H' => ∃ bp : Addr, H' bp = some (.tup [.ref a1, .ref a2, .ref b1, .ref b2]) ∧ H' x = some (.ins C dx (putF "bounds" (.ref bp) (putF "_deeds" (.ref dp) (putF "_inner" (.str i) (putF "_outer" (.str o) []))))) ∧ Off x H4 H') (fun D' k => ?_) ?_)
  · refine ⟨_, rfl, _, rfl, _, rfl, _, rfl, (by show 4 ≤ sizeLine; decide), fun bp nbp => ?_⟩
    have sb := same_new (o := .tup [.ref a1, .ref a2, .ref b1, .ref b2]) nbp
    have nx : bp ≠ x := fun e => by rw [e, hx7] at nbp; cases nbp
    refine ⟨_, rfl, x, C, dx, _, rfl, sb _ _ hx7, N.cl, N.nB, ?_, k _ ⟨bp, ?_, upd_same, fun b u hb e => by rw [upd_ne hb]; exact sb _ _ (o7 _ _ hb e)⟩⟩
    · have := len1 "_deeds" (.ref dp) _ _ (len1 "_inner" (.str i) _ _ (len1 "_outer" (.str o) [] 0 (Nat.le_refl _)))
      omega
    · rw [upd_ne nx]
      exact upd_same
  rintro H8 ⟨bp, hbp, hx8, o8⟩
  refine pr_seq (st_same (fun H' => H' x = some (.ins C dx (putF "orders" (.ref op) (putF "bounds" (.ref bp) (putF "_deeds" (.ref dp) (putF "_inner" (.str i) (putF "_outer" (.str o) [])))))) ∧ Off x H8 H') (fun D' k => ?_) ?_)
  · refine ⟨_, rfl, _, rfl, (by show 2 ≤ sizeLine; decide), fun tp ntp => ?_⟩
    have st := same_new (o := .tup [.int (if d = true then 1 else 0), .int (if e = true then 1 else 0)]) ntp
    refine ⟨tp, [if d = true then 1 else 0, if e = true then 1 else 0], (kp, .ref op), .ref op, rfl, rfl, SqT.of upd_same, hkey, rfl, ?_⟩
    refine ⟨_, rfl, x, C, dx, _, rfl, st _ _ hx8, N.cl, N.nR, ?_, k _ ⟨upd_same, fun b u hb e => by rw [upd_ne hb]; exact st _ _ e⟩⟩
    have := len1 "bounds" (.ref bp) _ _ (len1 "_deeds" (.ref dp) _ _ (len1 "_inner" (.str i) _ _ (len1 "_outer" (.str o) [] 0 (Nat.le_refl _))))
    omega
  rintro H9 ⟨hx9, o9⟩
  have o49 : Off x H4 H9 := fun b u hb e => o9 _ _ hb (o8 _ _ hb e)
  have nDq : Dq ≠ x := fun e => by rw [e, hx4] at hDq4; cases hDq4
  refine pr_one ?_
  refine ⟨_, rfl, .inl ⟨Dq, qs, rfl, SqL.of (o49 _ _ nDq hDq4), fun pp npp => ?_⟩⟩
  have sp := same_new (o := .tup qs) npp
  have npx : pp ≠ x := fun e => by rw [e, hx9] at npp; cases npp
  refine ⟨_, rfl, x, C, dx, _, rfl, sp _ _ hx9, N.cl, N.nP, ?_, ?_⟩
  · have := len1 "orders" (.ref op) _ _ (len1 "bounds" (.ref bp) _ _ (len1 "_deeds" (.ref dp) _ _ (len1 "_inner" (.str i) _ _ (len1 "_outer" (.str o) [] 0 (Nat.le_refl _)))))
    omega
  have fin : ∀ b u, b ≠ x → H9 b = some u → upd (upd H9 pp (.tup qs)) x (.ins C dx (putF "plans" (.ref pp) (putF "orders" (.ref op) (putF "bounds" (.ref bp) (putF "_deeds" (.ref dp) (putF "_inner" (.str i) (putF "_outer" (.str o) []))))))) b = some u := fun b u hb e => by
    rw [upd_ne hb]
    exact sp _ _ e
  refine q ⟨.ref bp, .ref op, .ref pp⟩ _ ⟨bp, op, pp, a1, a2, b1, b2, t1, t2, u1, u2, d, e, qs, rfl, fin _ _ (ne_ins hx8 hbp) (o9 _ _ (ne_ins hx8 hbp) hbp), gb1, gb2, kb1, kb2, gl, kl, ?_, ?_⟩ upd_same fun b u hb e => fin _ _ hb (o49 _ _ hb (sm4 _ _ e))
  · rw [upd_ne npx]
    exact upd_same
  · exact hqs.off hx4 fun b u hb e => fin _ _ hb (o49 _ _ hb e)
end
end Sq
namespace Sq
open PySem L2 TL
section
variable {X : Cx} {k : Nat} {f C : Addr} {sp : Sp}
/-- len(o), o an instance of a class of the text with a __len__ -/
theorem call_lenO (hs : PySem.W.findIn X.K (.ref C) "__len__" = some (some (.ref f))) (hf : PySem.W.isFn X.K (.ref f) = true) (F : FnR X.prog X.w X.K X.mg X.base CX0 k f sp) (hr : Room (k + 1) X.A) :
    CallR X (.builtin "len") (fun xs H Q => ∃ a dx fs, xs = [.ref a] ∧ H a = some (.ins C dx fs) ∧ sp [.ref a] H (fun v H' => ∃ n : Int, v = .int n ∧ 0 ≤ n ∧ n < 2 ^ 63 ∧ Q (.int n) H') E0) := by
  intro pins s σ H xs us Q I r h
  obtain ⟨a, dx, fs, rfl, ha, q⟩ := h
  obtain ⟨u, rfl, r1⟩ := vals1 r
  cases r1
  obtain ⟨mA, J, _⟩ := ins_get I.hok ha
  obtain ⟨od, J, _⟩ := J.look
  obtain ⟨m, hF⟩ := I.fr
  refine PySem.W.len_K hF I.ok.mod.kin J hs hf ?_
  refine wpAny_mono (run_below F hr.in1 rfl I (rel1 a) q) (fun v s' hv => ?_) fun _ _ z => z
  obtain ⟨y, H', I', ry, n, ey, h0, h1, q'⟩ := hv
  subst ey
  obtain ⟨t, rfl⟩ := ry
  exact ⟨⟨h0, h1⟩, .int n, H', I'.tok _, ⟨_, rfl⟩, q'⟩
end
theorem eqv_strs : ∀ ds es : List Str, PyData.eqvAll (ds.map .str) (es.map .str) = decide (ds = es)
  | [], [] => rfl
  | d :: ds, e :: es => by
    have ih := eqv_strs ds es
    show (PyData.eqv (.str d) (.str e) && PyData.eqvAll (ds.map .str) (es.map .str)) = _
    rw [ih]
    show ((d == e) && decide (ds = es)) = decide (d :: ds = e :: es)
    by_cases h1 : d = e
    · by_cases h2 : ds = es
      · simp [h1, h2]
      · simp [h1, h2]
    · simp [h1]
  | [], e :: es => by
    show false = decide (([] : List Str) = e :: es)
    simp
  | d :: ds, [] => by
    show false = decide (d :: ds = ([] : List Str))
    simp
theorem dp_strs {K : PySem.W.Frag} {H : Hp} : ∀ ds : List Str, DpAll K H (ds.map V.str) (ds.map PyData.str)
  | [] => .nil
  | d :: ds => .cons (.str d) (dp_strs ds)
section
variable {P : Program} {w : World} {K : PySem.W.Frag} {mg : Str → Option Value} {base : Heap}
variable {C : Addr}
abbrev sNOuter : Stmt := inClass (top 25) 1
abbrev sNInner : Stmt := inClass (top 25) 2
abbrev sNDeeds : Stmt := inClass (top 25) 3
abbrev sNLen : Stmt := inClass (top 25) 4
abbrev sNBool : Stmt := inClass (top 25) 5
abbrev sNEq : Stmt := inClass (top 25) 6
def spMade (K : PySem.W.Frag) (C : Addr) : Sp := fun vs H Q E => ∃ ws rest, vs = ws ++ rest ∧ ws.length = (["self", "outer", "inner"] : List Str).length ∧ rest.length ≤ sizeLine ∧ ∀ p, H p = none → spInit K C (ws ++ [V.ref p]) (upd H p (.tup rest)) Q E
def spKw (K : PySem.W.Frag) (C : Addr) : Sp := fun vs H Q E => ∃ x v1 v2, vs = [x, v1, v2] ∧ ∀ p, H p = none → spInit K C [x, v2, v1, .ref p] (upd H p (.tup [])) Q E
theorem ok_initR {C : Addr} {f : Addr} {fd : FuncData} (F : Fun K "__init__" "Nest.__init__" s_NInit f fd) (N : Nc K C) (T : Bt mg) (G_read_outer_loop : FB P w K mg base "read_outer_loop" 2 ["value"] (spReadL K obs))(G_read_loop : FB P w K mg base "read_loop" 1 ["value"] (spReadL K (obs ++ ibs)))(G_read_deed : FB P w K mg base "read_deed" 2 ["value"] (spReadD K))(G_first_wrong : FB P w K mg base "first_wrong" 1 ["rights", "most"] (spFirst K)) {u : Tok} (mM : mg "MOST_DEEDS" = some (.int 6 u)) {aR : Addr} (mR : mg "ORDERS" = some (.ref aR)) (DO : OrdD P w K aR) :
    FnR P w K mg base CX0 4 f (spMade K C) := by
  obtain ⟨oc, od, kV, doc, pm, an, cdv, ct, osl, rfl, lk, hcd⟩ := F.ex
  refine StX.fn_star (ps := ["self", "outer", "inner"]) (pv := "deeds") (sp := spInit K C) lk hcd sc_NInit StX.cxUp_none (fun us rest hl => ?_) fun A outer s H vs Q E hr h => init_body N T G_read_outer_loop G_read_loop G_read_deed G_first_wrong mM mR DO hr h
  match us, rest, hl with
  | [a, b, c], [], _ => rfl
  | [a, b, c], r :: rs, _ => rfl
theorem ok_initK {C : Addr} {f : Addr} {fd : FuncData} (F : Fun K "__init__" "Nest.__init__" s_NInit f fd) (N : Nc K C) (T : Bt mg) (G_read_outer_loop : FB P w K mg base "read_outer_loop" 2 ["value"] (spReadL K obs))(G_read_loop : FB P w K mg base "read_loop" 1 ["value"] (spReadL K (obs ++ ibs)))(G_read_deed : FB P w K mg base "read_deed" 2 ["value"] (spReadD K))(G_first_wrong : FB P w K mg base "first_wrong" 1 ["rights", "most"] (spFirst K)) {u : Tok} (mM : mg "MOST_DEEDS" = some (.int 6 u)) {aR : Addr} (mR : mg "ORDERS" = some (.ref aR)) (DO : OrdD P w K aR) :
    FnK2 P w K mg base 4 f "inner" "outer" (spKw K C) := by
  obtain ⟨oc, od, kV, doc, pm, an, cdv, ct, osl, rfl, lk, hcd⟩ := F.ex
  exact fn_starK2 (n0 := "self") (nv := "deeds") lk hcd sc_NInit (fun x u1 u2 => rfl) fun A outer s H vs Q E hr h => init_body N T G_read_outer_loop G_read_loop G_read_deed G_first_wrong mM mR DO hr h
theorem scGet1 : FnScope ["self"] ["self"] (defScope sNOuter) := ⟨rfl, rfl, rfl, by decide +kernel, rfl, by decide +kernel, by decide +kernel⟩
theorem ok_get1 {f : Addr} {fd : FuncData} (F : Fun K "outer" "Nest.outer" sNOuter f fd) (N : Nc K C) : FnOk P w K mg base CX0 1 f fd ["self"] (getSp C "_outer") := by
  obtain ⟨oc, od, kV, doc, pm, an, cdv, ct, osl, rfl, lk, hcd⟩ := F.ex
  exact fn_getter lk hcd scGet1 rfl rfl N.cl N.nO
theorem scGet2 : FnScope ["self"] ["self"] (defScope sNInner) := ⟨rfl, rfl, rfl, by decide +kernel, rfl, by decide +kernel, by decide +kernel⟩
theorem ok_get2 {f : Addr} {fd : FuncData} (F : Fun K "inner" "Nest.inner" sNInner f fd) (N : Nc K C) : FnOk P w K mg base CX0 1 f fd ["self"] (getSp C "_inner") := by
  obtain ⟨oc, od, kV, doc, pm, an, cdv, ct, osl, rfl, lk, hcd⟩ := F.ex
  exact fn_getter lk hcd scGet2 rfl rfl N.cl N.nI
theorem scGet3 : FnScope ["self"] ["self"] (defScope sNDeeds) := ⟨rfl, rfl, rfl, by decide +kernel, rfl, by decide +kernel, by decide +kernel⟩
theorem ok_get3 {f : Addr} {fd : FuncData} (F : Fun K "deeds" "Nest.deeds" sNDeeds f fd) (N : Nc K C) : FnOk P w K mg base CX0 1 f fd ["self"] (getSp C "_deeds") := by
  obtain ⟨oc, od, kV, doc, pm, an, cdv, ct, osl, rfl, lk, hcd⟩ := F.ex
  exact fn_getter lk hcd scGet3 rfl rfl N.cl N.nD
/-- __len__, __bool__, __eq__ of nests -/
def spNLen (C : Addr) : Sp := fun vs H Q _ => ∃ (a : Addr) (o i : Str) (ds : List Str), vs = [.ref a] ∧ NestAt C H a o i ds ∧ Q (.int (ds.length : Int)) H
theorem scNLen : FnScope ["self"] ["self"] (defScope sNLen) := ⟨rfl, rfl, rfl, by decide +kernel, rfl, by decide +kernel, by decide +kernel⟩
theorem ok_nlen {f : Addr} {fd : FuncData} (F : Fun K "__len__" "Nest.__len__" sNLen f fd) (N : Nc K C) (T : Bt mg) : FnOk P w K mg base CX0 1 f fd ["self"] (spNLen C) := by
  refine F.ok scNLen (fun vs H Q E h => ?_) (fun cdv A outer s H vs Q E hr h => ?_)
  · obtain ⟨a, o, i, ds, rfl, _⟩ := h
    rfl
  · obtain ⟨a, o, i, ds, rfl, ⟨dx, dp, ⟨R, h1⟩, h2⟩, q⟩ := h
    refine ⟨_, pss_one (ps_ret (pe_callB call_len_seq (by rfl) T.len PySem.boot_len (pa_cons (pe_fld (pv 0) rfl) pa_nil))), ?_⟩
    refine ⟨_, rfl, a, C, dx, _, _, rfl, h1, N.cl, N.nD, nfl_deeds _ _ _ _, dp, _, rfl, .inr (SqT.of h2), ?_⟩
    rw [List.length_map]
    exact q
def spNBool (C : Addr) : Sp := fun vs H Q _ => ∃ (a : Addr), vs = [.ref a] ∧ Q (.bl true) H
theorem scNBool : FnScope ["self"] ["self"] (defScope sNBool) := ⟨rfl, rfl, rfl, by decide +kernel, rfl, by decide +kernel, by decide +kernel⟩
theorem ok_nbool {f : Addr} {fd : FuncData} (F : Fun K "__bool__" "Nest.__bool__" sNBool f fd) : FnOk P w K mg base CX0 1 f fd ["self"] (spNBool C) := by
  refine F.ok scNBool (fun vs H Q E h => ?_) (fun cdv A outer s H vs Q E hr h => ?_)
  · obtain ⟨a, rfl, _⟩ := h
    rfl
  · obtain ⟨a, rfl, q⟩ := h
    exact ⟨_, pss_one (ps_ret pe_bl), q⟩
/-- what isinstance asks of an instance's class -/
structure Isn (K : PySem.W.Frag) (C : Addr) : Prop where
  c1 : PySem.W.findIn K (.ref C) "__class__" = some (some (.builtin "object.__class__"))
  c2 : PySem.W.specialIn K (.builtin "object.__class__") "__get__" = some (some (.builtin "getset_descriptor.__get__"))
  c3 : PySem.W.takesIn K (.builtin "object.__class__") = some true
  c4 : PySem.W.mroIn K C (.type "object") = some true
def spNEq (C : Addr) : Sp := fun vs H Q _ => ∃ (a b : Addr) (o i o2 i2 : Str) (ds es : List Str), vs = [.ref a, .ref b] ∧ NestAt C H a o i ds ∧ NestAt C H b o2 i2 es ∧ SeqAt.shaped (.tuple (ds.map .str)) = true ∧ SeqAt.shaped (.tuple (es.map .str)) = true ∧
  Q (.bl (decide (o = o2 ∧ i = i2 ∧ ds = es))) H
theorem scNEq : FnScope ["self", "other"] ["self", "other"] (defScope sNEq) := ⟨rfl, rfl, rfl, by decide +kernel, rfl, by decide +kernel, by decide +kernel⟩
theorem kit_self (K : PySem.W.Frag) (C : Addr) : PySem.W.kitOne K (.ref C) (.ref C) = some true := by
  unfold PySem.W.kitOne
  rw [if_pos (by simp)]
theorem ok_neq {f : Addr} {fd : FuncData} (F : Fun K "__eq__" "Nest.__eq__" sNEq f fd) (N : Nc K C) (I : Isn K C) (mN : mg "Nest" = some (.ref C)) (T : Bt mg) : FnOk P w K mg base CX0 1 f fd ["self", "other"] (spNEq C) := by
  refine F.ok scNEq (fun vs H Q E h => ?_) (fun cdv A outer s H vs Q E hr h => ?_)
  · obtain ⟨a, b, o, i, o2, i2, ds, es, rfl, _⟩ := h
    rfl
  · obtain ⟨a, b, o, i, o2, i2, ds, es, rfl, ⟨dx, dp, ⟨R, h1⟩, h2⟩, ⟨dy, dq, ⟨S, g1⟩, g2⟩, z1, z2, q⟩ := h
    refine ⟨_, pss_one (ps_ret (pe_and (pe_callB call_isi (by rfl) T.isinstance (by decide +kernel) (pa_cons (pv 1) (pa_cons (pe_glob (v := .ref C) (by rfl) mN rfl) pa_nil)))
      (pe_and (pe_cmpR op_eq (pe_fld (pv 0) rfl) (pe_fld (pv 1) rfl) (nomark _))
      (pe_and (pe_cmpR op_eq (pe_fld (pv 0) rfl) (pe_fld (pv 1) rfl) (nomark _))
      (pe_one (pe_cmpR (op_eqD hr.units) (pe_fld (pv 0) rfl) (pe_fld (pv 1) rfl) (nomark _))))))), ?_⟩
    refine ⟨_, rfl, _, _, .ref C, .ref C, true, rfl, .own C, .base (.ins g1 N.cl I.c1 I.c2 I.c3 I.c4), kit_self K C, true, rfl, ?_⟩
    refine iteT ?_
    refine ⟨_, rfl, a, C, dx, _, _, rfl, h1, N.cl, N.nO, nfl_outer _ _ _ _, _, rfl, b, C, dy, _, _, rfl, g1, N.cl, N.nO, nfl_outer _ _ _ _, rfl, _, rfl, ?_⟩
    refine ite2 (fun ho => ?_) (fun ho => ?_)
    · have eo : o = o2 := V.str.inj (of_decide_eq_true ho)
      refine ⟨_, rfl, a, C, dx, _, _, rfl, h1, N.cl, N.nI, nfl_inner _ _ _ _, _, rfl, b, C, dy, _, _, rfl, g1, N.cl, N.nI, nfl_inner _ _ _ _, rfl, _, rfl, ?_⟩
      refine ite2 (fun hi => ?_) (fun hi => ?_)
      · have ei : i = i2 := V.str.inj (of_decide_eq_true hi)
        refine ⟨_, rfl, a, C, dx, _, _, rfl, h1, N.cl, N.nD, nfl_deeds _ _ _ _, _, rfl, b, C, dy, _, _, rfl, g1, N.cl, N.nD, nfl_deeds _ _ _ _, ?_⟩
        refine ⟨.tuple (ds.map .str), .tuple (es.map .str), .tup (SqT.of h2) (dp_strs ds), .tup (SqT.of g2) (dp_strs es), ?_, ?_, ?_⟩
        · exact z1
        · exact z2
        · rw [show PyData.eqv (.tuple (ds.map .str)) (.tuple (es.map .str)) = decide (ds = es) from (by rw [PyData.eqv]; exact eqv_strs ds es)]
          simpa [eo, ei] using q
      · have ei : ¬ i = i2 := fun e => hi (decide_eq_true (by rw [e]))
        simpa [ei] using q
    · have eo : ¬ o = o2 := fun e => ho (decide_eq_true (by rw [e]))
      simpa [eo] using q
end
/-- all that is known of the class Nest -/
structure NestK (P : Program) (w : World) (K : PySem.W.Frag) (mg : Str → Option Value) (base : Heap) (C : Addr) : Prop where
  nc : Nc K C
  mN : mg "Nest" = some (.ref C)
  mks : ∃ fi, Mk K C fi ∧ FnR P w K mg base CX0 4 fi (spMade K C) ∧ FnK2 P w K mg base 4 fi "inner" "outer" (spKw K C)
  p1 : ∃ p g d, PropOf K C "outer" p g ∧ FnOk P w K mg base CX0 1 g d ["self"] (getSp C "_outer") ∧ Binds K d ["self"] []
  p2 : ∃ p g d, PropOf K C "inner" p g ∧ FnOk P w K mg base CX0 1 g d ["self"] (getSp C "_inner") ∧ Binds K d ["self"] []
  p3 : ∃ p g d, PropOf K C "deeds" p g ∧ FnOk P w K mg base CX0 1 g d ["self"] (getSp C "_deeds") ∧ Binds K d ["self"] []
  len : ∃ f, PySem.W.findIn K (.ref C) "__len__" = some (some (.ref f)) ∧ PySem.W.isFn K (.ref f) = true ∧ FnR P w K mg base CX0 1 f (spNLen C)
  bool : ∃ f, PySem.W.findIn K (.ref C) "__bool__" = some (some (.ref f)) ∧ PySem.W.isFn K (.ref f) = true ∧ FnR P w K mg base CX0 1 f (spNBool C)
  eq : ∃ f, PySem.W.findIn K (.ref C) "__eq__" = some (some (.ref f)) ∧ PySem.W.isFn K (.ref f) = true ∧ FnR P w K mg base CX0 1 f (spNEq C)
  ne : PySem.W.findIn K (.ref C) "__ne__" = some (some (.builtin "object.__ne__"))
  ob : PySem.W.subIn K (.ref C) (.type "object") = some true
end Sq
namespace Sq.N3
open PySem L2
abbrev sNumber : Stmt := top 32
abbrev sBag : Stmt := top 33
abbrev sTake : Stmt := top 34

/-- the built-ins that the text calls are still so -/
structure Bt (mg : Str → Option Value) : Prop where
  len : mg "len" = none
  int : mg "int" = none
  abs : mg "abs" = none
  divmod : mg "divmod" = none
  range : mg "range" = none

def spNumber (K : PySem.W.Frag) : Sp := fun vs H Q _ => ∃ (a : Addr) (ns : List Int) (k : Nat), vs = [.ref a, .int (k : Int)] ∧ SqL K H a (ns.map V.int) ∧ ns.length ≤ 63 ∧ k ≤ 63 ∧ ∀ n H', Same H H' → Q (.int n) H'
section
variable {P : Program} {w : World} {K : PySem.W.Frag} {mg : Str → Option Value} {base : Heap}
theorem scNumber : FnScope ["_law_script", "_law_k", "_law_mixed", "_law_cell"] ["_law_script", "_law_k"] (defScope sNumber) := ⟨rfl, rfl, rfl, by decide +kernel, rfl, by decide +kernel, by decide +kernel⟩
theorem ok_number {f : Addr} {fd : FuncData} (F : Fun K "_law_number" "_law_number" sNumber f fd) (T : Bt mg) : FnOk P w K mg base CX0 1 f fd ["_law_script", "_law_k"] (spNumber K) := by
  refine F.ok scNumber (fun vs H Q E h => ?_) (fun cdv A outer s H vs Q E hr h => ?_)
  · obtain ⟨a, ns, k, rfl, _⟩ := h
    rfl
  · obtain ⟨a, ns, k, rfl, hS, hl, k1, q⟩ := h
    refine ⟨_, pss_cons (ps_if (pt_cmpR op_lt (pv 1) (pe_callB call_len_seq (by rfl) T.len PySem.boot_len (pa_cons (pv 0) pa_nil)) (nomark _))
        (pss_one (ps_ret (pe_callTy call_int1 (by rfl) T.int (by decide +kernel) (pa_cons (pe_ix ix_list (pv 0) (pv 1) (fun _ _ => rfl)) pa_nil)))) pss_nil)
      (pss_cons (ps_set (i := 2) scNumber.nd rfl (.inl rfl) (pe_op op_add pe_int (pe_op op_mul (pe_op op_mul pe_int (pv 1)) (pv 1))))
      (pss_cons (ps_for PassesOwn.never rfl (pi_list (pe_slice sl_list (pv 0) po_none (po_some pe_int))) (pg_name (i := 3) scNumber.nd rfl (.inl rfl))
        (pss_one (ps_set (i := 2) scNumber.nd rfl (.inl rfl) (pe_op op_mod (pe_callTy call_int1 (by rfl) T.int (by decide +kernel) (pa_cons (pe_op op_add (pe_op op_add (pe_op op_mul (pv 2) pe_int) (pv 3)) pe_int) pa_nil)) pe_int))))
      (pss_one (ps_ret (pv 2))))), ?_⟩
    refine ⟨_, rfl, _, rfl, a, _, rfl, .inl hS, _, _, rfl, rfl, _, rfl, ?_⟩
    rw [List.length_map]
    refine ite2 (fun hk => ?_) (fun hk => ?_)
    · have hlt : k < ns.length := Int.ofNat_lt.mp (of_decide_eq_true hk)
      refine ⟨_, rfl, _, rfl, a, _, _, _, rfl, rfl, hS, atI_nat (by rw [List.getElem?_map, List.getElem?_eq_getElem hlt]; rfl), .inl ⟨_, rfl, ?_⟩⟩
      exact q _ _ (Same.refl _)
    · refine ⟨_, rfl, _, _, rfl, rfl, .inl ⟨by decide, by decide⟩, _, rfl, _, _, rfl, rfl, .inr ⟨by omega, by omega⟩, _, _, rfl, rfl, ?_⟩
      refine ⟨_, rfl, _, rfl, a, _, rfl, hS, fun p np => ?_⟩
      refine ⟨p, rfl, ⟨_, SqL.of upd_same⟩, ?_⟩
      have s0 : Same H (upd H p (.lst (cutV (ns.map V.int) none (some 5)))) := fun b o e => by
        rw [upd_ne (ne_of_none e np)]
        exact e
      have allI : ∀ x ∈ cutV (ns.map V.int) none (some 5), ∃ i, x = V.int i := fun x hx => by
        unfold cutV at hx
        have h1 := List.mem_of_mem_drop (List.mem_of_mem_take hx)
        obtain ⟨i, _, e⟩ := List.mem_map.mp h1
        exact ⟨i, e.symm⟩
      refine for_list (K := K) (a := p) (xs := cutV (ns.map V.int) none (some 5)) (fun _ σ H' => ∃ m v, σ = [some (.ref a), some (.int (k : Int)), some (.int m), v] ∧ H' = upd H p (.lst (cutV (ns.map V.int) none (some 5))))
        ⟨_, _, rfl, rfl⟩ (fun i σ H' _ h => ?_) (fun i x σ H' hx h => ?_) (fun σ H' h => ?_)
      · obtain ⟨m, v, _, rfl⟩ := h
        exact SqL.of upd_same
      · obtain ⟨m, v, rfl, rfl⟩ := h
        obtain ⟨z, rfl⟩ := allI x (List.mem_of_getElem? hx)
        refine ⟨_, rfl, _, _, rfl, rfl, .inr ⟨by decide, by decide⟩, _, rfl, _, _, rfl, rfl, _, _, rfl, rfl, .inl ⟨_, rfl, _, _, rfl, rfl, (by show (0 : Int) < 2147483629; decide), ?_⟩⟩
        exact ⟨_, _, rfl, rfl⟩
      · obtain ⟨m, v, rfl, rfl⟩ := h
        exact ⟨_, rfl, q m _ s0⟩

theorem scBag : FnScope ["_law_number_here", "_law_mixed"] ["_law_number_here"] (defScope sBag) := ⟨rfl, rfl, rfl, by decide +kernel, rfl, by decide +kernel, by decide +kernel⟩
def spBag : Sp := fun vs H Q _ => ∃ n : Int, vs = [.int n] ∧ ∀ (p : Addr) (m d : Int), H p = none → Q (.ref p) (upd H p (.lst [.int m, .int d, .int 0]))
theorem ok_bag {f : Addr} {fd : FuncData} (F : Fun K "_law_bag" "_law_bag" sBag f fd) (T : Bt mg) : FnOk P w K mg base CX0 1 f fd ["_law_number_here"] spBag := by
  refine F.ok scBag (fun vs H Q E h => ?_) (fun cdv A outer s H vs Q E hr h => ?_)
  · obtain ⟨n, rfl, _⟩ := h
    rfl
  · obtain ⟨n, rfl, q⟩ := h
    refine ⟨_, pss_cons (ps_set (i := 1) scBag.nd rfl (.inl rfl) (pe_op op_mod (pe_callTy call_int1 (by rfl) T.int (by decide +kernel) (pa_cons (pe_op op_add (pe_op op_mul (pe_callB call_abs (by rfl) T.abs (by decide +kernel) (pa_cons (pv 0) pa_nil)) pe_int) pe_int) pa_nil)) pe_int))
      (pss_one (ps_ret (pe_lst (pa_cons (pv 1) (pa_cons (pe_ifExp (PW.pt (pw_or (pt_cmpR op_lt (pv 0) pe_int (nomark _)) (pw_or1 (pt_cmpR op_ge (pv 0) (pe_op op_pow pe_int pe_int) (nomark _)))))
        (pe_callB call_abs (by rfl) T.abs (by decide +kernel) (pa_cons (pv 0) pa_nil)) pe_int) (pa_cons pe_int pa_nil)))))), ?_⟩
    refine ⟨_, rfl, _, rfl, _, _, rfl, rfl, .inr ⟨by decide, by decide⟩, _, _, rfl, rfl, .inl ⟨_, rfl, _, _, rfl, rfl, (by show (0 : Int) < 2147483629; decide), ?_⟩⟩
    refine ⟨_, rfl, _, rfl, _, _, rfl, rfl, _, rfl, ?_⟩
    have fin : ∀ m d : Int, tLst (fun _ H Q => Q [.int m, .int d, .int 0] H) (L2.start [] []) H Q := fun m d => ⟨by show 3 ≤ sizeLine; decide, fun p np => q p m d np⟩
    refine ite2 (fun hk => ?_) (fun hk => ?_)
    · exact ⟨_, rfl, _, rfl, fin _ _⟩
    · refine ⟨_, rfl, _, _, rfl, rfl, ⟨by decide, by decide, by decide⟩, _, _, rfl, rfl, _, rfl, ?_⟩
      refine ite2 (fun hj => ?_) (fun hj => ?_)
      · exact ⟨_, rfl, _, rfl, fin _ _⟩
      · exact fin _ _
theorem scTake : FnScope ["_law_bag_here", "_law_many", "_law_mixed", "_law_digit"] ["_law_bag_here", "_law_many"] (defScope sTake) := ⟨rfl, rfl, rfl, by decide +kernel, rfl, by decide +kernel, by decide +kernel⟩
/-- all but what stands at p is as it was -/
def Off (p : Addr) (H H' : Hp) : Prop := ∀ b o, b ≠ p → H b = some o → H' b = some o
def spTake : Sp := fun vs H Q _ => ∃ (p : Addr) (m d c k : Int), vs = [.ref p, .int k] ∧ H p = some (.lst [.int m, .int d, .int c]) ∧ 0 < k ∧ k < 1000000 ∧
  ∀ (r m' d' c' : Int) (H' : Hp), 0 ≤ r → r < k → H' p = some (.lst [.int m', .int d', .int c']) → Off p H H' → Q (.int r) H'
theorem ok_take {f : Addr} {fd : FuncData} (F : Fun K "_law_take" "_law_take" sTake f fd) (T : Bt mg) : FnOk P w K mg base CX0 1 f fd ["_law_bag_here", "_law_many"] spTake := by
  refine F.ok scTake (fun vs H Q E h => ?_) (fun cdv A outer s H vs Q E hr h => ?_)
  · obtain ⟨p, m, d, c, k, rfl, _⟩ := h
    rfl
  · obtain ⟨p, m, d, c, k, rfl, hp, k0, k1, q⟩ := h
    refine ⟨_, pss_cons (ps_asg (pe_op op_add (pe_ix ix_list (pv 0) pe_int (fun _ _ => rfl)) pe_int) (pg_sub (pv 0) pe_int set_list))
      (pss_cons (ps_set (i := 2) scTake.nd rfl (.inl rfl) (pe_callTy call_int1 (by rfl) T.int (by decide +kernel) (pa_cons (pe_ix ix_list (pv 0) pe_int (fun _ _ => rfl)) pa_nil)))
      (pss_cons (ps_asg (pe_op op_mod (pe_callTy call_int1 (by rfl) T.int (by decide +kernel) (pa_cons (pe_op op_add (pe_op op_add (pe_op op_mul (pv 2) (pe_op op_add (pe_op op_mod (pe_callTy call_int1 (by rfl) T.int (by decide +kernel) (pa_cons (pv 2) pa_nil)) pe_int) pe_int))
          (pe_op op_mul pe_int (pe_ix ix_list (pv 0) pe_int (fun _ _ => rfl)))) pe_int) pa_nil)) pe_int) (pg_sub (pv 0) pe_int set_list))
      (pss_cons (ps_if (pt_cmpR op_gt (pe_ix ix_list (pv 0) pe_int (fun _ _ => rfl)) pe_int (nomark _))
        (pss_cons (ps_asg (pe_callB call_divmod (by rfl) T.divmod (by decide +kernel) (pa_cons (pe_ix ix_list (pv 0) pe_int (fun _ _ => rfl)) (pa_cons (pv 1) pa_nil)))
            (pg_tup (by rfl) (pgs_cons (pg_sub (pv 0) pe_int set_list) (pgs_cons (pg_name (i := 3) scTake.nd rfl (.inl rfl)) pgs_nil))))
          (pss_one (ps_ret (pv 3)))) pss_nil)
      (pss_one (ps_ret (pe_op op_mod (pe_callTy call_int1 (by rfl) T.int (by decide +kernel) (pa_cons (pe_op op_fdiv (pe_ix ix_list (pv 0) pe_int (fun _ _ => rfl)) pe_int) pa_nil)) (pv 1))))))), ?_⟩
    -- the count
    refine ⟨_, rfl, p, _, 2, _, rfl, rfl, SqL.of hp, rfl, _, _, rfl, rfl, _, rfl, p, _, 2, 2, rfl, rfl, hp, rfl, ?_⟩
    -- the mixed number
    refine ⟨_, rfl, p, _, 0, _, rfl, rfl, SqL.of upd_same, rfl, .inl ⟨_, rfl, ?_⟩⟩
    refine ⟨_, rfl, _, rfl, .inl ⟨_, rfl, _, _, rfl, rfl, (by show (0 : Int) < 30011; decide), _, _, rfl, rfl, _, _, rfl, rfl, .inr ⟨?_, ?_⟩, ?_⟩⟩
    · have := Int.emod_nonneg m (show (30011 : Int) ≠ 0 by decide)
      omega
    · have := Int.emod_lt_of_pos m (show (0 : Int) < 30011 by decide)
      omega
    refine ⟨_, rfl, p, _, 2, _, rfl, rfl, SqL.of upd_same, rfl, _, _, rfl, rfl, .inl ⟨by decide, by decide⟩, _, _, rfl, rfl, _, _, rfl, rfl, .inl ⟨_, rfl, _, _, rfl, rfl, (by show (0 : Int) < 2147483629; decide), ?_⟩⟩
    refine ⟨_, rfl, p, _, 0, 0, rfl, rfl, upd_same, rfl, ?_⟩
    refine ⟨_, rfl, p, _, 1, _, rfl, rfl, SqL.of upd_same, rfl, _, _, rfl, rfl, _, rfl, ?_⟩
    have off : ∀ o1 o2, Off p H (upd (upd H p o1) p o2) := fun o1 o2 b o hb e => by
      rw [upd_ne hb, upd_ne hb]
      exact e
    refine ite2 (fun hd => ?_) (fun hd => ?_)
    · refine ⟨_, rfl, p, _, 1, _, rfl, rfl, SqL.of upd_same, rfl, _, rfl, d, k, rfl, ⟨k0, by omega⟩, fun t nt => ?_⟩
      have ntp : p ≠ t := fun e => by
        rw [← e, upd_same] at nt
        cases nt
      refine ⟨t, _, rfl, SqT.of upd_same, rfl, _, _, rfl, _, rfl, p, _, 1, 1, rfl, rfl, (by rw [upd_ne ntp]; exact upd_same), rfl, _, _, rfl, rfl, _, rfl, ?_⟩
      refine q _ _ _ _ _ (Int.emod_nonneg _ (by omega)) (Int.emod_lt_of_pos _ k0) upd_same fun b o hb e => ?_
      have nbt : b ≠ t := fun z => by
        rw [← z, upd_ne hb, upd_ne hb, e] at nt
        cases nt
      rw [upd_ne hb, upd_ne nbt]
      exact off _ _ b o hb e
    · refine ⟨_, rfl, p, _, 0, _, rfl, rfl, SqL.of upd_same, rfl, _, _, rfl, rfl, ⟨by decide, by decide⟩, .inl ⟨_, rfl, _, rfl, _, _, rfl, rfl, k0, ?_⟩⟩
      exact q _ _ _ _ _ (Int.emod_nonneg _ (by omega)) (Int.emod_lt_of_pos _ k0) upd_same (off _ _)
end
end Sq.N3
namespace Sq.N3
open PySem L2 TL
abbrev sEdge : Stmt := top 35
abbrev sWalkRow : Stmt := top 36
def edge (b : Nat) : Str := (obs ++ ibs).getD b ""
def walkS (a b : Str) (down : Bool) : Str := a ++ " to " ++ b ++ (if down = true then (" down" : Str) else "")
theorem walk_split {a b : Str} (ha : 32 ∉ tl a) (hb : 32 ∉ tl b) (d : Bool) : Txt.split (walkS a b d) " " = [a, "to", b] ++ (if d = true then [("down" : Str)] else []) := by
  have key : ∀ parts : List Str, parts ≠ [] → (∀ p ∈ parts, 32 ∉ tl p) → walkS a b d = Txt.join " " parts → Txt.split (walkS a b d) " " = parts := fun parts h1 h2 e => by
    rw [e]
    exact split_join (s := 32) (S := []) (by decide +kernel) (by decide +kernel) h1 h2
  have ht : 32 ∉ tl ("to" : Str) := by decide +kernel
  have hd : 32 ∉ tl ("down" : Str) := by decide +kernel
  have e1 : tl (" to " : Str) = 32 :: (tl ("to" : Str) ++ [32]) := by decide +kernel
  have e2 : tl (" down" : Str) = 32 :: tl ("down" : Str) := by decide +kernel
  have e3 : tl (" " : Str) = [32] := by decide +kernel
  refine key _ (by cases d <;> simp) (fun p hp => ?_) (ext_tl ?_)
  · cases d
    · rcases (by simpa using hp : p = a ∨ p = "to" ∨ p = b) with rfl | rfl | rfl <;> assumption
    · rcases (by simpa using hp : p = a ∨ p = "to" ∨ p = b ∨ p = "down") with rfl | rfl | rfl | rfl <;> assumption
  · rw [join_eq, tl_join, e3]
    unfold walkS
    cases d
    · rw [tl_append, tl_append, tl_append, e1]
      simp [joinL]
      rfl
    · rw [tl_append, tl_append, tl_append, e1]
      simp [joinL, e2]
theorem walk_ok {bs : List Str} {a b : Str} (ha : 32 ∉ tl a) (hb : 32 ∉ tl b) (nb : b ≠ "down") (ma : memB bs a = true) (mb : memB bs b = true) (d : Bool) : loopB bs (walkS a b d) = true := by
  unfold loopB cutDown
  rw [walk_split ha hb]
  cases d
  · have e : ([a, "to", b] ++ (if false = true then [("down" : Str)] else []) : List Str) = [a, "to", b] := rfl
    rw [e]
    rw [if_neg (show ¬ ([a, "to", b] : List Str).getLast? = some ("down" : Str) from fun z => nb (Option.some.inj z))]
    simp [loopW, ma, mb]
  · have e : ([a, "to", b] ++ (if true = true then [("down" : Str)] else []) : List Str) = [a, "to", b, "down"] := rfl
    rw [e]
    rw [if_pos (show ([a, "to", b, "down"] : List Str).getLast? = some ("down" : Str) from rfl)]
    show loopW bs [a, "to", b] = true
    simp [loopW, ma, mb]
theorem edge_plain : ∀ a : _root_.Fin 18, 32 ∉ tl (edge a.val) ∧ edge a.val ≠ "down" ∧ memB (obs ++ ibs) (edge a.val) = true ∧ (edge a.val).length ≤ 12 := by decide +kernel
theorem edge_outer : ∀ a : _root_.Fin 12, memB obs (edge a.val) = true := by decide +kernel
def rowOf (a b d : Nat) : Str := walkS (edge a) (edge b) (decide (d = 1))
theorem row_outer {a b : Nat} (d : Nat) (ha : a < 12) (hb : b < 12) : loopB obs (rowOf a b d) = true :=
  walk_ok (edge_plain ⟨a, by omega⟩).1 (edge_plain ⟨b, by omega⟩).1 (edge_plain ⟨b, by omega⟩).2.1 (edge_outer ⟨a, ha⟩) (edge_outer ⟨b, hb⟩) _
theorem row_inner {a b : Nat} (d : Nat) (ha : a < 18) (hb : b < 18) : loopB (obs ++ ibs) (rowOf a b d) = true :=
  walk_ok (edge_plain ⟨a, ha⟩).1 (edge_plain ⟨b, hb⟩).1 (edge_plain ⟨b, hb⟩).2.1 (edge_plain ⟨a, ha⟩).2.2.1 (edge_plain ⟨b, hb⟩).2.2.1 _
theorem str_len_append (x y : Str) : (x ++ y).length = x.length + y.length := by
  rw [len_tl, tl_append, List.length_append, ← len_tl, ← len_tl]
theorem row_len {a b : Nat} (d : Nat) (ha : a < 18) (hb : b < 18) : (rowOf a b d).length ≤ 40 := by
  have h1 : (edge a).length ≤ 12 := (edge_plain ⟨a, ha⟩).2.2.2
  have h2 : (edge b).length ≤ 12 := (edge_plain ⟨b, hb⟩).2.2.2
  unfold rowOf walkS
  rw [str_len_append, str_len_append, str_len_append]
  have h3 : (if decide (d = 1) = true then (" down" : Str) else "").length ≤ 5 := by split <;> decide +kernel
  have h4 : (" to " : Str).length = 4 := by decide +kernel
  omega
section
variable {P : Program} {w : World} {K : PySem.W.Frag} {mg : Str → Option Value} {base : Heap} {fE : Addr} {dE : FuncData}
def spEdge : Sp := fun vs H Q _ => ∃ b : Nat, vs = [.int (b : Int)] ∧ b < 18 ∧ ∀ H', Same H H' → Q (.str (edge b)) H'
theorem scEdge : FnScope ["_law_bound", "_law_head"] ["_law_bound"] (defScope sEdge) := ⟨rfl, rfl, rfl, by decide +kernel, rfl, by decide +kernel, by decide +kernel⟩
theorem ok_edge {f : Addr} {fd : FuncData} (F : Fun K "_law_edge_row" "_law_edge_row" sEdge f fd) (T : Bt mg) : FnOk P w K mg base CX0 1 f fd ["_law_bound"] spEdge := by
  refine F.ok scEdge (fun vs H Q E h => ?_) (fun cdv A outer s H vs Q E hr h => ?_)
  · obtain ⟨b, rfl, _⟩ := h
    rfl
  · obtain ⟨b, rfl, hb, q⟩ := h
    refine ⟨_, pss_cons (ps_if (pt_cmpR op_lt (pv 0) pe_int (nomark _)) (pss_one (ps_ret (pe_ix ix_list (pe_lst (pa_cons pe_str (pa_cons pe_str (pa_cons pe_str pa_nil)))) (pv 0) (fun _ _ => rfl)))) pss_nil)
      (pss_cons (ps_set (i := 1) scEdge.nd rfl (.inl rfl) (pe_ix ix_list (pe_lst (pa_cons pe_str (pa_cons pe_str (pa_cons pe_str (pa_cons pe_str (pa_cons pe_str pa_nil)))))) (pe_op op_sub (pe_op op_fdiv (pv 0) pe_int) pe_int) (fun _ _ => rfl)))
      (pss_one (ps_ret (pe_op op_add_str (pv 1) (pe_ix ix_list (pe_lst (pa_cons pe_str (pa_cons pe_str (pa_cons pe_str pa_nil)))) (pe_op op_mod (pe_callTy call_int1 (by rfl) T.int (by decide +kernel) (pa_cons (pv 0) pa_nil)) pe_int) (fun _ _ => rfl)))))), ?_⟩
    refine ⟨_, rfl, _, _, rfl, rfl, _, rfl, ?_⟩
    have run3 : ∀ (b : Nat) (y : Str), edge b = y → (∀ H', Same H H' → Q (.str (edge b)) H') → ∀ H', Same H H' → Q (.str y) H' := fun b y e q H' sm => e ▸ q H' sm
    have alt : b = 0 ∨ b = 1 ∨ b = 2 ∨ b = 3 ∨ b = 4 ∨ b = 5 ∨ b = 6 ∨ b = 7 ∨ b = 8 ∨ b = 9 ∨ b = 10 ∨ b = 11 ∨ b = 12 ∨ b = 13 ∨ b = 14 ∨ b = 15 ∨ b = 16 ∨ b = 17 := by omega
    rcases alt with rfl | rfl | rfl | rfl | rfl | rfl | rfl | rfl | rfl | rfl | rfl | rfl | rfl | rfl | rfl | rfl | rfl | rfl
    all_goals
      first
      | (refine ite2 (fun _ => ?_) (fun n => absurd (by decide) n)
         refine ⟨by decide, fun p np => ⟨_, rfl, p, _, _, _, rfl, rfl, SqL.of upd_same, rfl, ?_⟩⟩
         exact run3 _ _ (by decide +kernel) q _ (same_new np))
      | (refine ite2 (fun y => absurd y (by decide)) (fun _ => ?_)
         refine ⟨by decide, fun p np => ⟨_, rfl, _, _, rfl, rfl, ⟨by decide, by decide⟩, _, _, rfl, rfl, p, _, _, _, rfl, rfl, SqL.of upd_same, rfl, ?_⟩⟩
         refine ⟨_, rfl, by decide, fun p2 np2 => ⟨_, rfl, .inl ⟨_, rfl, _, _, rfl, rfl, (by show (0 : Int) < 3; decide), p2, _, _, _, rfl, rfl, SqL.of upd_same, rfl, _, _, rfl, rfl, (by decide +kernel), ?_⟩⟩⟩
         exact run3 _ _ (by decide +kernel) q _ ((same_new np).trans (same_new np2)))
end
end Sq.N3
namespace Sq.N3
open PySem L2 TL
section
variable {P : Program} {w : World} {K : PySem.W.Frag} {mg : Str → Option Value} {base : Heap} {fE : Addr} {dE : FuncData}
def spWalkRow (K : PySem.W.Frag) : Sp := fun vs H Q _ => ∃ (t : Addr) (a b d : Nat), vs = [.ref t] ∧ SqT K H t [.int (a : Int), .int (b : Int), .int (d : Int)] ∧ a < 18 ∧ b < 18 ∧ ∀ H', Same H H' → Q (.str (rowOf a b d)) H'
theorem scWalkRow : FnScope ["_law_walk_here"] ["_law_walk_here"] (defScope sWalkRow) := ⟨rfl, rfl, rfl, by decide +kernel, rfl, by decide +kernel, by decide +kernel⟩
theorem ok_walkrow {f : Addr} {fd : FuncData} (F : Fun K "_law_walk_row" "_law_walk_row" sWalkRow f fd) (GE : FnOk P w K mg base CX0 1 fE dE ["_law_bound"] spEdge) (bE : Binds K dE ["_law_bound"] []) (kE : PySem.W.keepIn K (.ref fE) = true) (mE : mg "_law_edge_row" = some (.ref fE)) :
    FnOk P w K mg base CX0 2 f fd ["_law_walk_here"] (spWalkRow K) := by
  refine F.ok scWalkRow (fun vs H Q E h => ?_) (fun cdv A outer s H vs Q E hr h => ?_)
  · obtain ⟨t, a, b, d, rfl, _⟩ := h
    rfl
  · obtain ⟨t, a, b, d, rfl, ht, ha, hb, q⟩ := h
    have la : (edge a).length ≤ 12 := (edge_plain ⟨a, ha⟩).2.2.2
    have lb : (edge b).length ≤ 12 := (edge_plain ⟨b, hb⟩).2.2.2
    have l4 : (" to " : Str).length = 4 := by decide +kernel
    have l5 : (" down" : Str).length = 5 := by decide +kernel
    have l0 : ("" : Str).length = 0 := by decide +kernel
    have big : 100 ≤ sizeLine := by decide
    refine ⟨_, pss_one (ps_ret (pe_op op_add_str (pe_op op_add_str (pe_op op_add_str (pe_call GE hr (by rfl) mE kE bE .nil pass0 (pa_cons (pe_ix ix_tup (pv 0) pe_int (fun _ _ => rfl)) pa_nil)) pe_str)
        (pe_call GE hr (by rfl) mE kE bE .nil pass0 (pa_cons (pe_ix ix_tup (pv 0) pe_int (fun _ _ => rfl)) pa_nil)))
        (pe_ifExp (pt_cmpR op_eq (pe_ix ix_tup (pv 0) pe_int (fun _ _ => rfl)) pe_int (nomark _)) pe_str pe_str))), ?_⟩
    refine ⟨_, rfl, t, _, 0, _, rfl, rfl, ht, rfl, a, rfl, ha, fun H1 s1 => ?_⟩
    refine ⟨_, _, rfl, rfl, by omega, ?_⟩
    refine ⟨_, rfl, t, _, 1, _, rfl, rfl, ht.ext s1, rfl, b, rfl, hb, fun H2 s2 => ?_⟩
    have e1 : (edge a ++ (" to " : Str)).length = (edge a).length + (" to " : Str).length := str_len_append _ _
    have e2 : (edge a ++ (" to " : Str) ++ edge b).length = (edge a ++ (" to " : Str)).length + (edge b).length := str_len_append _ _
    have sm : Same H H2 := s1.trans s2
    refine ⟨_, _, rfl, rfl, by omega, ?_⟩
    refine ⟨_, rfl, t, _, 2, _, rfl, rfl, ht.ext sm, rfl, rfl, _, rfl, ?_⟩
    have z := q H2 sm
    unfold rowOf walkS at z
    refine ite2 (fun h1 => ?_) (fun h1 => ?_)
    · have hd : d = 1 := Int.ofNat.inj (V.int.inj (of_decide_eq_true h1))
      refine ⟨_, _, rfl, rfl, by omega, ?_⟩
      rw [if_pos (decide_eq_true hd)] at z
      exact z
    · have hd : ¬ d = 1 := fun e => h1 (decide_eq_true (by rw [e]; rfl))
      refine ⟨_, _, rfl, rfl, by omega, ?_⟩
      rw [if_neg (fun e => hd (of_decide_eq_true e))] at z
      exact z
end
end Sq.N3
namespace Sq.N3
open PySem L2 TL
abbrev sBehind : Stmt := top 30
abbrev sRowsBy : Stmt := top 28
/-! ### what stands behind a row's start -/
theorem starts_pre (x y : Str) : Txt.startswith x y = pre (tl y) (tl x) := by
  have hl := len_tl y
  have hx := len_tl x
  unfold Txt.startswith
  rw [StrLaws.subAt_eq, hl, List.drop_zero]
  show (decide (0 + y.length ≤ x.length) && ((tl x).take (tl y).length == tl y)) = ((tl x).take (tl y).length == tl y)
  cases e : ((tl x).take (tl y).length == tl y) with
  | false => simp
  | true =>
    have e1 := congrArg List.length (eq_of_beq e)
    rw [List.length_take] at e1
    simp
    omega
theorem starts_app (y x : Str) : Txt.startswith (y ++ x) y = true := by
  rw [starts_pre, tl_append]
  unfold pre
  rw [List.take_left, beq_self_eq_true]
theorem cut_app (y x : Str) : Txt.removeprefix (y ++ x) y = x := by
  have hs := starts_app y x
  unfold Txt.startswith at hs
  have h2 : Builtin.Str.subAt (y ++ x) y 0 = true := (Bool.and_eq_true_iff.mp hs).2
  unfold Txt.removeprefix
  rw [if_pos h2]
  have hl : (y ++ x).length = y.length + x.length := str_len_append y x
  show (if (y ++ x).length - y.length == (y ++ x).length then (y ++ x) else Builtin.Str.strSub (y ++ x) y.length (y ++ x).length) = x
  refine ext_tl ?_
  by_cases h0 : y.length = 0
  · have e0 : tl y = [] := List.eq_nil_of_length_eq_zero (by rw [← len_tl]; exact h0)
    rw [if_pos (by rw [hl]; simp; omega), tl_append, e0, List.nil_append]
  · rw [if_neg (by rw [hl]; simp; omega), tl_strSub, tl_append, len_tl y, List.drop_left, List.take_of_length_le (by rw [hl, len_tl x, len_tl y]; omega)]
def behindV (y x : Str) : V := if Txt.startswith x y = true then .str (Txt.removeprefix x y) else .non
theorem behind_app (y x : Str) : behindV y (y ++ x) = .str x := by
  unfold behindV
  rw [if_pos (starts_app y x), cut_app]
def spBehind : Sp := fun vs H Q _ => ∃ (y x : Str), vs = [.str y, .str x] ∧ x.length ≤ sizeLine ∧ Q (behindV y x) H
section
variable {P : Program} {w : World} {K : PySem.W.Frag} {mg : Str → Option Value} {base : Heap}
theorem scBehind : FnScope ["start", "row"] ["start", "row"] (defScope sBehind) := ⟨rfl, rfl, rfl, by decide +kernel, rfl, by decide +kernel, by decide +kernel⟩
theorem ok_behind {f : Addr} {fd : FuncData} (F : Fun K "behind" "behind" sBehind f fd) : FnOk P w K mg base CX0 1 f fd ["start", "row"] spBehind := by
  refine F.ok scBehind (fun vs H Q E h => ?_) (fun cdv A outer s H vs Q E hr h => ?_)
  · obtain ⟨y, x, rfl, _⟩ := h
    rfl
  · obtain ⟨y, x, rfl, hx, q⟩ := h
    refine ⟨_, pss_one (ps_ret (pe_ifExp (pt_val (pe_m1 PySem.F.slot_str_startswith PySem.F.type_str_startswith mt_startswith (pv 1) (pv 0))) (pe_m1 PySem.F.slot_str_removeprefix PySem.F.type_str_removeprefix mt_removeprefix (pv 1) (pv 0)) pe_non)), ?_⟩
    refine ⟨_, rfl, ⟨_, rfl⟩, _, rfl, _, _, rfl, rfl, _, rfl, ?_⟩
    unfold behindV at q
    cases e : Txt.startswith x y with
    | true =>
      rw [e, if_pos rfl] at q
      refine iteT ?_
      exact ⟨_, rfl, ⟨_, rfl⟩, _, rfl, _, _, rfl, rfl, hx, q⟩
    | false =>
      rw [e, if_neg (by decide)] at q
      exact iteF q
end
/-! ### the rows of a text, nest by nest -/
def ofrom : Str := "i from "
def jfrom : Str := "j from "
def addRow (gs : List (List Str)) (r : Str) : List (List Str) := if gs = [] ∨ Txt.startswith r ofrom = true then gs ++ [[r]] else gs.dropLast ++ [gs.getLast?.getD [] ++ [r]]
def grp (rows : List Str) : List (List Str) := rows.foldl addRow []
def partsOf (z : Str) : List (List Str) := if z = "" then [] else grp (Txt.split z "\n")
/-- lists of texts, listed at p -/
def Grps (H0 H : Hp) (p : Addr) (gs : List (List Str)) : Prop := ∃ as : List Addr, H p = some (.lst (as.map V.ref)) ∧ as.length = gs.length ∧ as.Nodup ∧ p ∉ as ∧ H0 p = none ∧ (∀ a ∈ as, H0 a = none) ∧
  ∀ (i : Nat) (a : Addr) (g : List Str), as[i]? = some a → gs[i]? = some g → H a = some (.lst (g.map V.str))
theorem addRow_len {gs : List (List Str)} {r : Str} {i : Nat} (h1 : gs.length ≤ i) (h2 : ∀ g ∈ gs, g.length ≤ i) : (addRow gs r).length ≤ i + 1 ∧ ∀ g ∈ addRow gs r, g.length ≤ i + 1 := by
  unfold addRow
  split
  · refine ⟨by rw [List.length_append]; exact Nat.add_le_add_right h1 1, fun g hg => ?_⟩
    rcases List.mem_append.mp hg with h | h
    · exact Nat.le_succ_of_le (h2 g h)
    · rw [List.mem_singleton.mp h]
      exact Nat.succ_le_succ (Nat.zero_le _)
  · rename_i hn
    have hne : gs ≠ [] := fun e => hn (.inl e)
    refine ⟨by rw [List.length_append, List.length_dropLast]; show gs.length - 1 + 1 ≤ i + 1; omega, fun g hg => ?_⟩
    rcases List.mem_append.mp hg with h | h
    · exact Nat.le_succ_of_le (h2 g (List.dropLast_subset _ h))
    · rw [List.mem_singleton.mp h, List.getLast?_eq_some_getLast hne]
      show (gs.getLast hne ++ [r]).length ≤ i + 1
      rw [List.length_append]
      exact Nat.add_le_add_right (h2 _ (List.getLast_mem hne)) 1
theorem nodup_snoc {as : List Addr} {q : Addr} (h : as.Nodup) (hq : q ∉ as) : (as ++ [q]).Nodup := by
  rw [List.nodup_append]
  exact ⟨h, List.nodup_cons.mpr ⟨List.not_mem_nil, List.nodup_nil⟩, fun a ha b hb e => hq (by rw [List.mem_singleton.mp hb] at e; rw [← e]; exact ha)⟩
theorem Grps.snoc {H0 H : Hp} {p q : Addr} {gs : List (List Str)} {as : List Addr} (sm : Same H0 H) (hq : H q = none) (h1 : H p = some (.lst (as.map V.ref))) (h2 : as.length = gs.length) (h3 : as.Nodup) (h4 : p ∉ as) (h5 : H0 p = none) (h6 : ∀ a ∈ as, H0 a = none)
    (h7 : ∀ (i : Nat) (a : Addr) (g : List Str), as[i]? = some a → gs[i]? = some g → H a = some (.lst (g.map V.str))) :
    Grps H0 (upd (upd H q (.lst [])) p (.lst (as.map V.ref ++ [.ref q]))) p (gs ++ [[]]) := by
  have npq : p ≠ q := ne_of_none h1 hq
  have nq0 : H0 q = none := by
    cases e : H0 q with
    | none => rfl
    | some o => rw [sm _ _ e] at hq; cases hq
  have nqa : q ∉ as := fun hm => by
    obtain ⟨i, hi⟩ := List.mem_iff_getElem?.mp hm
    have hl : i < gs.length := by rw [← h2]; exact (List.getElem?_eq_some_iff.mp hi).1
    have z := h7 i q _ hi (List.getElem?_eq_getElem hl)
    rw [hq] at z
    cases z
  refine ⟨as ++ [q], by rw [upd_same, List.map_append]; rfl, by rw [List.length_append, List.length_append, h2]; rfl, nodup_snoc h3 nqa, fun hm => ?_, h5, fun a ha => ?_, fun i a g hi hg => ?_⟩
  · rcases List.mem_append.mp hm with h | h
    · exact h4 h
    · exact npq (List.mem_singleton.mp h)
  · rcases List.mem_append.mp ha with h | h
    · exact h6 a h
    · rw [List.mem_singleton.mp h]
      exact nq0
  · by_cases hl : i < as.length
    · rw [List.getElem?_append_left hl] at hi
      rw [List.getElem?_append_left (by omega)] at hg
      have z := h7 i a g hi hg
      have ma : a ∈ as := List.mem_of_getElem? hi
      rw [upd_ne (fun e => h4 (by rw [← e]; exact ma)), upd_ne (fun e => nqa (by rw [← e]; exact ma))]
      exact z
    · rw [List.getElem?_append_right (by omega)] at hi
      rw [List.getElem?_append_right (by omega), ← h2] at hg
      cases hd : i - as.length with
      | zero =>
        rw [hd] at hi hg
        cases hi
        cases hg
        rw [upd_ne npq.symm]
        exact upd_same
      | succ n =>
        rw [hd] at hi
        cases hi
theorem Grps.last {H0 H : Hp} {p : Addr} {gs : List (List Str)} {g : List Str} (h : Grps H0 H p (gs ++ [g])) : ∃ (as : List Addr) (a : Addr), H p = some (.lst (as.map V.ref ++ [.ref a])) ∧ H a = some (.lst (g.map V.str)) ∧
    ∀ r : Str, Grps H0 (upd H a (.lst (g.map V.str ++ [.str r]))) p (gs ++ [g ++ [r]]) := by
  obtain ⟨bs, h1, h2, h3, h4, h5, h6, h7⟩ := h
  have hne : bs ≠ [] := fun e => by rw [e, List.length_append] at h2; cases h2
  obtain ⟨as, a, rfl⟩ : ∃ as a, bs = as ++ [a] := ⟨bs.dropLast, bs.getLast hne, (List.dropLast_concat_getLast hne).symm⟩
  have hl : as.length = gs.length := by rw [List.length_append, List.length_append] at h2; exact Nat.add_right_cancel h2
  have ma : a ∈ as ++ [a] := List.mem_append_right _ (List.mem_singleton.mpr rfl)
  have npa : p ≠ a := fun e => h4 (by rw [e]; exact ma)
  have haa : H a = some (.lst (g.map V.str)) := h7 as.length a g (by rw [List.getElem?_append_right (Nat.le_refl _), Nat.sub_self]; rfl) (by rw [hl, List.getElem?_append_right (Nat.le_refl _), Nat.sub_self]; rfl)
  refine ⟨as, a, by rw [h1, List.map_append]; rfl, haa, fun r => ⟨as ++ [a], by rw [upd_ne npa]; exact h1, by rw [List.length_append, List.length_append, hl]; rfl, h3, h4, h5, h6, fun i b g' hi hg => ?_⟩⟩
  by_cases hli : i < as.length
  · have hi2 := hi
    rw [List.getElem?_append_left hli] at hi
    rw [List.getElem?_append_left (by omega)] at hg
    have nba : b ≠ a := fun e => by
      have mb : b ∈ as := List.mem_of_getElem? hi
      exact (List.nodup_append.mp h3).2.2 b mb a (List.mem_singleton.mpr rfl) e
    rw [upd_ne nba]
    exact h7 i b g' hi2 (by rw [List.getElem?_append_left (by omega)]; exact hg)
  · rw [List.getElem?_append_right (by omega)] at hi
    rw [List.getElem?_append_right (by omega), ← hl] at hg
    cases hd : i - as.length with
    | zero =>
      rw [hd] at hi hg
      cases hi
      cases hg
      rw [upd_same, List.map_append]
      rfl
    | succ n =>
      rw [hd] at hi
      cases hi
end Sq.N3
namespace Sq.N3
open PySem L2 TL
theorem partsOf_step {ws : List Str} {i : Nat} {r : Str} (h : ws[i]? = some r) : grp (ws.take (i + 1)) = addRow (grp (ws.take i)) r := by
  unfold grp
  rw [List.take_add_one, h, List.foldl_append]
  rfl
theorem same_old {H0 H : Hp} {a : Addr} {o : HO} (sm : Same H0 H) (h : H0 a = none) : Same H0 (upd H a o) := fun b u e => by
  rw [upd_ne (fun z => by rw [z, h] at e; cases e)]
  exact sm b u e
def spRowsBy (K : PySem.W.Frag) : Sp := fun vs H Q _ => ∃ z : Str, vs = [.str z] ∧ z.length + 2 ≤ sizeLine ∧ (Txt.split z "\n").length < sizeLine ∧ (∀ r ∈ Txt.split z "\n", r.length ≤ sizeLine) ∧
  ∀ (p : Addr) (H' : Hp), Same H H' → Grps H H' p (partsOf z) → Q (.ref p) H'
section
variable {P : Program} {w : World} {K : PySem.W.Frag} {mg : Str → Option Value} {base : Heap}
theorem scRowsBy : FnScope ["text", "parts", "row"] ["text"] (defScope sRowsBy) := ⟨rfl, rfl, rfl, by decide +kernel, rfl, by decide +kernel, by decide +kernel⟩
theorem ok_rowsBy {f : Addr} {fd : FuncData} (F : Fun K "rows_by_nest" "rows_by_nest" sRowsBy f fd) {u : Tok} (mS : mg "OUTER_START" = some (.str ofrom u)) : FnOk P w K mg base CX0 1 f fd ["text"] (spRowsBy K) := by
  refine F.ok scRowsBy (fun vs H Q E h => ?_) (fun cdv A outer s H vs Q E hr h => ?_)
  · obtain ⟨z, rfl, _⟩ := h
    rfl
  · obtain ⟨z, rfl, hz, hn, hrow, q⟩ := h
    refine ⟨_, pss_cons (ps_if (pt_cmpR op_eq (pv 0) pe_str (nomark _)) (pss_one (ps_ret (pe_lst pa_nil))) pss_nil)
      (pss_cons (ps_set (i := 1) scRowsBy.nd rfl (.inl rfl) (pe_lst pa_nil))
      (pss_cons (ps_for PassesOwn.never rfl (pi_list (pe_split (pv 0) pe_str)) (pg_name (i := 2) scRowsBy.nd rfl (.inl rfl))
        (pss_cons (ps_if (PW.pt (pw_or (pt_not (pt_truth (pv 1) (by intro _; rfl))) (pw_or1 (pt_val (pe_m1 PySem.F.slot_str_startswith PySem.F.type_str_startswith mt_startswith (pv 2) (pe_glob (v := .str ofrom) (by rfl) mS ⟨_, rfl⟩))))))
          (pss_one (ps_expr (pe_bm PySem.F.plainAttrs_list PySem.F.slot_list_append PySem.F.type_list_append mt_append (pv 1) (pa_cons (pe_lst pa_nil) pa_nil)))) pss_nil)
        (pss_one (ps_expr (pe_bm PySem.F.plainAttrs_list PySem.F.slot_list_append PySem.F.type_list_append mt_append (pe_ix ix_list (pv 1) (pe_un un_neg pe_int) (fun _ _ => rfl)) (pa_cons (pv 2) pa_nil))))))
      (pss_one (ps_ret (pv 1))))), ?_⟩
    refine ⟨_, rfl, rfl, _, rfl, ?_⟩
    refine ite2 (fun he => ?_) (fun he => ?_)
    · have ez : z = "" := V.str.inj (of_decide_eq_true he)
      refine ⟨Nat.zero_le _, fun p np => ?_⟩
      refine q p _ (same_new np) ?_
      unfold partsOf
      rw [if_pos ez]
      exact ⟨[], upd_same, rfl, List.nodup_nil, List.not_mem_nil, np, fun a ha => absurd ha List.not_mem_nil, fun i a g hi _ => by cases hi⟩
    · have ez : ¬ z = "" := fun e => he (decide_eq_true (by rw [e]))
      refine ⟨Nat.zero_le _, fun p np => ?_⟩
      refine ⟨_, rfl, ⟨_, rfl⟩, _, _, rfl, rfl, rfl, hz, fun l nl => ?_⟩
      have eP : partsOf z = grp (Txt.split z "\n") := by
        unfold partsOf
        rw [if_neg ez]
      rw [eP] at q
      have g0 : Grps H (upd H p (.lst [])) p [] := ⟨[], upd_same, rfl, List.nodup_nil, List.not_mem_nil, np, fun a ha => absurd ha List.not_mem_nil, fun i a g hi _ => by cases hi⟩
      refine ⟨l, rfl, ⟨_, SqL.of upd_same⟩, ?_⟩
      generalize hws : Txt.split z "\n" = ws at *
      have nlp : l ≠ p := fun e => by rw [e, upd_same] at nl; cases nl
      have nlH : H l = none := by rw [upd_ne nlp] at nl; exact nl
      refine for_list (xs := ws.map V.str) (fun i σ H' => (∃ v, σ = [some (.str z), some (.ref p), v]) ∧ Same H H' ∧ H' l = some (.lst (ws.map V.str)) ∧ (∃ gs, gs = grp (ws.take i) ∧ Grps H H' p gs ∧ (∀ as : List Addr, H' p = some (.lst (as.map V.ref)) → l ∉ as) ∧ gs.length ≤ i ∧ ∀ g ∈ gs, g.length ≤ i)) ?_ (fun i σ H' _ h => SqL.of h.2.2.1) (fun i x σ H' hi h => ?_) (fun σ H' h => ?_)
      · refine ⟨⟨_, rfl⟩, (same_new np).trans (same_new nl), upd_same, [], rfl, ⟨[], by rw [upd_ne nlp.symm]; exact upd_same, rfl, List.nodup_nil, List.not_mem_nil, np, fun a ha => absurd ha List.not_mem_nil, fun i a g hi _ => by cases hi⟩, fun as has => ?_, Nat.le_refl _, fun g hg => absurd hg List.not_mem_nil⟩
        rw [upd_ne nlp.symm, upd_same] at has
        cases as with
        | nil => exact List.not_mem_nil
        | cons a r => cases has
      · obtain ⟨⟨v, rfl⟩, sm, hl, gs, eg, hg, hlas, n1, n2⟩ := h
        obtain ⟨r, hr1, rfl⟩ : ∃ r, ws[i]? = some r ∧ x = .str r := by
          rw [List.getElem?_map] at hi
          cases e : ws[i]? with
          | none => rw [e] at hi; cases hi
          | some r => rw [e] at hi; exact ⟨r, rfl, (Option.some.inj hi).symm⟩
        have hiw : i < ws.length := (List.getElem?_eq_some_iff.mp hr1).1
        have st : grp (ws.take (i + 1)) = addRow gs r := by rw [partsOf_step hr1, ← eg]
        have al := addRow_len (r := r) n1 n2
        obtain ⟨bs, h1, h2, h3, h4, h5, h6, h7⟩ := id hg
        have hfresh : ∀ q, H' q = none → l ≠ q := fun q nq e => by rw [← e, hl] at nq; cases nq
        refine ⟨_, rfl, _, .inl ⟨_, SqL.of h1, rfl⟩, ?_⟩
        have hpl : p ≠ l := nlp.symm
        cases gs with
        | nil =>
          cases bs with
          | cons _ _ => cases h2
          | nil =>
            refine iteT ?_
            refine ⟨_, rfl, .inl ⟨rfl, _, SqL.of h1⟩, Nat.zero_le _, fun q nq => ⟨p, _, _, rfl, rfl, (by rw [upd_ne (ne_of_none h1 nq)]; exact h1), (by show 0 < sizeLine; decide), ?_⟩⟩
            have hG := Grps.snoc sm nq h1 h2 h3 h4 h5 h6 h7
            have nq0 : H q = none := by
              cases e : H q with
              | none => rfl
              | some o => rw [sm _ _ e] at nq; cases nq
            have smG := same_old (o := .lst (([] : List Addr).map V.ref ++ [.ref q])) (same_old (o := .lst []) sm nq0) h5
            have hlG : (upd (upd H' q (.lst [])) p (.lst (([] : List Addr).map V.ref ++ [.ref q]))) l = some (.lst (ws.map V.str)) := by
              rw [upd_ne nlp, upd_ne (hfresh q nq)]
              exact hl
            have hlas : ∀ as : List Addr, (upd (upd H' q (.lst [])) p (.lst (([] : List Addr).map V.ref ++ [.ref q]))) p = some (.lst (as.map V.ref)) → l ∉ as := fun as has hm => by
              rw [upd_same] at has
              have zz := HO.lst.inj (Option.some.inj has)
              have me : (V.ref l) ∈ as.map V.ref := List.mem_map.mpr ⟨l, hm, rfl⟩
              rw [← zz] at me
              cases (List.mem_singleton.mp me)
              exact hfresh l nq rfl
            have e4 : [] ++ [[] ++ [r]] = grp (ws.take (i + 1)) := by
              rw [st]
              rfl
            have e5 : ([] ++ [[] ++ [r]] : List (List Str)).length ≤ i + 1 ∧ ∀ g ∈ ([] ++ [[] ++ [r]] : List (List Str)), g.length ≤ i + 1 := by
              rw [e4, st]
              exact al
            -- the row goes to the last list
            obtain ⟨as2, a, e1, e2, e3⟩ := Grps.last hG
            have nla : l ≠ a := fun e => hlas (as2 ++ [a]) (by rw [e1, List.map_append]; rfl) (by rw [e]; exact List.mem_append_right _ (List.mem_singleton.mpr rfl))
            have npa : p ≠ a := fun e => by
              have z := e2
              rw [← e, e1] at z
              cases hGG : ([] : List Str) with
              | nil => rw [hGG] at z; have zz := HO.lst.inj (Option.some.inj z); cases as2 with
                | nil => cases zz
                | cons _ _ => cases zz
              | cons x y => rw [hGG] at z; have zz := HO.lst.inj (Option.some.inj z); cases as2 with
                | nil => cases zz
                | cons _ _ => cases zz
            have na0 : H a = none := by
              obtain ⟨bs, b1, _, _, _, _, b6, _⟩ := hG
              refine b6 a ?_
              have zz := HO.lst.inj (Option.some.inj (e1.symm.trans b1))
              have me : (V.ref a) ∈ bs.map V.ref := by rw [← zz]; exact List.mem_append_right _ (List.mem_singleton.mpr rfl)
              obtain ⟨b, hb, eb⟩ := List.mem_map.mp me
              cases eb
              exact hb
            refine ⟨_, rfl, _, rfl, p, _, _, _, rfl, rfl, SqL.of e1, atI_last _ _, .inl ⟨rfl, _, SqL.of e2⟩, _, rfl, a, _, _, rfl, rfl, e2, (by show 0 < sizeLine; decide), ?_⟩
            refine ⟨⟨_, rfl⟩, same_old smG na0, by rw [upd_ne nla]; exact hlG, _, e4, e3 r, fun as has => ?_, ?_⟩
            · rw [upd_ne npa] at has
              exact hlas as has
            · exact e5
        | cons g0 gr =>
          cases bs with
          | nil => cases h2
          | cons b0 br =>
            refine iteF ?_
            refine ⟨_, rfl, ⟨_, rfl⟩, _, _, rfl, rfl, _, rfl, ?_⟩
            cases hs : Txt.startswith r ofrom with
            | true =>
              refine iteT ?_
              have hlen : (b0 :: br).length < sizeLine := by rw [h2]; omega
              refine ⟨_, rfl, .inl ⟨rfl, _, SqL.of h1⟩, Nat.zero_le _, fun q nq => ⟨p, _, _, rfl, rfl, (by rw [upd_ne (ne_of_none h1 nq)]; exact h1), (by rw [List.length_map]; exact hlen), ?_⟩⟩
              have hG := Grps.snoc sm nq h1 h2 h3 h4 h5 h6 h7
              have nq0 : H q = none := by
                cases e : H q with
                | none => rfl
                | some o => rw [sm _ _ e] at nq; cases nq
              have smG := same_old (o := .lst ((b0 :: br).map V.ref ++ [.ref q])) (same_old (o := .lst []) sm nq0) h5
              have hlG : (upd (upd H' q (.lst [])) p (.lst ((b0 :: br).map V.ref ++ [.ref q]))) l = some (.lst (ws.map V.str)) := by
                rw [upd_ne nlp, upd_ne (hfresh q nq)]
                exact hl
              have hlas : ∀ as : List Addr, (upd (upd H' q (.lst [])) p (.lst ((b0 :: br).map V.ref ++ [.ref q]))) p = some (.lst (as.map V.ref)) → l ∉ as := fun as has hm => by
                rw [upd_same] at has
                have zz := HO.lst.inj (Option.some.inj has)
                have me : (V.ref l) ∈ as.map V.ref := List.mem_map.mpr ⟨l, hm, rfl⟩
                rw [← zz] at me
                rcases List.mem_append.mp me with me | me
                · obtain ⟨b, hb, eb⟩ := List.mem_map.mp me
                  cases eb
                  exact hlas _ h1 hb
                · cases (List.mem_singleton.mp me)
                  exact hfresh l nq rfl
              have e4 : (g0 :: gr) ++ [[] ++ [r]] = grp (ws.take (i + 1)) := by
                rw [st]
                unfold addRow
                rw [if_pos (.inr hs)]
                rfl
              have e5 : ((g0 :: gr) ++ [[] ++ [r]] : List (List Str)).length ≤ i + 1 ∧ ∀ g ∈ ((g0 :: gr) ++ [[] ++ [r]] : List (List Str)), g.length ≤ i + 1 := by
                rw [e4, st]
                exact al
              -- the row goes to the last list
              obtain ⟨as2, a, e1, e2, e3⟩ := Grps.last hG
              have nla : l ≠ a := fun e => hlas (as2 ++ [a]) (by rw [e1, List.map_append]; rfl) (by rw [e]; exact List.mem_append_right _ (List.mem_singleton.mpr rfl))
              have npa : p ≠ a := fun e => by
                have z := e2
                rw [← e, e1] at z
                cases hGG : ([] : List Str) with
                | nil => rw [hGG] at z; have zz := HO.lst.inj (Option.some.inj z); cases as2 with
                  | nil => cases zz
                  | cons _ _ => cases zz
                | cons x y => rw [hGG] at z; have zz := HO.lst.inj (Option.some.inj z); cases as2 with
                  | nil => cases zz
                  | cons _ _ => cases zz
              have na0 : H a = none := by
                obtain ⟨bs, b1, _, _, _, _, b6, _⟩ := hG
                refine b6 a ?_
                have zz := HO.lst.inj (Option.some.inj (e1.symm.trans b1))
                have me : (V.ref a) ∈ bs.map V.ref := by rw [← zz]; exact List.mem_append_right _ (List.mem_singleton.mpr rfl)
                obtain ⟨b, hb, eb⟩ := List.mem_map.mp me
                cases eb
                exact hb
              refine ⟨_, rfl, _, rfl, p, _, _, _, rfl, rfl, SqL.of e1, atI_last _ _, .inl ⟨rfl, _, SqL.of e2⟩, _, rfl, a, _, _, rfl, rfl, e2, (by show 0 < sizeLine; decide), ?_⟩
              refine ⟨⟨_, rfl⟩, same_old smG na0, by rw [upd_ne nla]; exact hlG, _, e4, e3 r, fun as has => ?_, ?_⟩
              · rw [upd_ne npa] at has
                exact hlas as has
              · exact e5
            | false =>
              refine iteF ?_
              have hne : g0 :: gr ≠ [] := List.cons_ne_nil _ _
              have eL : (g0 :: gr).dropLast ++ [(g0 :: gr).getLast hne] = g0 :: gr := List.dropLast_concat_getLast hne
              have hG : Grps H H' p ((g0 :: gr).dropLast ++ [(g0 :: gr).getLast hne]) := by rw [eL]; exact hg
              have hgl : ((g0 :: gr).getLast hne).length ≤ i := n2 _ (List.getLast_mem hne)
              have smG := sm
              have hlG := hl
              have e4 : (g0 :: gr).dropLast ++ [(g0 :: gr).getLast hne ++ [r]] = grp (ws.take (i + 1)) := by
                rw [st]
                unfold addRow
                rw [if_neg (fun e => e.elim hne (fun z => by rw [hs] at z; cases z)), List.getLast?_eq_some_getLast hne]
                rfl
              have e5 : ((g0 :: gr).dropLast ++ [(g0 :: gr).getLast hne ++ [r]] : List (List Str)).length ≤ i + 1 ∧ ∀ g ∈ ((g0 :: gr).dropLast ++ [(g0 :: gr).getLast hne ++ [r]] : List (List Str)), g.length ≤ i + 1 := by
                rw [e4, st]
                exact al
              -- the row goes to the last list
              obtain ⟨as2, a, e1, e2, e3⟩ := Grps.last hG
              have nla : l ≠ a := fun e => hlas (as2 ++ [a]) (by rw [e1, List.map_append]; rfl) (by rw [e]; exact List.mem_append_right _ (List.mem_singleton.mpr rfl))
              have npa : p ≠ a := fun e => by
                have z := e2
                rw [← e, e1] at z
                cases hGG : (g0 :: gr).getLast hne with
                | nil => rw [hGG] at z; have zz := HO.lst.inj (Option.some.inj z); cases as2 with
                  | nil => cases zz
                  | cons _ _ => cases zz
                | cons x y => rw [hGG] at z; have zz := HO.lst.inj (Option.some.inj z); cases as2 with
                  | nil => cases zz
                  | cons _ _ => cases zz
              have na0 : H a = none := by
                obtain ⟨bs, b1, _, _, _, _, b6, _⟩ := hG
                refine b6 a ?_
                have zz := HO.lst.inj (Option.some.inj (e1.symm.trans b1))
                have me : (V.ref a) ∈ bs.map V.ref := by rw [← zz]; exact List.mem_append_right _ (List.mem_singleton.mpr rfl)
                obtain ⟨b, hb, eb⟩ := List.mem_map.mp me
                cases eb
                exact hb
              refine ⟨_, rfl, _, rfl, p, _, _, _, rfl, rfl, SqL.of e1, atI_last _ _, .inl ⟨rfl, _, SqL.of e2⟩, _, rfl, a, _, _, rfl, rfl, e2, (by rw [List.length_map]; omega), ?_⟩
              refine ⟨⟨_, rfl⟩, same_old smG na0, by rw [upd_ne nla]; exact hlG, _, e4, e3 r, fun as has => ?_, ?_⟩
              · rw [upd_ne npa] at has
                exact hlas as has
              · exact e5
      · obtain ⟨⟨v, rfl⟩, sm, _, gs, e, hg, _⟩ := h
        rw [List.length_map, List.take_length] at e
        rw [e] at hg
        exact ⟨_, rfl, q p H' sm hg⟩
end
end Sq.N3
namespace Sq.N3
open PySem L2 TL
abbrev sNestOf : Stmt := top 29
theorem pe_never {X : Cx} {e : Expr} : PE X e (fun _ _ _ => False) := ⟨fun _ _ _ _ _ _ h => h.elim⟩
/-- a def of the module that keeps a promise -/
def Kn (P : Program) (w : World) (K : PySem.W.Frag) (mg : Str → Option Value) (base : Heap) (x : Str) (k : Nat) (ps : List Str) (sp : Sp) : Prop :=
  ∃ f d, mg x = some (.ref f) ∧ PySem.W.keepIn K (.ref f) = true ∧ Binds K d ps [] ∧ FnOk P w K mg base CX0 k f d ps sp
theorem cut_len (x y : Str) : (Txt.removeprefix x y).length ≤ x.length := by
  unfold Txt.removeprefix Txt.affix
  split
  · split
    · exact Nat.le_refl _
    · rw [len_tl, tl_strSub, List.length_take, List.length_drop, len_tl x]
      omega
  · exact Nat.le_refl _
theorem any_behind {K : PySem.W.Frag} {H : Hp} (y x : Str) (h : x.length + 2 ≤ sizeLine) : Any K H (behindV y x) := by
  unfold behindV
  split
  · exact .inl ⟨_, rfl, Nat.le_trans (Nat.add_le_add_right (cut_len x y) 2) h⟩
  · exact .inr ⟨fun z e => V.noConfusion e, .type "NoneType", .base .non, kit_ty (by decide +kernel)⟩
def nestB : List Str → Bool
  | o :: i :: ds => okLoop obs (behindV ofrom o) && (okLoop (obs ++ ibs) (behindV jfrom i) && decide (fw 0 6 (ds.map deedB) = none))
  | _ => false
theorem nestB_cons (o i : Str) (ds : List Str) : nestB (o :: i :: ds) = (okLoop obs (behindV ofrom o) && (okLoop (obs ++ ibs) (behindV jfrom i) && decide (fw 0 6 (ds.map deedB) = none))) := rfl
theorem optV_non (o : Option Nat) : decide (optV o = .non) = decide (o = none) := by
  cases o with
  | none => rfl
  | some i => rfl
section
variable {P : Program} {w : World} {K : PySem.W.Frag} {mg : Str → Option Value} {base : Heap} {fF fD : Addr} {dF dD : FuncData}
/-- what the readers of texts call -/
structure Rd1 (P : Program) (w : World) (K : PySem.W.Frag) (mg : Str → Option Value) (base : Heap) : Prop where
  behind : Kn P w K mg base "behind" 1 ["start", "row"] spBehind
  rows : Kn P w K mg base "rows_by_nest" 1 ["text"] (spRowsBy K)
  mS : ∃ u, mg "OUTER_START" = some (.str ofrom u)
  mJ : ∃ u, mg "INNER_START" = some (.str jfrom u)
  mM : ∃ u, mg "MOST_NESTS" = some (.int 4 u)

def progB (z : Str) : Bool := decide ((partsOf z).length ≤ 4) && (partsOf z).all nestB
/-- texts of a size that may be read -/
structure TextOk (z : Str) : Prop where
  lz : z.length + 2 ≤ sizeLine
  ln : (Txt.split z "\n").length ≤ 1000
  lr : ∀ r ∈ Txt.split z "\n", r.length ≤ 2000
theorem addRow_in {gs : List (List Str)} {r : Str} {A : Str → Prop} (h : ∀ g ∈ gs, ∀ x ∈ g, A x) (hr : A r) : ∀ g ∈ addRow gs r, ∀ x ∈ g, A x := by
  unfold addRow
  split
  · intro g hg x hx
    rcases List.mem_append.mp hg with e | e
    · exact h g e x hx
    · rw [List.mem_singleton.mp e] at hx
      rw [List.mem_singleton.mp hx]
      exact hr
  · rename_i hn
    have hne : gs ≠ [] := fun e => hn (.inl e)
    intro g hg x hx
    rcases List.mem_append.mp hg with e | e
    · exact h g (List.dropLast_subset _ e) x hx
    · rw [List.mem_singleton.mp e, List.getLast?_eq_some_getLast hne] at hx
      rcases List.mem_append.mp hx with e2 | e2
      · exact h _ (List.getLast_mem hne) x e2
      · rw [List.mem_singleton.mp e2]
        exact hr
theorem grp_in {A : Str → Prop} : ∀ (rows : List Str) (gs : List (List Str)), (∀ g ∈ gs, ∀ x ∈ g, A x) → (∀ r ∈ rows, A r) → ∀ g ∈ rows.foldl addRow gs, ∀ x ∈ g, A x
  | [], _, h, _ => h
  | r :: rows, gs, h, hr => grp_in rows (addRow gs r) (addRow_in h (hr r List.mem_cons_self)) fun x hx => hr x (List.mem_cons_of_mem _ hx)
theorem grp_lens : ∀ (rows : List Str) (gs : List (List Str)) (i : Nat), gs.length ≤ i → (∀ g ∈ gs, g.length ≤ i) → (rows.foldl addRow gs).length ≤ i + rows.length ∧ ∀ g ∈ rows.foldl addRow gs, g.length ≤ i + rows.length
  | [], _, _, h1, h2 => ⟨h1, h2⟩
  | r :: rows, gs, i, h1, h2 => by
    have z := addRow_len (r := r) h1 h2
    have y := grp_lens rows (addRow gs r) (i + 1) z.1 z.2
    rw [List.length_cons, show i + (rows.length + 1) = i + 1 + rows.length by omega]
    exact y
theorem parts_rows {z : Str} (h : TextOk z) : (partsOf z).length ≤ 1000 ∧ ∀ g ∈ partsOf z, g.length ≤ 1000 ∧ ∀ r ∈ g, r.length ≤ 2000 := by
  unfold partsOf
  split
  · exact ⟨by decide, fun g hg => absurd hg List.not_mem_nil⟩
  · have y := grp_lens (Txt.split z "\n") [] 0 (Nat.le_refl _) (fun g hg => absurd hg List.not_mem_nil)
    have hn := h.ln
    refine ⟨by unfold grp; omega, fun g hg => ⟨by have := y.2 g hg; omega, ?_⟩⟩
    exact grp_in (A := fun r => r.length ≤ 2000) _ [] (fun g hg => absurd hg List.not_mem_nil) h.lr g hg
theorem Grps.ext {H0 H H' : Hp} {p : Addr} {gs : List (List Str)} (e : Same H H') (h : Grps H0 H p gs) : Grps H0 H' p gs := by
  obtain ⟨as, h1, h2, h3, h4, h5, h6, h7⟩ := h
  exact ⟨as, e _ _ h1, h2, h3, h4, h5, h6, fun i a g hi hg => e _ _ (h7 i a g hi hg)⟩
end
end Sq.N3
namespace Sq.N3
open PySem L2 TL
abbrev sPInit : Stmt := inClass (top 26) 0
abbrev sPRead : Stmt := inClass (top 26) 1
abbrev sPNests : Stmt := inClass (top 26) 2
abbrev NestD := Str × Str × List Str
def NestIs (C : Addr) (H : Hp) (a : Addr) (n : NestD) : Prop := NestAt C H a n.1 n.2.1 n.2.2
/-- nests that may be made -/
structure NestOk (n : NestD) : Prop where
  l1 : n.1.length + 2 ≤ sizeLine
  l2 : n.2.1.length + 2 ≤ sizeLine
  b1 : loopB obs n.1 = true
  b2 : loopB (obs ++ ibs) n.2.1 = true
  ds : deedsOk n.2.2
theorem made_deeds {K : PySem.W.Frag} {C x dx : Addr} {H : Hp} {n : NestD} {R : Hp → Prop} {E : XK} (nx : H x = none) (ndx : H dx = none) (h : NestOk n) (q : ∀ H', Same H H' → NestIs C H' x n → R H') :
    spMade K C (.ref x :: .str n.1 :: .str n.2.1 :: n.2.2.map V.str) (upd (upd H dx (.own x)) x (.ins C dx [])) (fun v H2 => v = .non ∧ R H2) E := by
  have hl := deeds_len h.ds
  refine ⟨[.ref x, .str n.1, .str n.2.1], n.2.2.map V.str, rfl, rfl, (by rw [List.length_map]; exact Nat.le_trans hl (by decide)), fun p np => ?_⟩
  have npx : p ≠ x := fun e => by rw [e, upd_same] at np; cases np
  refine ⟨x, dx, p, n.1, n.2.1, n.2.2, rfl, by rw [upd_ne npx.symm]; exact upd_same, upd_same, h.l1, h.l2, h.b1, h.b2, h.ds, fun R H' rd hx off => ⟨rfl, q H' (fun b o e => ?_) ⟨dx, p, ⟨R, hx⟩, off p _ npx upd_same⟩⟩⟩
  have nbx : b ≠ x := ne_of_none e nx
  have nbd : b ≠ dx := ne_of_none e ndx
  refine off b o nbx ?_
  have e1 : (upd (upd H dx (.own x)) x (.ins C dx [])) b = some o := by rw [upd_ne nbx, upd_ne nbd]; exact e
  rw [upd_ne (ne_of_none e1 np)]
  exact e1
def nestOf : List Str → NestD
  | o :: i :: ds => (Txt.removeprefix o ofrom, Txt.removeprefix i jfrom, ds)
  | _ => ("", "", [])
theorem behind_str {bs : List Str} {y x : Str} (h : okLoop bs (behindV y x) = true) : behindV y x = .str (Txt.removeprefix x y) ∧ loopB bs (Txt.removeprefix x y) = true := by
  unfold behindV at h ⊢
  split
  · rename_i e
    rw [if_pos e] at h
    exact ⟨rfl, h⟩
  · rename_i e
    rw [if_neg e] at h
    cases h
theorem nest_rows {g : List Str} (h : nestB g = true) (hz : ∀ r ∈ g, r.length ≤ 2000) : ∃ o i ds, g = o :: i :: ds ∧ behindV ofrom o = .str (nestOf g).1 ∧ behindV jfrom i = .str (nestOf g).2.1 ∧ (nestOf g).2.2 = ds ∧ NestOk (nestOf g) := by
  match g, h, hz with
  | o :: i :: ds, h, hz =>
    rw [nestB_cons] at h
    obtain ⟨h1, h⟩ := Bool.and_eq_true_iff.mp h
    obtain ⟨h2, h3⟩ := Bool.and_eq_true_iff.mp h
    obtain ⟨a1, a2⟩ := behind_str h1
    obtain ⟨b1, b2⟩ := behind_str h2
    have ho := hz o List.mem_cons_self
    have hi := hz i (List.mem_cons_of_mem _ List.mem_cons_self)
    have big : 3000 ≤ sizeLine := by decide
    have c1 := cut_len o ofrom
    have c2 := cut_len i jfrom
    exact ⟨o, i, ds, rfl, a1, b1, rfl, ⟨by show (Txt.removeprefix o ofrom).length + 2 ≤ _; omega, by show (Txt.removeprefix i jfrom).length + 2 ≤ _; omega, a2, b2, fun d hd => hz d (List.mem_cons_of_mem _ (List.mem_cons_of_mem _ hd)), of_decide_eq_true h3⟩⟩
/-- a program stands at a -/
def ProgAt (CP CN : Addr) (H : Hp) (a : Addr) (ns : List NestD) : Prop := ∃ dx tp, ∃ xs : List Addr, H a = some (.ins CP dx (putF "_nests" (.ref tp) [])) ∧ H tp = some (.tup (xs.map V.ref)) ∧ xs.length = ns.length ∧ ∀ (i : Nat) (x : Addr) (n : NestD), xs[i]? = some x → ns[i]? = some n → NestIs CN H x n
theorem ProgAt.ext {CP CN : Addr} {H H' : Hp} {a : Addr} {ns : List NestD} (e : Same H H') (h : ProgAt CP CN H a ns) : ProgAt CP CN H' a ns := by
  obtain ⟨dx, tp, xs, h1, h2, h3, h4⟩ := h
  exact ⟨dx, tp, xs, e _ _ h1, e _ _ h2, h3, fun i x n hx hn => (h4 i x n hx hn).ext e⟩
def spPInit (CP CN : Addr) : Sp := fun vs H Q _ => ∃ (x dx tp : Addr) (xs : List Addr), vs = [.ref x, .ref tp] ∧ H x = some (.ins CP dx []) ∧ H tp = some (.tup (xs.map V.ref)) ∧ xs.length ≤ 4 ∧ (∀ y ∈ xs, ∃ dy fs, H y = some (.ins CN dy fs)) ∧
  ∀ H' : Hp, H' x = some (.ins CP dx (putF "_nests" (.ref tp) [])) → Off x H H' → Q .non H'
def spPMade (CP CN : Addr) : Sp := fun vs H Q E => ∃ ws rest, vs = ws ++ rest ∧ ws.length = (["self"] : List Str).length ∧ rest.length ≤ sizeLine ∧ ∀ p, H p = none → spPInit CP CN (ws ++ [V.ref p]) (upd H p (.tup rest)) Q E
def nestsOf (z : Str) : List NestD := (partsOf z).map nestOf
def spPRead (CP CN : Addr) : Sp := fun vs H Q _ => ∃ z : Str, vs = [.ref CP, .str z] ∧ TextOk z ∧ progB z = true ∧ ∀ (x : Addr) (H' : Hp), Same H H' → ProgAt CP CN H' x (nestsOf z) → Q (.ref x) H'
def spNestOf (K : PySem.W.Frag) (C : Addr) : Sp := fun vs H Q _ => ∃ (l : Addr) (g : List Str), vs = [.ref l] ∧ SqL K H l (g.map V.str) ∧ nestB g = true ∧ (∀ r ∈ g, r.length ≤ 2000) ∧ ∀ (x : Addr) (H' : Hp), Same H H' → NestIs C H' x (nestOf g) → Q (.ref x) H'
/-- all that is known of the class Program -/
structure Pc (K : PySem.W.Frag) (C : Addr) : Prop where
  cl : Cls K C
  nN : NoAttr K C "_nests"
section
variable {P : Program} {w : World} {K : PySem.W.Frag} {mg : Str → Option Value} {base : Heap} {C CP : Addr}
theorem scNestOf : FnScope ["rows", "outer", "inner", "deeds"] ["rows"] (defScope sNestOf) := ⟨rfl, rfl, rfl, by decide +kernel, rfl, by decide +kernel, by decide +kernel⟩
theorem ok_nestOf {f fi : Addr} {fd : FuncData} (F : Fun K "nest_of_rows" "nest_of_rows" sNestOf f fd) (T : Bt mg) (R : Rd1 P w K mg base) (mN : mg "Nest" = some (.ref C)) (mk : Mk K C fi) (GR : FnR P w K mg base CX0 4 fi (spMade K C)) : FnOk P w K mg base CX0 6 f fd ["rows"] (spNestOf K C) := by
  obtain ⟨fB, dB, mB, kB, bB, GB⟩ := R.behind
  obtain ⟨u1, mS⟩ := R.mS
  obtain ⟨u2, mJ⟩ := R.mJ
  refine F.ok scNestOf (fun vs H Q E h => ?_) (fun cdv A outer s H vs Q E hr h => ?_)
  · obtain ⟨l, g, rfl, _⟩ := h
    rfl
  · obtain ⟨l, g, rfl, hl, hg, hz, q⟩ := h
    have hr1 := hr.mono (show 1 ≤ 5 by decide)
    have big : 3000 ≤ sizeLine := by decide
    refine ⟨_, pss_cons (ps_asg (pe_ifExp (pt_cmpR op_gt (pe_callB call_len_seq (by rfl) T.len PySem.boot_len (pa_cons (pv 0) pa_nil)) pe_int (nomark _)) (pv 0) pe_never) (pg_starL (i := 2) rfl (pgs_cons (pg_name (i := 1) scNestOf.nd rfl (.inl rfl)) (pgs_cons (pg_name (i := 2) scNestOf.nd rfl (.inl rfl)) (pgs_star (pg_name (i := 3) scNestOf.nd rfl (.inl rfl)))))))
      (pss_one (ps_ret (pe_makeS2 mk GR hr (by rfl) mN pass0 (pa_cons (pe_call GB hr1 (by rfl) mB kB bB .nil pass0 (pa_cons (pe_glob (v := .str ofrom) (by rfl) mS ⟨_, rfl⟩) (pa_cons (pv 1) pa_nil)))
        (pa_cons (pe_call GB hr1 (by rfl) mB kB bB .nil pass0 (pa_cons (pe_glob (v := .str jfrom) (by rfl) mJ ⟨_, rfl⟩) (pa_cons (pv 2) pa_nil))) (StX.pa_star (pv 3) pa_nil)))))), ?_⟩
    obtain ⟨o, i, ds, rfl, e1, e2, e3, ok⟩ := nest_rows hg hz
    have ho := hz o List.mem_cons_self
    have hi := hz i (List.mem_cons_of_mem _ List.mem_cons_self)
    refine ⟨_, rfl, l, _, rfl, .inl hl, _, _, rfl, rfl, _, rfl, ?_⟩
    rw [decide_eq_true (by rw [List.length_map]; show (1 : Int) < ((ds.length + 1 + 1 : Nat) : Int); omega)]
    refine iteT ?_
    refine ⟨_, rfl, l, _, rfl, hl, (by rw [List.length_map]; show 2 ≤ (ds.length + 1) + 1; omega), fun D nD => ?_⟩
    refine ⟨_, _, rfl, _, _, rfl, _, _, rfl, rfl, ?_⟩
    refine ⟨_, rfl, ofrom, o, rfl, by omega, _, rfl, jfrom, i, rfl, by omega, _, rfl, D, ds.map V.str, rfl, .inr (SqL.of upd_same), ?_⟩
    rw [e1, e2]
    have s1 := same_new (o := .lst (((o :: i :: ds).map V.str).drop 2)) nD
    refine fun x dx nx ndx _ => ?_
    have z := made_deeds (K := K) (C := C) (n := nestOf (o :: i :: ds)) (R := fun H' => Q (.ref x) H') (E := E0) nx ndx ok fun H' s2 n => q x H' (s1.trans s2) n
    rw [List.append_nil]
    exact z
theorem scPInit : FnScope ["self", "nests", "index", "nest"] ["self", "nests"] (defScope sPInit) := ⟨rfl, rfl, rfl, by decide +kernel, rfl, by decide +kernel, by decide +kernel⟩
theorem ok_pinitR {f : Addr} {fd : FuncData} (F : Fun K "__init__" "Program.__init__" sPInit f fd) (N : Pc K CP) (Cn : Cls K C) (I : Isn K C) (mN : mg "Nest" = some (.ref C)) (Ck : Ck K mg) (R : Rd1 P w K mg base) (KF : Kn P w K mg base "first_wrong" 1 ["rights", "most"] (spFirst K)) :
    FnR P w K mg base CX0 2 f (spPMade CP C) := by
  obtain ⟨fF, dF, mF, kF, bF, GF⟩ := KF
  obtain ⟨u1, mM⟩ := R.mM
  obtain ⟨oc, od, kV, doc, pm, an, cdv, ct, osl, rfl, lk, hcd⟩ := F.ex
  refine StX.fn_star (ps := ["self"]) (pv := "nests") (sp := spPInit CP C) lk hcd scPInit StX.cxUp_none (fun us rest hl => ?_) fun A outer s H vs Q E hr h => ?_
  · match us, rest, hl with
    | [a], [], _ => rfl
    | [a], r :: rs, _ => rfl
  · obtain ⟨x, dx, tp, xs, rfl, hx, ht, hn, hins, q⟩ := h
    refine ⟨_, pss_cons (ps_set (i := 2) scPInit.nd rfl (.inl rfl) (pe_call GF hr (by rfl) mF kF bF .nil pass0 (pa_cons (pe_lc (own := [("nest", 3)]) (g := gName 3) (by rfl) scPInit.nd (pi_tup (pv 1))
      (blkOk_by (own := [("nest", 3)]) (N := ["self", "nests", "index", "nest"]) (sc := defScope sPInit) (by decide +kernel)) (fun _ _ _ _ _ => pg_name (i := 3) scPInit.nd rfl (Or.inl rfl)) (fun _ _ _ _ _ => pts_nil)
      (fun _ _ _ _ _ => (show PE _ _ (tCB (rIsi K) (tCons (tVar 3) (tCons (tC (V.ref C)) tNil))) from pe_callB call_isi (by rfl) Ck.isinstance (by decide +kernel) (pa_cons (pv 3) (pa_cons (pe_glob (v := .ref C) (by rfl) mN rfl) pa_nil))))) (pa_cons (pe_glob (v := .int 4) (by rfl) mM ⟨_, rfl⟩) pa_nil))))
      (pss_cons (ps_if (pt_cmpR op_notN (pv 2) pe_non (nomark _)) (pss_one ps_never) pss_nil)
      (pss_one (ps_fld (pv 0) (pv 1) rfl))), ?_⟩
    refine ⟨_, rfl, tp, rfl, ⟨_, SqT.of ht⟩, fun D hD => ?_⟩
    refine lc_tup (K := K) (a := tp) (xs := xs.map V.ref) (fun i H' => Same H H' ∧ H' D = some (.lst (((xs.take i).map (fun _ => true)).map V.bl))) ⟨same_new hD, upd_same⟩ (fun i H' _ h => (SqT.of ht).ext h.1) (fun i y H' hi h => ?_) (fun H' h => ?_)
    · obtain ⟨sm, hL⟩ := h
      refine ⟨rfl, ?_⟩
      obtain ⟨a, ha, rfl⟩ : ∃ a, xs[i]? = some a ∧ y = .ref a := by
        rw [List.getElem?_map] at hi
        cases e : xs[i]? with
        | none => rw [e] at hi; cases hi
        | some r => rw [e] at hi; exact ⟨r, rfl, (Option.some.inj hi).symm⟩
      obtain ⟨dy, fs, hy⟩ := hins a (List.mem_of_getElem? ha)
      refine ⟨_, rfl, _, _, .ref C, .ref C, true, rfl, .own C, .base (.ins (sm _ _ hy) Cn I.c1 I.c2 I.c3 I.c4), kit_self K C, _, hL, ?_, ?_, ?_⟩
      · rw [List.length_map, List.length_map, List.length_take]
        exact Nat.lt_of_le_of_lt (Nat.min_le_right _ _) (Nat.lt_of_le_of_lt hn (by decide))
      · intro c o hc
        rw [upd_ne (fun e => by rw [e, hD] at hc; cases hc)]
        exact sm c o hc
      · rw [upd_same, List.take_add_one, ha, List.map_append, List.map_append]
        rfl
    · obtain ⟨sm, hL⟩ := h
      rw [List.length_map, List.take_length] at hL
      refine ⟨D, 4, _, rfl, SqL.of hL, fun H2 s2 => ?_⟩
      have ef : fw 0 4 (xs.map fun _ => true) = none := fw_none _ _ _ (fun b hb => by obtain ⟨_, _, e⟩ := List.mem_map.mp hb; exact e.symm) (by rw [List.length_map]; omega)
      rw [ef]
      refine ⟨_, rfl, rfl, _, rfl, ?_⟩
      refine iteF ?_
      have hx2 := s2 _ _ (sm _ _ hx)
      refine ⟨_, rfl, _, rfl, x, CP, dx, _, rfl, hx2, N.cl, N.nN, (by show 0 < 1000; decide), ?_⟩
      refine q _ upd_same fun b u hb e => ?_
      rw [upd_ne hb]
      exact s2 _ _ (sm _ _ e)
theorem scPNests : FnScope ["self"] ["self"] (defScope sPNests) := ⟨rfl, rfl, rfl, by decide +kernel, rfl, by decide +kernel, by decide +kernel⟩
theorem ok_pnests {f : Addr} {fd : FuncData} (F : Fun K "nests" "Program.nests" sPNests f fd) (N : Pc K CP) : FnOk P w K mg base CX0 1 f fd ["self"] (getSp CP "_nests") := by
  obtain ⟨oc, od, kV, doc, pm, an, cdv, ct, osl, rfl, lk, hcd⟩ := F.ex
  exact fn_getter lk hcd scPNests rfl rfl N.cl N.nN
theorem made_prog {x dx : Addr} {H : Hp} {xs : List Addr} {R : Hp → Prop} {E : XK} (nx : H x = none) (ndx : H dx = none) (hn : xs.length ≤ 4) (hy : ∀ y ∈ xs, ∃ dy fs, H y = some (.ins C dy fs))
    (q : ∀ H' tp, Same H H' → H' x = some (.ins CP dx (putF "_nests" (.ref tp) [])) → H' tp = some (.tup (xs.map V.ref)) → R H') :
    spPMade CP C (.ref x :: xs.map V.ref) (upd (upd H dx (.own x)) x (.ins CP dx [])) (fun v H2 => v = .non ∧ R H2) E := by
  refine ⟨[.ref x], xs.map V.ref, rfl, rfl, (by rw [List.length_map]; exact Nat.le_trans hn (by decide)), fun p np => ?_⟩
  have npx : p ≠ x := fun e => by rw [e, upd_same] at np; cases np
  have up : ∀ b o, H b = some o → (upd (upd (upd H dx (.own x)) x (.ins CP dx [])) p (.tup (xs.map V.ref))) b = some o := fun b o e => by
    have nbx : b ≠ x := ne_of_none e nx
    have nbd : b ≠ dx := ne_of_none e ndx
    have e1 : (upd (upd H dx (.own x)) x (.ins CP dx [])) b = some o := by rw [upd_ne nbx, upd_ne nbd]; exact e
    rw [upd_ne (ne_of_none e1 np)]
    exact e1
  refine ⟨x, dx, p, xs, rfl, by rw [upd_ne npx.symm]; exact upd_same, upd_same, hn, fun y my => ?_, fun H' hx off => ⟨rfl, q H' p (fun b o e => off b o (ne_of_none e nx) (up b o e)) hx (off p _ npx upd_same)⟩⟩
  obtain ⟨dy, fs, e⟩ := hy y my
  exact ⟨dy, fs, up y _ e⟩
theorem scPRead : FnScope ["cls", "text", "nests", "rows"] ["cls", "text"] (defScope sPRead) := ⟨rfl, rfl, rfl, by decide +kernel, rfl, by decide +kernel, by decide +kernel⟩
theorem ok_pread {f fi : Addr} {fd : FuncData} (F : Fun K "read" "Program.read" sPRead f fd) (R : Rd1 P w K mg base) (Cc : Ck K mg) (KN : Kn P w K mg base "nest_of_rows" 6 ["rows"] (spNestOf K C))
    (mk : Mk K CP fi) (GI : FnR P w K mg base CX0 2 fi (spPMade CP C)) : FnOk P w K mg base CX0 7 f fd ["cls", "text"] (spPRead CP C) := by
  obtain ⟨fR, dR, mR, kR, bR, GR⟩ := R.rows
  obtain ⟨fN, dN, mN, kN, bN, GN⟩ := KN
  refine F.ok scPRead (fun vs H Q E h => ?_) (fun cdv A outer s H vs Q E hr h => ?_)
  · obtain ⟨z, rfl, _⟩ := h
    rfl
  · obtain ⟨z, rfl, hz, hp, q⟩ := h
    have hr1 := hr.mono (show 1 ≤ 6 by decide)
    have hr3 := hr.mono (show 3 ≤ 6 by decide)
    have hr5 := hr.mono (show 5 ≤ 6 by decide)
    refine ⟨_, pss_cons (ps_if (pt_not (pt_val (pe_callB call_isi (by rfl) Cc.isinstance (by decide +kernel) (pa_cons (pv 1) (pa_cons (pe_bltn (v := .ty "str") (by rfl) Cc.str (by decide +kernel) rfl) pa_nil))))) (pss_one ps_never) pss_nil)
      (pss_one (ps_try_thru0 (pss_cons (ps_setLc (i := 2) (own := [("rows", 3)]) (g := gName 3) (by rfl) scPRead.nd rfl rfl (sw_true rfl rfl rfl (by decide +kernel)) (pi_list (pe_call GR hr1 (by rfl) mR kR bR .nil pass0 (pa_cons (pv 1) pa_nil)))
          (blkOk_by (own := [("rows", 3)]) (N := ["cls", "text", "nests", "rows"]) (sc := defScope sPRead) (by decide +kernel)) (fun _ _ _ _ _ => pg_name (i := 3) scPRead.nd rfl (Or.inl rfl)) (fun _ _ _ _ _ => pts_nil)
          (fun _ _ _ _ _ => pe_call GN hr (by rfl) mN kN bN .nil pass0 (pa_cons (pv 3) pa_nil)))
      (pss_one (ps_ret (pe_makeSL (i := 0) mk GI hr3 rfl (.inl rfl) pass0 (pv 2))))))), ?_⟩
    refine ⟨_, rfl, _, _, .type "str", _, true, rfl, .ty "str", .base (.str z), kit_ty (by decide +kernel), true, rfl, ?_⟩
    refine iteF ?_
    have s1 : Same H H := Same.refl H
    obtain ⟨hp4, hpB⟩ := Bool.and_eq_true_iff.mp hp
    have hp4 : (partsOf z).length ≤ 4 := of_decide_eq_true hp4
    have hpB : ∀ g ∈ partsOf z, nestB g = true := fun g hg => List.all_eq_true.mp hpB g hg
    refine ⟨_, rfl, z, rfl, hz.lz, Nat.lt_of_le_of_lt hz.ln (by decide), fun r hr => Nat.le_trans (hz.lr r hr) (by decide), fun p H2 s2 hg => ?_⟩
    obtain ⟨as, h1, h2, h3, h4, h5, h6, h7⟩ := id hg
    obtain ⟨l1, l2⟩ := parts_rows hz
    refine ⟨p, rfl, ⟨_, SqL.of h1⟩, fun D hD => ?_⟩
    refine lc_list (K := K) (a := p) (xs := as.map V.ref) (fun i H' => Same H2 H' ∧ ∃ xs : List Addr, H' D = some (.lst (xs.map V.ref)) ∧ xs.length = i ∧ ∀ (j : Nat) (x : Addr) (n : NestD), xs[j]? = some x → (nestsOf z)[j]? = some n → NestIs C H' x n)
      ⟨same_new hD, [], upd_same, rfl, fun j x n hx _ => by cases hx⟩ (fun i H' _ h => (SqL.of h1).ext h.1) (fun i x H' hi h => ?_) (fun H' h => ?_)
    · obtain ⟨sm, xs, hL, hxl, hxs⟩ := h
      refine ⟨rfl, ?_⟩
      obtain ⟨a, ha, rfl⟩ : ∃ a, as[i]? = some a ∧ x = .ref a := by
        rw [List.getElem?_map] at hi
        cases e : as[i]? with
        | none => rw [e] at hi; cases hi
        | some r => rw [e] at hi; exact ⟨r, rfl, (Option.some.inj hi).symm⟩
      have hil : i < (partsOf z).length := by rw [← h2]; exact (List.getElem?_eq_some_iff.mp ha).1
      have hgi : (partsOf z)[i]? = some (partsOf z)[i] := List.getElem?_eq_getElem hil
      have ng := l2 _ (List.getElem_mem hil)
      refine ⟨_, rfl, a, (partsOf z)[i], rfl, (SqL.of (h7 i a _ ha hgi)).ext sm, hpB _ (List.getElem_mem hil), ng.2, fun x H3 s3 hx => ⟨_, s3 _ _ hL, ?_, ?_, ?_⟩⟩
      · rw [List.length_map, hxl]
        exact Nat.lt_of_lt_of_le (Nat.lt_of_lt_of_le hil hp4) (by decide)
      · intro c o hc
        rw [upd_ne (fun e => by rw [e, hD] at hc; cases hc)]
        exact s3 c o (sm c o hc)
      · have up : ∀ y n, NestIs C H3 y n → NestIs C (upd H3 D (.lst (xs.map V.ref ++ [.ref x]))) y n := fun y n hy => by
          obtain ⟨dy, dp, ⟨R2, y1⟩, y2⟩ := hy
          have hD3 := s3 _ _ hL
          exact ⟨dy, dp, ⟨R2, by rw [upd_ne (fun e => by rw [e, hD3] at y1; cases y1)]; exact y1⟩, by rw [upd_ne (fun e => by rw [e, hD3] at y2; cases y2)]; exact y2⟩
        refine ⟨xs ++ [x], by rw [upd_same, List.map_append]; rfl, by rw [List.length_append, hxl]; rfl, fun j y n hj hn => ?_⟩
        by_cases hjl : j < xs.length
        · rw [List.getElem?_append_left hjl] at hj
          exact up y n ((hxs j y n hj hn).ext s3)
        · rw [List.getElem?_append_right (by omega)] at hj
          cases hd : j - xs.length with
          | zero =>
            rw [hd] at hj
            cases hj
            have ej : j = i := by omega
            rw [ej] at hn
            unfold nestsOf at hn
            rw [List.getElem?_map, hgi] at hn
            cases hn
            exact up _ _ hx
          | succ n =>
            rw [hd] at hj
            cases hj
    · obtain ⟨sm, xs, hL, hxl, hxs⟩ := h
      rw [List.length_map, h2] at hxl
      have nl : (nestsOf z).length = (partsOf z).length := List.length_map ..
      refine ⟨rfl, _, rfl, D, xs.map V.ref, rfl, .inr (SqL.of hL), fun x dx nx ndx _ => ?_⟩
      refine made_prog nx ndx (by omega) (fun y my => ?_) fun H3 tp s3 hx ht => ?_
      · obtain ⟨j, hj⟩ := List.mem_iff_getElem?.mp my
        have hjl : j < (nestsOf z).length := by have := (List.getElem?_eq_some_iff.mp hj).1; omega
        obtain ⟨dy, dp, ⟨R2, y1⟩, _⟩ := hxs j y _ hj (List.getElem?_eq_getElem hjl)
        exact ⟨dy, _, y1⟩
      · exact q x H3 (((s1.trans s2).trans sm).trans s3) ⟨dx, tp, xs, hx, ht, by omega, fun j y n hj hn => (hxs j y n hj hn).ext s3⟩
end
end Sq.N3
namespace Sq.N3
open PySem L2 TL
abbrev sActRow : Stmt := top 37
/-! ### the rows of deeds -/
def wds : List Str := ["swap", "copy", "order", "turn"]
def wdN (i : Nat) : Str := wds.getD i ""
def plN (i : Nat) : Str := plcs.getD i ""
def nuN (i : Nat) : Str := nums.getD i ""
def cmN (i : Nat) : Str := cmps.getD i ""
def guardW : Option (Nat × Nat × Nat) → List Str
  | none => []
  | some (a, b, c) => ["if", nuN a, cmN b, nuN c]
def actW (w : Nat) (ps : List Nat) (g : Option (Nat × Nat × Nat)) : List Str := wdN w :: (ps.map plN ++ guardW g)
def actS (w : Nat) (ps : List Nat) (g : Option (Nat × Nat × Nat)) : Str := Txt.join " " (actW w ps g)
structure ActOk (w : Nat) (ps : List Nat) (g : Option (Nat × Nat × Nat)) : Prop where
  w4 : w < 4
  two : w < 3 → ps.length = 2
  more : w = 3 → 3 ≤ ps.length ∧ ps.length ≤ 8
  nd : ps.Nodup
  lt : ∀ p ∈ ps, p < 8
  gd : ∀ a b c, g = some (a, b, c) → a < 4 ∧ b < 4 ∧ c < 4 ∧ a ≠ c
/-- a row that is a deed, as the law makes them -/
structure DeedRow (d : Str) : Prop where
  ok : deedB d = true
  ln : d.length ≤ 200
  nl : 10 ∉ tl d
  st : Txt.startswith d ofrom = false
  cp : ∀ c ∈ tl d, c < 128
def plainW (z : Str) : Bool := decide (z.length ≤ 5) && !(tl z).contains 32 && !(tl z).contains 10 && (tl z).all (· < 128)
structure PlainW (z : Str) : Prop where
  ln : z.length ≤ 5
  sp : 32 ∉ tl z
  nl : 10 ∉ tl z
  cp : ∀ c ∈ tl z, c < 128
theorem plainW_ok {z : Str} (h : plainW z = true) : PlainW z := by
  unfold plainW at h
  simp only [Bool.and_eq_true, decide_eq_true_eq, Bool.not_eq_true', List.all_eq_true] at h
  obtain ⟨⟨⟨h1, h2⟩, h3⟩, h4⟩ := h
  exact ⟨h1, fun m => (by rw [List.contains_iff_mem.mpr m] at h2; cases h2), fun m => (by rw [List.contains_iff_mem.mpr m] at h3; cases h3), fun c hc => h4 c hc⟩
theorem wd_plain : ∀ i : _root_.Fin 4, plainW (wdN i.val) = true := by decide +kernel
theorem pl_plain : ∀ i : _root_.Fin 8, plainW (plN i.val) = true := by decide +kernel
theorem nu_plain : ∀ i : _root_.Fin 4, plainW (nuN i.val) = true := by decide +kernel
theorem cm_plain : ∀ i : _root_.Fin 4, plainW (cmN i.val) = true := by decide +kernel
theorem if_plain : plainW "if" = true := by decide +kernel
theorem pl_mem : ∀ i : _root_.Fin 8, memB plcs (plN i.val) = true := by decide +kernel
theorem nu_mem : ∀ i : _root_.Fin 4, memB nums (nuN i.val) = true := by decide +kernel
theorem cm_mem : ∀ i : _root_.Fin 4, memB cmps (cmN i.val) = true := by decide +kernel
theorem nu_inj : ∀ i j : _root_.Fin 4, nuN i.val = nuN j.val → i = j := by decide +kernel
theorem pl_inj : ∀ i j : _root_.Fin 8, plN i.val = plN j.val → i = j := by decide +kernel
theorem wd_not_if : ∀ i : _root_.Fin 4, wdN i.val ≠ "if" := by decide +kernel
theorem pl_not_if : ∀ i : _root_.Fin 8, plN i.val ≠ "if" := by decide +kernel
theorem wd_counts : ∀ i : _root_.Fin 4, counts (wdN i.val) = if i.val = 3 then some (3, 8) else some (2, 2) := by decide +kernel
theorem wd_head : ∀ i : _root_.Fin 4, (tl (wdN i.val)).head? ≠ some 105 ∧ tl (wdN i.val) ≠ [] := by decide +kernel
theorem dcount_nodup : ∀ xs : List Str, xs.Nodup → dcount xs = xs.length
  | [], _ => rfl
  | x :: r, h => by
    obtain ⟨h1, h2⟩ := List.nodup_cons.mp h
    unfold dcount
    rw [if_neg (fun e => h1 (by obtain ⟨y, hy, e⟩ := List.any_eq_true.mp e; rw [← eq_of_beq e]; exact hy)), dcount_nodup r h2]
    rfl
theorem joinL_mem {S : List Nat} {c : Nat} : ∀ {ps : List (List Nat)}, c ∈ joinL S ps → c ∈ S ∨ ∃ p ∈ ps, c ∈ p
  | [p], h => .inr ⟨p, List.mem_cons_self, h⟩
  | p :: q :: r, h => by
    rcases List.mem_append.mp (show c ∈ p ++ (S ++ joinL S (q :: r)) from h) with e | e
    · exact .inr ⟨p, List.mem_cons_self, e⟩
    · rcases List.mem_append.mp e with e | e
      · exact .inl e
      · rcases joinL_mem e with e | ⟨z, hz, e⟩
        · exact .inl e
        · exact .inr ⟨z, List.mem_cons_of_mem _ hz, e⟩
theorem joinL_len {S : List Nat} {m : Nat} : ∀ {ps : List (List Nat)}, (∀ p ∈ ps, p.length ≤ m) → (joinL S ps).length ≤ ps.length * (m + S.length)
  | [], _ => Nat.zero_le _
  | [p], h => by
    show p.length ≤ 1 * (m + S.length)
    have := h p List.mem_cons_self
    omega
  | p :: q :: r, h => by
    have ih := joinL_len (S := S) (ps := q :: r) fun x hx => h x (List.mem_cons_of_mem _ hx)
    show (p ++ (S ++ joinL S (q :: r))).length ≤ ((q :: r).length + 1) * (m + S.length)
    rw [List.length_append, List.length_append, Nat.add_mul]
    have := h p List.mem_cons_self
    omega
theorem joinL_head {S : List Nat} {p : List Nat} (hp : p ≠ []) : ∀ r : List (List Nat), (joinL S (p :: r)).head? = p.head?
  | [] => rfl
  | q :: r => by
    show (p ++ (S ++ joinL S (q :: r))).head? = _
    cases p with
    | nil => exact absurd rfl hp
    | cons a l => rfl
theorem tl_act (ws : List Str) : tl (Txt.join " " ws) = joinL [32] (ws.map tl) := by
  rw [join_eq, tl_join]
  rfl
section
variable {w : Nat} {ps : List Nat} {g : Option (Nat × Nat × Nat)}
theorem actW_plain (h : ActOk w ps g) : ∀ z ∈ actW w ps g, PlainW z := by
  intro z hz
  rcases List.mem_cons.mp hz with e | e
  · rw [e]
    exact plainW_ok (wd_plain ⟨w, h.w4⟩)
  · rcases List.mem_append.mp e with e | e
    · obtain ⟨i, hi, rfl⟩ := List.mem_map.mp e
      exact plainW_ok (pl_plain ⟨i, h.lt i hi⟩)
    · match g, h, e with
      | some (a, b, c), h, e =>
        obtain ⟨ha, hb, hc, _⟩ := h.gd a b c rfl
        rcases (by simpa [guardW] using e : z = "if" ∨ z = nuN a ∨ z = cmN b ∨ z = nuN c) with rfl | rfl | rfl | rfl
        · exact plainW_ok if_plain
        · exact plainW_ok (nu_plain ⟨a, ha⟩)
        · exact plainW_ok (cm_plain ⟨b, hb⟩)
        · exact plainW_ok (nu_plain ⟨c, hc⟩)
theorem ps_len (h : ActOk w ps g) : 2 ≤ ps.length ∧ ps.length ≤ 8 := by
  have h1 := h.w4
  by_cases e : w = 3
  · have := h.more e
    omega
  · have := h.two (by omega)
    omega
theorem actW_len (h : ActOk w ps g) : (actW w ps g).length ≤ 13 := by
  have hp := ps_len h
  unfold actW
  rw [List.length_cons, List.length_append, List.length_map]
  match g with
  | none => show ps.length + 0 + 1 ≤ 13; omega
  | some (a, b, c) => show ps.length + 4 + 1 ≤ 13; omega
theorem act_split (h : ActOk w ps g) : Txt.split (actS w ps g) " " = actW w ps g :=
  split_join (s := 32) (S := []) (by decide +kernel) (by decide +kernel) (List.cons_ne_nil _ _) fun p hp => (actW_plain h p hp).sp
theorem deedW_act (h : ActOk w ps g) : deedW (actW w ps g) = ⟨wdN w, ps.map plN, (guardW g).drop 1⟩ := by
  match g, h with
  | none, h =>
    have e : actW w ps none = wdN w :: ps.map plN := by
      unfold actW guardW
      rw [List.append_nil]
    rw [e]
    unfold deedW
    rw [if_neg]
    · rfl
    · rintro ⟨hl, he⟩
      have hm : ("if" : Str) ∈ wdN w :: ps.map plN := List.mem_of_getElem? he
      rcases List.mem_cons.mp hm with e | e
      · exact wd_not_if ⟨w, h.w4⟩ e.symm
      · obtain ⟨i, hi, e⟩ := List.mem_map.mp e
        exact pl_not_if ⟨i, h.lt i hi⟩ e
  | some (a, b, c), h =>
    have hl : (actW w ps (some (a, b, c))).length = ps.length + 5 := by
      unfold actW guardW
      rw [List.length_cons, List.length_append, List.length_map]
      rfl
    have hp := ps_len h
    have e : actW w ps (some (a, b, c)) = (wdN w :: ps.map plN) ++ guardW (some (a, b, c)) := rfl
    have pl : (wdN w :: ps.map plN).length = ps.length + 1 := by rw [List.length_cons, List.length_map]
    unfold deedW
    rw [hl, if_pos]
    · show (⟨wdN w, ((actW w ps (some (a, b, c))).drop 1).take (ps.length + 5 - 5), (actW w ps (some (a, b, c))).drop (ps.length + 5 - 3)⟩ : Deed) = _
      have e1 : ((actW w ps (some (a, b, c))).drop 1).take (ps.length + 5 - 5) = ps.map plN := by
        show ((ps.map plN) ++ guardW (some (a, b, c))).take (ps.length + 5 - 5) = _
        rw [show ps.length + 5 - 5 = (ps.map plN).length by rw [List.length_map]; omega, List.take_left]
      have e2 : (actW w ps (some (a, b, c))).drop (ps.length + 5 - 3) = [nuN a, cmN b, nuN c] := by
        rw [e, show ps.length + 5 - 3 = (wdN w :: ps.map plN).length + 1 by rw [pl]; omega, List.drop_append, List.drop_eq_nil_of_le (Nat.le_succ _), Nat.add_sub_cancel_left]
        rfl
      rw [e1, e2]
      rfl
    · refine ⟨by omega, ?_⟩
      rw [e, show ps.length + 5 - 4 = (wdN w :: ps.map plN).length by rw [pl]; omega, List.getElem?_append_right (Nat.le_refl _), Nat.sub_self]
      rfl
theorem map_nodup {f : Nat → Str} : ∀ ps : List Nat, ps.Nodup → (∀ p ∈ ps, ∀ q ∈ ps, f p = f q → p = q) → (ps.map f).Nodup
  | [], _, _ => List.nodup_nil
  | p :: ps, h, hf => by
    obtain ⟨h1, h2⟩ := List.nodup_cons.mp h
    rw [List.map_cons]
    refine List.nodup_cons.mpr ⟨fun hm => ?_, map_nodup ps h2 fun a ha b hb => hf a (List.mem_cons_of_mem _ ha) b (List.mem_cons_of_mem _ hb)⟩
    obtain ⟨q, hq, e⟩ := List.mem_map.mp hm
    exact h1 (by rw [← hf q (List.mem_cons_of_mem _ hq) p List.mem_cons_self e]; exact hq)
theorem act_places (h : ActOk w ps g) : placesB (wdN w) (ps.map plN) = true := by
  have hp := ps_len h
  have nd : (ps.map plN).Nodup := map_nodup ps h.nd fun p hp q hq e => congrArg Fin.val (pl_inj ⟨p, h.lt p hp⟩ ⟨q, h.lt q hq⟩ e)
  have d1 : dcount (ps.map plN).reverse = (ps.map plN).length := by
    rw [dcount_nodup _ ((List.reverse_perm _).nodup_iff.mpr nd), List.length_reverse]
  have m1 : (ps.map plN).all (memB plcs) = true := by
    rw [List.all_map, List.all_eq_true]
    exact fun p hp => pl_mem ⟨p, h.lt p hp⟩
  have c1 := wd_counts ⟨w, h.w4⟩
  unfold placesB
  have c2 : counts (wdN w) = if w = 3 then some (3, 8) else some (2, 2) := c1
  rw [c2]
  by_cases e : w = 3
  · have := h.more e
    rw [if_pos e]
    show ((decide (3 ≤ (ps.map plN).length) && decide ((ps.map plN).length ≤ 8)) && (decide (dcount (ps.map plN).reverse = (ps.map plN).length) && (ps.map plN).all (memB plcs))) = true
    rw [d1, m1, List.length_map, decide_eq_true this.1, decide_eq_true this.2, decide_eq_true rfl]
    rfl
  · have h1 := h.w4
    have := h.two (by omega)
    rw [if_neg e]
    show ((decide (2 ≤ (ps.map plN).length) && decide ((ps.map plN).length ≤ 2)) && (decide (dcount (ps.map plN).reverse = (ps.map plN).length) && (ps.map plN).all (memB plcs))) = true
    rw [d1, m1, List.length_map, decide_eq_true (show 2 ≤ ps.length by omega), decide_eq_true (show ps.length ≤ 2 by omega), decide_eq_true rfl]
    rfl
theorem act_cond (h : ActOk w ps g) : condB ((guardW g).drop 1) = true := by
  match g, h with
  | none, _ => rfl
  | some (a, b, c), h =>
    obtain ⟨ha, hb, hc, hn⟩ := h.gd a b c rfl
    have m1 : memB nums (nuN a) = true := nu_mem ⟨a, ha⟩
    have m2 : memB cmps (cmN b) = true := cm_mem ⟨b, hb⟩
    have m3 : memB nums (nuN c) = true := nu_mem ⟨c, hc⟩
    have ne : ¬ nuN a = nuN c := fun e => hn (congrArg Fin.val (nu_inj ⟨a, ha⟩ ⟨c, hc⟩ e))
    show (memB nums (nuN a) && (memB cmps (cmN b) && (memB nums (nuN c) && !decide (nuN a = nuN c)))) = true
    rw [m1, m2, m3, decide_eq_false ne]
    rfl
theorem act_deed (h : ActOk w ps g) : DeedRow (actS w ps g) := by
  have ht := tl_act (actW w ps g)
  have pl := actW_plain h
  have hn := actW_len h
  refine ⟨?_, ?_, fun hm => ?_, ?_, fun c hc => ?_⟩
  · unfold deedB deedD
    rw [act_split h, deedW_act h]
    show (placesB (wdN w) (ps.map plN) && condB ((guardW g).drop 1)) = true
    rw [act_places h, act_cond h]
    rfl
  · rw [len_tl]
    show (tl (Txt.join " " (actW w ps g))).length ≤ 200
    rw [ht]
    have z := joinL_len (S := [32]) (m := 5) (ps := (actW w ps g).map tl) fun p hp => by
      obtain ⟨z, hz, rfl⟩ := List.mem_map.mp hp
      have := (pl z hz).ln
      rw [len_tl] at this
      exact this
    rw [List.length_map] at z
    have : ([32] : List Nat).length = 1 := rfl
    rw [this] at z
    omega
  · have hm : 10 ∈ tl (Txt.join " " (actW w ps g)) := hm
    rw [ht] at hm
    rcases joinL_mem hm with e | ⟨p, hp, e⟩
    · exact absurd e (by decide)
    · obtain ⟨z, hz, rfl⟩ := List.mem_map.mp hp
      exact (pl z hz).nl e
  · rw [starts_pre]
    show pre (tl ofrom) (tl (Txt.join " " (actW w ps g))) = false
    have hd := wd_head ⟨w, h.w4⟩
    have e1 : (tl (Txt.join " " (actW w ps g))).head? = (tl (wdN w)).head? := by
      rw [ht]
      exact joinL_head hd.2 _
    have e2 : ∃ r, tl ofrom = 105 :: r := ⟨(tl ofrom).drop 1, by decide +kernel⟩
    obtain ⟨r, e2⟩ := e2
    rw [e2]
    cases e3 : tl (Txt.join " " (actW w ps g)) with
    | nil => rfl
    | cons c l =>
      rw [e3] at e1
      have nc : c ≠ 105 := fun e => hd.1 (by rw [e] at e1; exact e1.symm)
      show (((c :: l).take (r.length + 1)) == (105 :: r)) = false
      rw [List.take_succ_cons, List.cons_beq_cons, show (c == 105) = false from beq_eq_false_iff_ne.mpr nc, Bool.false_and]
  · have hc : c ∈ tl (Txt.join " " (actW w ps g)) := hc
    rw [ht] at hc
    rcases joinL_mem hc with e | ⟨p, hp, e⟩
    · rw [List.mem_singleton.mp e]
      decide
    · obtain ⟨z, hz, rfl⟩ := List.mem_map.mp hp
      exact (pl z hz).cp c e
end
end Sq.N3
namespace Sq.N3
open PySem L2 TL
def guardT : Option (Nat × Nat × Nat) → List V
  | none => []
  | some (a, b, c) => [.int (a : Int), .int (b : Int), .int (c : Int)]
/-- an act as the law draws it: a tuple of a word's number, a list of places, a condition -/
def ActAt (K : PySem.W.Frag) (H : Hp) (t : Addr) (w : Nat) (ps : List Nat) (g : Option (Nat × Nat × Nat)) : Prop := ∃ l u, SqT K H t [.int (w : Int), .ref l, .ref u] ∧ SqL K H l (ps.map fun p => V.int ((p : Nat) : Int)) ∧ SqT K H u (guardT g)
theorem ActAt.ext {K : PySem.W.Frag} {H H' : Hp} {t : Addr} {w : Nat} {ps : List Nat} {g : Option (Nat × Nat × Nat)} (e : Same H H') (h : ActAt K H t w ps g) : ActAt K H' t w ps g := by
  obtain ⟨l, u, h1, h2, h3⟩ := h
  exact ⟨l, u, h1.ext e, h2.ext e, h3.ext e⟩
def spActRow (K : PySem.W.Frag) : Sp := fun vs H Q _ => ∃ (t : Addr) (w : Nat) (ps : List Nat) (g : Option (Nat × Nat × Nat)), vs = [.ref t] ∧ ActAt K H t w ps g ∧ ActOk w ps g ∧ ∀ H', Same H H' → Q (.str (actS w ps g)) H'
section
variable {P : Program} {w : World} {K : PySem.W.Frag} {mg : Str → Option Value} {base : Heap}
theorem scActRow : FnScope ["_law_act_here", "_law_places", "_law_words", "_law_place", "_law_sides", "_law_signs"] ["_law_act_here"] (defScope sActRow) := ⟨rfl, rfl, rfl, by decide +kernel, rfl, by decide +kernel, by decide +kernel⟩
theorem strs_at (L : List Str) {i : Nat} (h : i < L.length) : atI (L.map V.str) ((i : Nat) : Int) = some (.str (L.getD i "")) := by
  refine atI_nat ?_
  rw [List.getElem?_map, List.getElem?_eq_getElem h]
  show some (V.str L[i]) = _
  rw [List.getD_eq_getElem?_getD, List.getElem?_eq_getElem h]
  rfl
theorem sum_le {m : Nat} : ∀ {ys : List Str}, (∀ y ∈ ys, y.length ≤ m) → (ys.map (·.length)).sum ≤ m * ys.length
  | [], _ => Nat.zero_le _
  | y :: ys, h => by
    have ih := sum_le (m := m) (ys := ys) fun z hz => h z (List.mem_cons_of_mem _ hz)
    have h1 := h y List.mem_cons_self
    rw [List.map_cons, List.sum_cons, List.length_cons, Nat.mul_add]
    omega
def strs4 (a b c d : Str) : TA := tCons (tC (.str a)) (tCons (tC (.str b)) (tCons (tC (.str c)) (tCons (tC (.str d)) tNil)))
theorem ok_actRow {f : Addr} {fd : FuncData} (F : Fun K "_law_act_row" "_law_act_row" sActRow f fd) : FnOk P w K mg base CX0 1 f fd ["_law_act_here"] (spActRow K) := by
  refine F.ok scActRow (fun vs H Q E h => ?_) (fun cdv A outer s H vs Q E hr h => ?_)
  · obtain ⟨t, w', ps, g, rfl, _⟩ := h
    rfl
  · obtain ⟨t, w', ps, g, rfl, hT, ok, q⟩ := h
    obtain ⟨l, u, hT, hL, hU⟩ := hT
    have big : 1000 ≤ sizeLine := by decide
    have hp := ps_len ok
    refine ⟨_, pss_cons (ps_set (i := 1) scActRow.nd rfl (.inr rfl) (pe_lst (pa_cons pe_str (pa_cons pe_str (pa_cons pe_str (pa_cons pe_str (pa_cons pe_str (pa_cons pe_str (pa_cons pe_str (pa_cons pe_str pa_nil))))))))))
      (pss_cons (ps_set (i := 2) scActRow.nd rfl (.inl rfl) (pe_op op_cat (pe_lst (pa_cons (pe_ix ix_list (pe_lst (pa_cons pe_str (pa_cons pe_str (pa_cons pe_str (pa_cons pe_str pa_nil))))) (pe_ix ix_tup (pv 0) pe_int (fun _ _ => rfl)) (fun _ _ => rfl)) pa_nil))
        (pe_lc (own := [("_law_place", 3)]) (g := gName 3) (by rfl) scActRow.nd (pi_list (pe_ix ix_tup (pv 0) pe_int (fun _ _ => rfl)))
          (blkOk_by (own := [("_law_place", 3)]) (N := ["_law_act_here", "_law_places", "_law_words", "_law_place", "_law_sides", "_law_signs"]) (sc := defScope sActRow) (by decide +kernel)) (fun _ _ _ _ _ => pg_name (i := 3) scActRow.nd rfl (Or.inl rfl)) (fun _ _ _ _ _ => pts_nil)
          (fun _ _ _ _ _ => (show PE _ _ (tOp (rIxL K) (tVar 1) (tVar 3)) from pe_ix ix_list (pv 1) (pv 3) (fun _ _ => rfl))))))
      (pss_cons (ps_if (pt_cmpR (op_neD hr.units) (pe_ix ix_tup (pv 0) pe_int (fun _ _ => rfl)) (pe_tup pa_nil) (nomark _))
        (pss_cons (ps_par (i := 4) (j := 5) (by rfl) scActRow.nd rfl rfl (by decide) rfl rfl (pa_cons (pe_lst (pa_cons pe_str (pa_cons pe_str (pa_cons pe_str (pa_cons pe_str pa_nil))))) (pa_cons (pe_lst (pa_cons pe_str (pa_cons pe_str (pa_cons pe_str (pa_cons pe_str pa_nil))))) pa_nil)) (by rfl))
        (pss_one (ps_set (i := 2) scActRow.nd rfl (.inl rfl) (pe_op op_cat (pv 2) (pe_lst (pa_cons pe_str (pa_cons (pe_ix ix_list (pv 4) (pe_ix ix_tup (pe_ix ix_tup (pv 0) pe_int (fun _ _ => rfl)) pe_int (fun _ _ => rfl)) (fun _ _ => rfl))
          (pa_cons (pe_ix ix_list (pv 5) (pe_ix ix_tup (pe_ix ix_tup (pv 0) pe_int (fun _ _ => rfl)) pe_int (fun _ _ => rfl)) (fun _ _ => rfl)) (pa_cons (pe_ix ix_list (pv 4) (pe_ix ix_tup (pe_ix ix_tup (pv 0) pe_int (fun _ _ => rfl)) pe_int (fun _ _ => rfl)) (fun _ _ => rfl)) pa_nil))))))))) pss_nil)
      (pss_one (ps_ret (pe_join pe_str (pv 2)))))), ?_⟩
    refine ⟨(by show 8 ≤ sizeLine; omega), fun pl npl => ?_⟩
    have k1 := same_new (o := .lst (plcs.map V.str)) npl
    refine ⟨(by show 4 ≤ sizeLine; omega), fun wl nwl => ?_⟩
    have k2 := k1.trans (same_new (o := .lst (wds.map V.str)) nwl)
    refine ⟨_, rfl, t, _, 0, _, rfl, rfl, hT.ext k2, rfl, wl, _, _, _, rfl, rfl, SqL.of upd_same, strs_at wds ok.w4, ?_⟩
    refine ⟨(by show 1 ≤ sizeLine; omega), fun ol nol => ?_⟩
    have k3 := k2.trans (same_new (o := .lst [.str (wdN w')]) nol)
    refine ⟨_, rfl, t, _, 1, _, rfl, rfl, hT.ext k3, rfl, l, rfl, ⟨_, hL.ext k3⟩, fun D hD => ?_⟩
    have hpl3 : (upd (upd (upd H pl (.lst (plcs.map V.str))) wl (.lst (wds.map V.str))) ol (.lst [.str (wdN w')])) pl = some (.lst (plcs.map V.str)) := same_new nol _ _ (same_new nwl _ _ upd_same)
    refine lc_list (K := K) (a := l) (xs := ps.map fun p => V.int ((p : Nat) : Int)) (fun i H' => Same (upd (upd (upd H pl (.lst (plcs.map V.str))) wl (.lst (wds.map V.str))) ol (.lst [.str (wdN w')])) H' ∧ H' D = some (.lst (((ps.take i).map plN).map V.str)))
      ⟨same_new hD, upd_same⟩ (fun i H' _ h => (hL.ext k3).ext h.1) (fun i x H' hi h => ?_) (fun H' h => ?_)
    · obtain ⟨sm, hLD⟩ := h
      refine ⟨rfl, ?_⟩
      obtain ⟨a, ha, rfl⟩ : ∃ a : Nat, ps[i]? = some a ∧ x = .int (a : Int) := by
        rw [List.getElem?_map] at hi
        cases e : ps[i]? with
        | none => rw [e] at hi; cases hi
        | some r => rw [e] at hi; exact ⟨r, rfl, (Option.some.inj hi).symm⟩
      have ha8 : a < 8 := ok.lt a (List.mem_of_getElem? ha)
      refine ⟨_, rfl, _, rfl, pl, _, _, _, rfl, rfl, SqL.of (sm _ _ hpl3), strs_at plcs ha8, _, hLD, ?_, ?_, ?_⟩
      · rw [List.length_map, List.length_map, List.length_take]
        have := hp.2
        omega
      · intro c o hc
        rw [upd_ne (ne_of_none hc (show _ = none from hD))]
        exact sm c o hc
      · rw [upd_same, List.take_add_one, ha, List.map_append, List.map_append]
        rfl
    · obtain ⟨sm, hLD⟩ := h
      rw [List.length_map, List.take_length] at hLD
      refine ⟨ol, D, _, _, rfl, rfl, sm _ _ upd_same, hLD, ?_, fun p np => ?_⟩
      · rw [List.length_map, List.length_map]
        show 1 + ps.length ≤ sizeLine
        omega
      have k4 := (k3.trans sm).trans (same_new (o := .lst ([.str (wdN w')] ++ (ps.map plN).map V.str)) np)
      have fin : ∀ (g' : Option (Nat × Nat × Nat)) (p : Addr) (H' : Hp) (σ : L2.St), g' = g → Same H H' → H' p = some (.lst ((actW w' ps g').map V.str)) → σ[2]? = some (some (.ref p)) → ∃ x, σ[2]? = some (some x) ∧ ∃ a q', ∃ ys : List Str, (V.str (" " : Str)) = .str a ∧ [x] = [.ref q'] ∧ (SqL K H' q' (ys.map V.str) ∨ SqT K H' q' (ys.map V.str)) ∧
          (ys.map (·.length)).sum + ys.length * a.length ≤ 16777216 ∧ Q (.str (Txt.join a ys)) H' := fun g' p H' σ eg sm hp' hσ => by
        subst eg
        refine ⟨.ref p, hσ, " ", p, actW w' ps g', rfl, rfl, .inl (SqL.of hp'), ?_, q H' sm⟩
        have h1 := sum_le (m := 5) (ys := actW w' ps g') fun y hy => (actW_plain ok y hy).ln
        have h2 := actW_len ok
        have h3 : (" " : Str).length = 1 := by decide +kernel
        rw [h3]
        omega
      refine ⟨_, rfl, t, _, 2, _, rfl, rfl, hT.ext k4, rfl, Nat.zero_le _, fun e ne => ?_⟩
      have k5 := k4.trans (same_new (o := .tup []) ne)
      have hp5 := same_new (o := .tup []) ne _ _ (show _ from upd_same (H := H') (a := p) (o := .lst ([.str (wdN w')] ++ (ps.map plN).map V.str)))
      match g, ok, hU, q, fin with
      | none, ok, hU, q, fin =>
        refine ⟨.tuple [], .tuple [], .tup (hU.ext k5) .nil, .tup (SqT.of upd_same) .nil, by decide +kernel, by decide +kernel, _, rfl, ?_⟩
        refine iteF ?_
        refine ⟨⟨_, rfl⟩, ?_⟩
        refine fin none p _ _ rfl k5 ?_ rfl
        rw [hp5]
        unfold actW guardW
        rw [List.append_nil]
        rfl
      | some (a, b, c), ok, hU, q, fin =>
        obtain ⟨ha, hb, hc, hn⟩ := ok.gd a b c rfl
        refine ⟨.tuple [.int (a : Int), .int (b : Int), .int (c : Int)], .tuple [], .tup (hU.ext k5) (.cons (.int _) (.cons (.int _) (.cons (.int _) .nil))), .tup (SqT.of upd_same) .nil, ?_, by decide +kernel, _, rfl, ?_⟩
        · rfl
        refine iteT ?_
        refine ⟨(by show 4 ≤ sizeLine; omega), fun s1 ns1 => ⟨(by show 4 ≤ sizeLine; omega), fun s2 ns2 => ⟨_, _, rfl, ?_⟩⟩⟩
        have k6 := k5.trans (same_new (o := .lst (nums.map V.str)) ns1)
        have k7 := k6.trans (same_new (o := .lst (cmps.map V.str)) ns2)
        have u1 := same_new (o := .lst (cmps.map V.str)) ns2 _ _ (show _ from upd_same (a := s1) (o := .lst (nums.map V.str)))
        refine ⟨_, rfl, ?_⟩
        refine ⟨_, rfl, _, rfl, t, _, 2, _, rfl, rfl, hT.ext k7, rfl, u, _, 0, _, rfl, rfl, hU.ext k7, rfl, s1, _, _, _, rfl, rfl, SqL.of u1, strs_at nums ha, ?_⟩
        refine ⟨_, rfl, _, rfl, t, _, 2, _, rfl, rfl, hT.ext k7, rfl, u, _, 1, _, rfl, rfl, hU.ext k7, rfl, s2, _, _, _, rfl, rfl, SqL.of upd_same, strs_at cmps hb, ?_⟩
        refine ⟨_, rfl, _, rfl, t, _, 2, _, rfl, rfl, hT.ext k7, rfl, u, _, 2, _, rfl, rfl, hU.ext k7, rfl, s1, _, _, _, rfl, rfl, SqL.of u1, strs_at nums hc, ?_⟩
        refine ⟨(by show 4 ≤ sizeLine; omega), fun gl ngl => ?_⟩
        have k8 := k7.trans (same_new (o := .lst ((guardW (some (a, b, c))).map V.str)) ngl)
        refine ⟨p, gl, _, _, rfl, rfl, same_new ngl _ _ (same_new ns2 _ _ (same_new ns1 _ _ hp5)), upd_same, ?_, fun p2 np2 => ?_⟩
        · rw [List.length_append, List.length_map, List.length_map]
          show (1 + ps.length) + 4 ≤ sizeLine
          omega
        refine ⟨⟨_, rfl⟩, ?_⟩
        refine fin (some (a, b, c)) p2 _ _ rfl (k8.trans (same_new np2)) ?_ rfl
        rw [upd_same]
        unfold actW
        rw [List.map_cons, List.map_append]
        rfl
end
end Sq.N3
namespace Sq.N3
open PySem L2 TL
abbrev sWalk : Stmt := top 39
abbrev sAct : Stmt := top 40
/-- a bag stands at p -/
def BagAt (H : Hp) (p : Addr) : Prop := ∃ m d c : Int, H p = some (.lst [.int m, .int d, .int c])
theorem Off.trans {p : Addr} {H H1 H2 : Hp} (a : Off p H H1) (b : Off p H1 H2) : Off p H H2 := fun c o n h => b c o n (a c o n h)
theorem Same.off {p : Addr} {H H1 : Hp} (a : Same H H1) : Off p H H1 := fun c o _ h => a c o h
theorem BagAt.ext {H H' : Hp} {p : Addr} (e : Same H H') (h : BagAt H p) : BagAt H' p := by
  obtain ⟨m, d, c, h⟩ := h
  exact ⟨m, d, c, e _ _ h⟩
theorem bag_new {H : Hp} {p t : Addr} (h : BagAt H p) (nt : H t = none) : t ≠ p := fun e => by
  obtain ⟨m, d, c, h⟩ := h
  rw [e, h] at nt
  cases nt
theorem new_at {H : Hp} {b : Addr} {o : HO} (_ : H b = none) : (upd H b o) b = some o := upd_same
theorem off_none' {p a : Addr} {H H' : Hp} (h : Off p H H') (na : a ≠ p) (e : H' a = none) : H a = none := by
  cases z : H a with
  | none => rfl
  | some o => rw [h a o na z] at e; cases e
def iv (n : Nat) : V := .int (n : Int)
theorem ivs_at (L : List Nat) {i : Nat} (h : i < L.length) : atI (L.map iv) ((i : Nat) : Int) = some (iv (L.getD i 0)) := by
  refine atI_nat ?_
  rw [List.getElem?_map, List.getElem?_eq_getElem h]
  show some (iv L[i]) = _
  rw [List.getD_eq_getElem?_getD, List.getElem?_eq_getElem h]
  rfl
theorem getD_lt {L : List Nat} {i N : Nat} (h : i < L.length) (hL : ∀ x ∈ L, x < N) : L.getD i 0 < N := by
  rw [List.getD_eq_getElem?_getD, List.getElem?_eq_getElem h]
  exact hL _ (List.getElem_mem h)
def spDraw : Sp := fun vs H Q _ => ∃ (p : Addr) (k : Nat), vs = [.ref p, .int (k : Int)] ∧ BagAt H p ∧ 0 < k ∧ k < 1000000 ∧ ∀ (r : Nat) (H' : Hp), r < k → BagAt H' p → Off p H H' → Q (.int (r : Int)) H'
theorem draw_of {vs : List V} {H : Hp} {Q : VK} {E : XK} (h : spDraw vs H Q E) : spTake vs H Q E := by
  obtain ⟨p, k, rfl, ⟨m, d, c, hp⟩, k0, k1, q⟩ := h
  refine ⟨p, m, d, c, k, rfl, hp, by omega, by omega, fun r m' d' c' H' r0 r1 hp' o => ?_⟩
  obtain ⟨n, rfl⟩ := Int.eq_ofNat_of_zero_le r0
  exact q n H' (by omega) ⟨_, _, _, hp'⟩ o
theorem FnOk.draw {P : Program} {w : World} {K : PySem.W.Frag} {mg : Str → Option Value} {base : Heap} {f : Addr} {fd : FuncData} {ps : List Str} (F : FnOk P w K mg base CX0 1 f fd ps spTake) : FnOk P w K mg base CX0 1 f fd ps spDraw := F.imp fun _ _ _ _ => draw_of
def spWalk : Sp := fun vs H Q _ => ∃ (p : Addr) (deep : Bool), vs = [.ref p, .bl deep] ∧ BagAt H p ∧ ∀ (t : Addr) (a b d : Nat) (H' : Hp), BagAt H' p → Off p H H' → t ≠ p → H t = none → H' t = some (.tup [iv a, iv b, iv d]) → a < (if deep = true then 18 else 12) → b < (if deep = true then 18 else 12) → d < 2 → Q (.ref t) H'
def firsts : List Nat := [1, 1, 1, 1, 2, 7, 10]
def behinds : List Nat := [4, 4, 4, 7, 10, 3]
def firstsD : List Nat := firsts ++ [13, 13, 14, 15, 16]
def behindsD : List Nat := behinds ++ [13, 14, 15, 16]
section
variable {P : Program} {w : World} {K : PySem.W.Frag} {mg : Str → Option Value} {base : Heap} {fT : Addr} {dT : FuncData}
theorem scWalk : FnScope ["_law_bag_here", "_law_deep", "_law_many", "_law_firsts", "_law_behinds", "_law_first", "_law_behind"] ["_law_bag_here", "_law_deep"] (defScope sWalk) := ⟨rfl, rfl, rfl, by decide +kernel, rfl, by decide +kernel, by decide +kernel⟩
theorem ok_walk {f : Addr} {fd : FuncData} (F : Fun K "_law_walk" "_law_walk" sWalk f fd) (T : Bt mg) (KT : Kn P w K mg base "_law_take" 1 ["_law_bag_here", "_law_many"] spDraw) : FnOk P w K mg base CX0 2 f fd ["_law_bag_here", "_law_deep"] spWalk := by
  obtain ⟨fT, dT, mT, kT, bT, GT⟩ := KT
  refine F.ok scWalk (fun vs H Q E h => ?_) (fun cdv A outer s H vs Q E hr h => ?_)
  · obtain ⟨p, deep, rfl, _⟩ := h
    rfl
  · obtain ⟨p, deep, rfl, hp, q⟩ := h
    refine ⟨_, pss_cons (ps_if (pt_cmpR op_eq (pe_call GT hr (by rfl) mT kT bT .nil pass0 (pa_cons (pv 0) (pa_cons pe_int pa_nil))) pe_int (nomark _))
        (pss_cons (ps_set (i := 2) scWalk.nd rfl (.inl rfl) (pe_ifExp (pt_val (pv 1)) pe_int pe_int))
        (pss_one (ps_ret (pe_tup (pa_cons (pe_call GT hr (by rfl) mT kT bT .nil pass0 (pa_cons (pv 0) (pa_cons (pv 2) pa_nil))) (pa_cons (pe_call GT hr (by rfl) mT kT bT .nil pass0 (pa_cons (pv 0) (pa_cons (pv 2) pa_nil)))
          (pa_cons (pe_call GT hr (by rfl) mT kT bT .nil pass0 (pa_cons (pv 0) (pa_cons pe_int pa_nil))) pa_nil))))))) pss_nil)
      (pss_cons (ps_par (i := 3) (j := 4) (by rfl) scWalk.nd rfl rfl (by decide) rfl rfl (pa_cons (pe_lst (pa_cons pe_int (pa_cons pe_int (pa_cons pe_int (pa_cons pe_int (pa_cons pe_int (pa_cons pe_int (pa_cons pe_int pa_nil))))))))
          (pa_cons (pe_lst (pa_cons pe_int (pa_cons pe_int (pa_cons pe_int (pa_cons pe_int (pa_cons pe_int (pa_cons pe_int pa_nil))))))) pa_nil)) (by rfl))
      (pss_cons (ps_if (pt_val (pv 1)) (pss_one (ps_par (i := 3) (j := 4) (by rfl) scWalk.nd rfl rfl (by decide) rfl rfl (pa_cons (pe_op op_cat (pv 3) (pe_lst (pa_cons pe_int (pa_cons pe_int (pa_cons pe_int (pa_cons pe_int (pa_cons pe_int pa_nil)))))))
          (pa_cons (pe_op op_cat (pv 4) (pe_lst (pa_cons pe_int (pa_cons pe_int (pa_cons pe_int (pa_cons pe_int pa_nil)))))) pa_nil)) (by rfl))) pss_nil)
      (pss_cons (ps_par (i := 5) (j := 6) (by rfl) scWalk.nd rfl rfl (by decide) rfl rfl (pa_cons (pe_ix ix_list (pv 3) (pe_call GT hr (by rfl) mT kT bT .nil pass0 (pa_cons (pv 0) (pa_cons (pe_callB call_len_seq (by rfl) T.len PySem.boot_len (pa_cons (pv 3) pa_nil)) pa_nil))) (fun _ _ => rfl))
          (pa_cons (pe_ix ix_list (pv 4) (pe_call GT hr (by rfl) mT kT bT .nil pass0 (pa_cons (pv 0) (pa_cons (pe_callB call_len_seq (by rfl) T.len PySem.boot_len (pa_cons (pv 4) pa_nil)) pa_nil))) (fun _ _ => rfl)) pa_nil)) (by rfl))
      (pss_one (ps_ret (pe_tup (pa_cons (pv 5) (pa_cons (pv 6) (pa_cons (pe_call GT hr (by rfl) mT kT bT .nil pass0 (pa_cons (pv 0) (pa_cons pe_int pa_nil))) pa_nil))))))))), ?_⟩
    have big : 1000 ≤ sizeLine := by decide
    cases deep
    · -- deep: False
      refine ⟨_, rfl, p, 4, rfl, hp, by decide, by decide, fun r H1 rl hp1 o1 => ?_⟩
      refine ⟨rfl, _, rfl, ?_⟩
      refine ite2 (fun _ => ?_) (fun _ => ?_)
      · refine ⟨_, rfl, _, rfl, ?_⟩
        refine iteF ?_
        refine ⟨_, rfl, _, rfl, p, 12, rfl, hp1, by decide, by decide, fun a H2 al hp2 o2 => ?_⟩
        refine ⟨_, rfl, _, rfl, p, 12, rfl, hp2, by decide, by decide, fun b H3 bl hp3 o3 => ?_⟩
        refine ⟨_, rfl, p, 2, rfl, hp3, by decide, by decide, fun d H4 dl hp4 o4 => ?_⟩
        refine ⟨(by show 3 ≤ sizeLine; omega), fun t nt => ?_⟩
        exact q t a b d _ (hp4.ext (same_new nt)) ((((o1.trans o2).trans o3).trans o4).trans (Same.off (same_new nt))) (bag_new hp4 nt) (off_none' (((o1.trans o2).trans o3).trans o4) (bag_new hp4 nt) nt) upd_same al bl dl
      · refine ⟨(by show 7 ≤ sizeLine; omega), fun f1 nf1 => ⟨(by show 6 ≤ sizeLine; omega), fun b1 nb1 => ⟨_, _, rfl, ?_⟩⟩⟩
        have x1 := same_new (o := .lst (firsts.map iv)) nf1
        have x2 := same_new (o := .lst (behinds.map iv)) nb1
        have hpa : BagAt _ p := (hp1.ext x1).ext x2
        have oa := (o1.trans (Same.off (p := p) x1)).trans (Same.off x2)
        have hf1 := x2 _ _ (new_at (o := .lst (firsts.map iv)) nf1)
        refine ⟨_, rfl, _, rfl, ?_⟩
        refine iteF ?_
        have hpb := hpa
        have ob := oa
        have hF := hf1
        have hB := (new_at (o := .lst (behinds.map iv)) nb1)
        have nf : f1 ≠ p := fun e => by
          obtain ⟨_, _, _, hh⟩ := hpb
          rw [← e, hF] at hh
          cases hh
        have nb : b1 ≠ p := fun e => by
          obtain ⟨_, _, _, hh⟩ := hpb
          rw [← e, hB] at hh
          cases hh
        refine ⟨_, rfl, _, rfl, _, rfl, f1, _, rfl, .inl (SqL.of hF), p, 7, rfl, hpb, by decide, by decide, fun i1 H5 l1 hp5 o5 => ?_⟩
        refine ⟨f1, _, _, _, rfl, rfl, SqL.of (o5 _ _ nf hF), ivs_at firsts l1, ?_⟩
        refine ⟨_, rfl, _, rfl, _, rfl, b1, _, rfl, .inl (SqL.of (o5 _ _ nb hB)), p, 6, rfl, hp5, by decide, by decide, fun i2 H6 l2 hp6 o6 => ?_⟩
        refine ⟨b1, _, _, _, rfl, rfl, SqL.of (o6 _ _ nb (o5 _ _ nb hB)), ivs_at behinds l2, _, _, rfl, ?_⟩
        refine ⟨_, rfl, _, rfl, _, rfl, p, 2, rfl, hp6, by decide, by decide, fun d H7 dl hp7 o7 => ?_⟩
        refine ⟨(by show 3 ≤ sizeLine; omega), fun t nt => ?_⟩
        exact q t _ _ d _ (hp7.ext (same_new nt)) (((((ob.trans o5).trans o6).trans o7)).trans (Same.off (same_new nt))) (bag_new hp7 nt) (off_none' ((ob.trans o5).trans o6 |>.trans o7) (bag_new hp7 nt) nt) upd_same (getD_lt l1 (by decide)) (getD_lt l2 (by decide)) dl
    · -- deep: True
      refine ⟨_, rfl, p, 4, rfl, hp, by decide, by decide, fun r H1 rl hp1 o1 => ?_⟩
      refine ⟨rfl, _, rfl, ?_⟩
      refine ite2 (fun _ => ?_) (fun _ => ?_)
      · refine ⟨_, rfl, _, rfl, ?_⟩
        refine iteT ?_
        refine ⟨_, rfl, _, rfl, p, 18, rfl, hp1, by decide, by decide, fun a H2 al hp2 o2 => ?_⟩
        refine ⟨_, rfl, _, rfl, p, 18, rfl, hp2, by decide, by decide, fun b H3 bl hp3 o3 => ?_⟩
        refine ⟨_, rfl, p, 2, rfl, hp3, by decide, by decide, fun d H4 dl hp4 o4 => ?_⟩
        refine ⟨(by show 3 ≤ sizeLine; omega), fun t nt => ?_⟩
        exact q t a b d _ (hp4.ext (same_new nt)) ((((o1.trans o2).trans o3).trans o4).trans (Same.off (same_new nt))) (bag_new hp4 nt) (off_none' (((o1.trans o2).trans o3).trans o4) (bag_new hp4 nt) nt) upd_same al bl dl
      · refine ⟨(by show 7 ≤ sizeLine; omega), fun f1 nf1 => ⟨(by show 6 ≤ sizeLine; omega), fun b1 nb1 => ⟨_, _, rfl, ?_⟩⟩⟩
        have x1 := same_new (o := .lst (firsts.map iv)) nf1
        have x2 := same_new (o := .lst (behinds.map iv)) nb1
        have hpa : BagAt _ p := (hp1.ext x1).ext x2
        have oa := (o1.trans (Same.off (p := p) x1)).trans (Same.off x2)
        have hf1 := x2 _ _ (new_at (o := .lst (firsts.map iv)) nf1)
        refine ⟨_, rfl, _, rfl, ?_⟩
        refine iteT ?_
        refine ⟨_, rfl, (by show 5 ≤ sizeLine; omega), fun g1 ng1 => ?_⟩
        have x3 := same_new (o := .lst (([13, 13, 14, 15, 16] : List Nat).map iv)) ng1
        refine ⟨f1, g1, _, _, rfl, rfl, x3 _ _ hf1, upd_same, (by show 12 ≤ sizeLine; omega), fun f2 nf2 => ?_⟩
        have x4 := same_new (o := .lst (firstsD.map iv)) nf2
        refine ⟨_, rfl, (by show 4 ≤ sizeLine; omega), fun g2 ng2 => ?_⟩
        have x5 := same_new (o := .lst (([13, 14, 15, 16] : List Nat).map iv)) ng2
        refine ⟨b1, g2, _, _, rfl, rfl, x5 _ _ (x4 _ _ (x3 _ _ (new_at (o := .lst (behinds.map iv)) nb1))), upd_same, (by show 10 ≤ sizeLine; omega), fun b2 nb2 => ⟨_, _, rfl, ?_⟩⟩
        have x6 := same_new (o := .lst (behindsD.map iv)) nb2
        have xs := ((x3.trans x4).trans x5).trans x6
        have hpb := hpa.ext xs
        have ob := oa.trans (Same.off (p := p) xs)
        have hF := x6 _ _ (x5 _ _ (new_at (o := .lst (firstsD.map iv)) nf2))
        have hB := (new_at (o := .lst (behindsD.map iv)) nb2)
        have nf : f2 ≠ p := fun e => by
          obtain ⟨_, _, _, hh⟩ := hpb
          rw [← e, hF] at hh
          cases hh
        have nb : b2 ≠ p := fun e => by
          obtain ⟨_, _, _, hh⟩ := hpb
          rw [← e, hB] at hh
          cases hh
        refine ⟨_, rfl, _, rfl, _, rfl, f2, _, rfl, .inl (SqL.of hF), p, 12, rfl, hpb, by decide, by decide, fun i1 H5 l1 hp5 o5 => ?_⟩
        refine ⟨f2, _, _, _, rfl, rfl, SqL.of (o5 _ _ nf hF), ivs_at firstsD l1, ?_⟩
        refine ⟨_, rfl, _, rfl, _, rfl, b2, _, rfl, .inl (SqL.of (o5 _ _ nb hB)), p, 10, rfl, hp5, by decide, by decide, fun i2 H6 l2 hp6 o6 => ?_⟩
        refine ⟨b2, _, _, _, rfl, rfl, SqL.of (o6 _ _ nb (o5 _ _ nb hB)), ivs_at behindsD l2, _, _, rfl, ?_⟩
        refine ⟨_, rfl, _, rfl, _, rfl, p, 2, rfl, hp6, by decide, by decide, fun d H7 dl hp7 o7 => ?_⟩
        refine ⟨(by show 3 ≤ sizeLine; omega), fun t nt => ?_⟩
        exact q t _ _ d _ (hp7.ext (same_new nt)) (((((ob.trans o5).trans o6).trans o7)).trans (Same.off (same_new nt))) (bag_new hp7 nt) (off_none' ((ob.trans o5).trans o6 |>.trans o7) (bag_new hp7 nt) nt) upd_same (getD_lt l1 (by decide)) (getD_lt l2 (by decide)) dl
end
end Sq.N3
namespace Sq.N3
open PySem L2 TL
theorem erase_perm : ∀ (l : List Nat) (i : Nat), i < l.length → (l.getD i 0 :: l.eraseIdx i).Perm l
  | [], i, h => absurd h (Nat.not_lt_zero _)
  | a :: l, 0, _ => List.Perm.refl _
  | a :: l, i + 1, h => by
    have ih := erase_perm l i (Nat.lt_of_succ_lt_succ h)
    show (l.getD i 0 :: a :: l.eraseIdx i).Perm (a :: l)
    exact (List.Perm.swap _ _ _).trans (ih.cons a)
theorem seq_nat {i n : Nat} (h : i < n) : seqIndex? ((i : Nat) : Int) n = some i := by
  unfold seqIndex?
  simp [show ¬ ((i : Int) < 0) by omega, h]
theorem ivs_get (L : List Nat) {i : Nat} (h : i < L.length) : (L.map iv)[i]? = some (iv (L.getD i 0)) := by
  rw [List.getElem?_map, List.getElem?_eq_getElem h]
  show some (iv L[i]) = _
  rw [List.getD_eq_getElem?_getD, List.getElem?_eq_getElem h]
  rfl
theorem off_upd {p a : Addr} {H H' : Hp} {o : HO} (h : Off p H H') (ha : H a = none) : Off p H (upd H' a o) := fun b u nb e => by
  rw [upd_ne (fun z => by rw [z, ha] at e; cases e)]
  exact h b u nb e
theorem off_none {p a : Addr} {H H' : Hp} (h : Off p H H') (na : a ≠ p) (e : H' a = none) : H a = none := by
  cases z : H a with
  | none => rfl
  | some o => rw [h a o na z] at e; cases e
theorem iv_erase (l : List Nat) (i : Nat) : (l.map iv).eraseIdx i = (l.eraseIdx i).map iv := by
  induction l generalizing i with
  | nil => rfl
  | cons a l ih => cases i with
    | zero => rfl
    | succ i => exact congrArg (iv a :: ·) (ih i)
/-- an act as it is drawn, all of it where N holds -/
def ActH (N : Addr → Prop) (H : Hp) (t : Addr) (w : Nat) (ps : List Nat) (g : Option (Nat × Nat × Nat)) : Prop := ∃ l u, N t ∧ N l ∧ N u ∧ H t = some (.tup [iv w, .ref l, .ref u]) ∧ H l = some (.lst (ps.map iv)) ∧ H u = some (.tup (guardT g))
theorem ActH.at {K : PySem.W.Frag} {N : Addr → Prop} {H : Hp} {t : Addr} {w : Nat} {ps : List Nat} {g : Option (Nat × Nat × Nat)} (h : ActH N H t w ps g) : ActAt K H t w ps g := by
  obtain ⟨l, u, _, _, _, h1, h2, h3⟩ := h
  exact ⟨l, u, SqT.of h1, SqL.of h2, SqT.of h3⟩
theorem ActH.keep {N N' : Addr → Prop} {H H' : Hp} {t : Addr} {w : Nat} {ps : List Nat} {g : Option (Nat × Nat × Nat)} (n : ∀ a, N a → N' a) (e : ∀ b o, N b → H b = some o → H' b = some o) (h : ActH N H t w ps g) : ActH N' H' t w ps g := by
  obtain ⟨l, u, n1, n2, n3, h1, h2, h3⟩ := h
  exact ⟨l, u, n _ n1, n _ n2, n _ n3, e _ _ n1 h1, e _ _ n2 h2, e _ _ n3 h3⟩
def spAct (K : PySem.W.Frag) : Sp := fun vs H Q _ => ∃ p : Addr, vs = [.ref p] ∧ BagAt H p ∧ ∀ (t : Addr) (w : Nat) (ps : List Nat) (g : Option (Nat × Nat × Nat)) (H' : Hp), BagAt H' p → Off p H H' → ActH (fun a => H a = none) H' t w ps g → ActOk w ps g → Q (.ref t) H'
section
variable {P : Program} {w : World} {K : PySem.W.Frag} {mg : Str → Option Value} {base : Heap}
theorem scAct : FnScope ["_law_bag_here", "_law_word", "_law_left", "_law_places", "_law_k", "_law_one", "_law_sign", "_law_step"] ["_law_bag_here"] (defScope sAct) := ⟨rfl, rfl, rfl, by decide +kernel, rfl, by decide +kernel, by decide +kernel⟩
theorem ok_act {f : Addr} {fd : FuncData} (F : Fun K "_law_act" "_law_act" sAct f fd) (T : Bt mg) (hli : mg "list" = none) (KT : Kn P w K mg base "_law_take" 1 ["_law_bag_here", "_law_many"] spDraw) : FnOk P w K mg base CX0 2 f fd ["_law_bag_here"] (spAct K) := by
  obtain ⟨fT, dT, mT, kT, bT, GT⟩ := KT
  refine F.ok scAct (fun vs H Q E h => ?_) (fun cdv A outer s H vs Q E hr h => ?_)
  · obtain ⟨p, rfl, _⟩ := h
    rfl
  · obtain ⟨p, rfl, hp, q⟩ := h
    have big : 1000 ≤ sizeLine := by decide
    refine ⟨_, pss_cons (ps_par3 (i := 1) (j := 2) (l := 3) (by rfl) scAct.nd rfl rfl rfl (by decide) (by decide) (by decide) rfl rfl rfl (pa_cons (pe_call GT hr (by rfl) mT kT bT .nil pass0 (pa_cons (pv 0) (pa_cons pe_int pa_nil)))
        (pa_cons (pe_listRg (by rfl) (by rfl) hli (prg_1 (by rfl) T.range pe_int)) (pa_cons (pe_lst pa_nil) pa_nil))) (by rfl))
      (pss_cons (ps_for PassesOwn.never rfl (pi_range1 (by rfl) T.range (pa_cons (pe_ifExp (pt_cmpR op_eq (pv 1) pe_int (nomark _)) (pe_op op_add pe_int (pe_call GT hr (by rfl) mT kT bT .nil pass0 (pa_cons (pv 0) (pa_cons pe_int pa_nil)))) pe_int) pa_nil)) (pg_name (i := 4) scAct.nd rfl (.inl rfl))
        (pss_one (ps_expr (pe_bm PySem.F.plainAttrs_list PySem.F.slot_list_append PySem.F.type_list_append mt_append (pv 3) (pa_cons (pe_bm PySem.F.plainAttrs_list PySem.F.slot_list_pop PySem.F.type_list_pop mt_popAt (pv 2)
          (pa_cons (pe_call GT hr (by rfl) mT kT bT .nil pass0 (pa_cons (pv 0) (pa_cons (pe_callB call_len_seq (by rfl) T.len PySem.boot_len (pa_cons (pv 2) pa_nil)) pa_nil))) pa_nil)) pa_nil)))))
      (pss_cons (ps_if (pt_cmpR op_gt (pe_call GT hr (by rfl) mT kT bT .nil pass0 (pa_cons (pv 0) (pa_cons pe_int pa_nil))) pe_int (nomark _)) (pss_one (ps_ret (pe_tup (pa_cons (pv 1) (pa_cons (pv 3) (pa_cons (pe_tup pa_nil) pa_nil)))))) pss_nil)
      (pss_cons (ps_par3 (i := 5) (j := 6) (l := 7) (by rfl) scAct.nd rfl rfl rfl (by decide) (by decide) (by decide) rfl rfl rfl (pa_cons (pe_call GT hr (by rfl) mT kT bT .nil pass0 (pa_cons (pv 0) (pa_cons pe_int pa_nil)))
        (pa_cons (pe_call GT hr (by rfl) mT kT bT .nil pass0 (pa_cons (pv 0) (pa_cons pe_int pa_nil))) (pa_cons (pe_call GT hr (by rfl) mT kT bT .nil pass0 (pa_cons (pv 0) (pa_cons pe_int pa_nil))) pa_nil))) (by rfl))
      (pss_one (ps_ret (pe_tup (pa_cons (pv 1) (pa_cons (pv 3) (pa_cons (pe_tup (pa_cons (pv 5) (pa_cons (pv 6) (pa_cons (pe_op op_mod (pe_callTy call_int1 (by rfl) T.int (by decide +kernel) (pa_cons (pe_op op_add (pe_op op_add (pv 5) pe_int) (pv 7)) pa_nil)) pe_int) pa_nil)))) pa_nil)))))))))
      , ?_⟩
    refine ⟨_, rfl, p, 4, rfl, hp, by decide, by decide, fun wd H1 wl hp1 o1 => ?_⟩
    refine ⟨8, rfl, ⟨by decide, by decide, by decide, by decide, by decide⟩, fun l nl => ?_⟩
    refine ⟨Nat.zero_le _, fun pl npl => ⟨_, _, _, rfl, ?_⟩⟩
    have nlp := bag_new hp1 nl
    have x1 := same_new (o := .lst ((List.range 8).map iv)) nl
    have hp2 := hp1.ext x1
    have nplp := bag_new hp2 npl
    have x2 := same_new (o := .lst []) npl
    have npll : pl ≠ l := fun e => by
      rw [e] at npl
      exact absurd (npl.symm.trans (new_at (o := .lst (rgV 0 8)) nl)) (by intro z; cases z)
    have hp3 := hp2.ext x2
    have o3 := (o1.trans (Same.off (p := p) x1)).trans (Same.off x2)
    have hl3 := x2 _ _ (new_at (o := .lst ((List.range 8).map iv)) nl)
    have hpl3 := new_at (o := .lst []) npl
    have lH : H l = none := off_none o1 nlp nl
    have plH : H pl = none := off_none (o1.trans (Same.off (p := p) x1)) nplp npl
    refine ⟨_, rfl, rfl, _, rfl, ?_⟩
    refine ite2 (fun e3 => ?_) (fun e3 => ?_)
    · have w3 : wd = 3 := Int.ofNat.inj (V.int.inj (of_decide_eq_true e3))
      refine ⟨_, rfl, p, 6, rfl, hp3, by decide, by decide, fun rr HS rrl hpS o4 => ?_⟩
      refine ⟨_, _, rfl, rfl, _, rfl, by omega, by omega, ?_⟩
      have oS := o3.trans o4
      have hlS := o4 l _ nlp hl3
      have hplS := o4 pl _ nplp hpl3
      have hn8 : 3 + rr ≤ 8 := by omega
      refine for_range (lo := 0) (fun i σ H' => (∃ v, σ = [some (.ref p), some (iv wd), some (.ref l), some (.ref pl), v, none, none, none]) ∧ BagAt H' p ∧ Off p H H' ∧ ∃ ls qs : List Nat, H' l = some (.lst (ls.map iv)) ∧ H' pl = some (.lst (qs.map iv)) ∧ (qs ++ ls).Perm (List.range 8) ∧ qs.length = i)
        ⟨⟨_, rfl⟩, hpS, oS, List.range 8, [], hlS, hplS, List.Perm.refl _, rfl⟩ (fun i σ H' hi h => ?_) (fun σ H' h => ?_)
      · obtain ⟨⟨v, rfl⟩, hpB, oo, ls, qs, hl, hq, pm, ql⟩ := h
        have lens := pm.length_eq
        rw [List.length_append, List.length_range] at lens
        have hi : i < 3 + rr := by have := hi; omega
        refine ⟨_, rfl, .inl ⟨rfl, _, SqL.of hq⟩, _, rfl, .inl ⟨rfl, _, SqL.of hl⟩, _, rfl, _, rfl, l, _, rfl, .inl (SqL.of hl), p, ls.length, (by rw [List.length_map]; rfl), hpB, by omega, by omega, fun r H2 rl hp2 o2 => ?_⟩
        have hl2 := o2 l _ nlp hl
        have hq2 := o2 pl _ nplp hq
        refine ⟨l, _, (r : Int), r, _, rfl, rfl, hl2, by omega, by omega, seq_nat (by rw [List.length_map]; exact rl), ivs_get ls rl, ?_⟩
        refine ⟨pl, _, _, rfl, rfl, by rw [upd_ne npll]; exact hq2, by rw [List.length_map]; omega, ?_⟩
        have bag : BagAt (upd (upd H2 l (.lst ((ls.map iv).eraseIdx r))) pl (.lst (qs.map iv ++ [iv (ls.getD r 0)]))) p := by
          obtain ⟨m, d, c, e⟩ := hp2
          exact ⟨m, d, c, by rw [upd_ne nplp.symm, upd_ne nlp.symm]; exact e⟩
        refine ⟨⟨_, rfl⟩, bag, off_upd (off_upd (oo.trans o2) lH) plH, ls.eraseIdx r, qs ++ [ls.getD r 0], ?_, ?_, ?_, ?_⟩
        · rw [upd_ne npll.symm, upd_same, iv_erase]
        · rw [upd_same, List.map_append]
          rfl
        · rw [List.append_assoc]
          exact ((erase_perm ls r rl).append_left qs).trans pm
        · rw [List.length_append, ql]
          rfl
      · obtain ⟨⟨v, rfl⟩, hpB, oo, ls, qs, hl, hq, pm, ql⟩ := h
        have nd : qs.Nodup := (List.nodup_append.mp (pm.nodup_iff.mpr List.nodup_range)).1
        have lt8 : ∀ x ∈ qs, x < 8 := fun x hx => List.mem_range.mp (pm.mem_iff.mp (List.mem_append_left _ hx))
        have qlen : qs.length = 3 + rr := by rw [ql]; omega
        have okN : ∀ g, (∀ a b c, g = some (a, b, c) → a < 4 ∧ b < 4 ∧ c < 4 ∧ a ≠ c) → ActOk wd qs g := fun g hg => ⟨wl, fun e => by omega, fun e => by omega, nd, lt8, hg⟩
        refine ⟨_, rfl, p, 3, rfl, hpB, by decide, by decide, fun r3 H5 r3l hp5 o5 => ?_⟩
        refine ⟨_, _, rfl, rfl, _, rfl, ?_⟩
        have hq5 := o5 pl _ nplp hq
        refine ite2 (fun _ => ?_) (fun _ => ?_)
        · refine ⟨_, rfl, _, rfl, Nat.zero_le _, fun u nu => ?_⟩
          refine ⟨(by show 3 ≤ sizeLine; omega), fun t nt => ?_⟩
          have y1 := same_new (o := .tup []) nu
          have y2 := same_new (o := .tup [iv wd, .ref pl, .ref u]) nt
          have y := y1.trans y2
          exact q t wd qs none _ (hp5.ext y) ((oo.trans o5).trans (Same.off y)) ⟨pl, u, off_none ((oo.trans o5).trans (Same.off y1)) (bag_new (hp5.ext y1) nt) nt, plH, off_none (oo.trans o5) (bag_new hp5 nu) nu, upd_same, y _ _ hq5, y2 _ _ (new_at nu)⟩ (okN none fun a b c e => by cases e)
        · refine ⟨_, rfl, p, 4, rfl, hp5, by decide, by decide, fun ga H6 gal hp6 o6 => ?_⟩
          refine ⟨_, rfl, p, 4, rfl, hp6, by decide, by decide, fun gb H7 gbl hp7 o7 => ?_⟩
          refine ⟨_, rfl, p, 3, rfl, hp7, by decide, by decide, fun gc H8 gcl hp8 o8 => ⟨_, _, _, rfl, ?_⟩⟩
          have hq8 := o8 pl _ nplp (o7 pl _ nplp (o6 pl _ nplp hq5))
          refine ⟨_, rfl, _, rfl, _, rfl, _, rfl, _, rfl, _, _, rfl, rfl, _, rfl, _, _, rfl, rfl, .inl ⟨_, rfl, _, _, rfl, rfl, (by show (0 : Int) < 4; decide), ?_⟩⟩
          have em : ((ga : Int) + 1 + (gc : Int)) % 4 = (((ga + 1 + gc) % 4 : Nat) : Int) := by omega
          refine ⟨(by show 3 ≤ sizeLine; omega), fun u nu => ?_⟩
          refine ⟨(by show 3 ≤ sizeLine; omega), fun t nt => ?_⟩
          have y1 := same_new (o := .tup [.int (ga : Int), .int (gb : Int), .int (((ga : Int) + 1 + (gc : Int)) % 4)]) nu
          have y2 := same_new (o := .tup [iv wd, .ref pl, .ref u]) nt
          have y := y1.trans y2
          exact q t wd qs (some (ga, gb, (ga + 1 + gc) % 4)) _ (hp8.ext y) (((((oo.trans o5).trans o6).trans o7).trans o8).trans (Same.off y)) ⟨pl, u, off_none (((((oo.trans o5).trans o6).trans o7).trans o8).trans (Same.off y1)) (bag_new (hp8.ext y1) nt) nt, plH, off_none ((((oo.trans o5).trans o6).trans o7).trans o8) (bag_new hp8 nu) nu, upd_same, y _ _ hq8, ((y2 _ _ (new_at nu)).trans (congrArg (fun z => some (HO.tup [V.int (ga : Int), V.int (gb : Int), V.int z])) em))⟩ (okN _ fun a b c e => by
            cases e
            exact ⟨gal, gbl, Nat.mod_lt _ (by decide), by omega⟩)
    · have w3 : ¬ wd = 3 := fun e => e3 (decide_eq_true (by rw [e]; rfl))
      refine ⟨_, rfl, by omega, by omega, ?_⟩
      have hpS := hp3
      have oS := o3
      have hlS := hl3
      have hplS := hpl3
      have hn8 : 2 ≤ 8 := by omega
      refine for_range (lo := 0) (fun i σ H' => (∃ v, σ = [some (.ref p), some (iv wd), some (.ref l), some (.ref pl), v, none, none, none]) ∧ BagAt H' p ∧ Off p H H' ∧ ∃ ls qs : List Nat, H' l = some (.lst (ls.map iv)) ∧ H' pl = some (.lst (qs.map iv)) ∧ (qs ++ ls).Perm (List.range 8) ∧ qs.length = i)
        ⟨⟨_, rfl⟩, hpS, oS, List.range 8, [], hlS, hplS, List.Perm.refl _, rfl⟩ (fun i σ H' hi h => ?_) (fun σ H' h => ?_)
      · obtain ⟨⟨v, rfl⟩, hpB, oo, ls, qs, hl, hq, pm, ql⟩ := h
        have lens := pm.length_eq
        rw [List.length_append, List.length_range] at lens
        have hi : i < 2 := by have := hi; omega
        refine ⟨_, rfl, .inl ⟨rfl, _, SqL.of hq⟩, _, rfl, .inl ⟨rfl, _, SqL.of hl⟩, _, rfl, _, rfl, l, _, rfl, .inl (SqL.of hl), p, ls.length, (by rw [List.length_map]; rfl), hpB, by omega, by omega, fun r H2 rl hp2 o2 => ?_⟩
        have hl2 := o2 l _ nlp hl
        have hq2 := o2 pl _ nplp hq
        refine ⟨l, _, (r : Int), r, _, rfl, rfl, hl2, by omega, by omega, seq_nat (by rw [List.length_map]; exact rl), ivs_get ls rl, ?_⟩
        refine ⟨pl, _, _, rfl, rfl, by rw [upd_ne npll]; exact hq2, by rw [List.length_map]; omega, ?_⟩
        have bag : BagAt (upd (upd H2 l (.lst ((ls.map iv).eraseIdx r))) pl (.lst (qs.map iv ++ [iv (ls.getD r 0)]))) p := by
          obtain ⟨m, d, c, e⟩ := hp2
          exact ⟨m, d, c, by rw [upd_ne nplp.symm, upd_ne nlp.symm]; exact e⟩
        refine ⟨⟨_, rfl⟩, bag, off_upd (off_upd (oo.trans o2) lH) plH, ls.eraseIdx r, qs ++ [ls.getD r 0], ?_, ?_, ?_, ?_⟩
        · rw [upd_ne npll.symm, upd_same, iv_erase]
        · rw [upd_same, List.map_append]
          rfl
        · rw [List.append_assoc]
          exact ((erase_perm ls r rl).append_left qs).trans pm
        · rw [List.length_append, ql]
          rfl
      · obtain ⟨⟨v, rfl⟩, hpB, oo, ls, qs, hl, hq, pm, ql⟩ := h
        have nd : qs.Nodup := (List.nodup_append.mp (pm.nodup_iff.mpr List.nodup_range)).1
        have lt8 : ∀ x ∈ qs, x < 8 := fun x hx => List.mem_range.mp (pm.mem_iff.mp (List.mem_append_left _ hx))
        have qlen : qs.length = 2 := by rw [ql]; omega
        have okN : ∀ g, (∀ a b c, g = some (a, b, c) → a < 4 ∧ b < 4 ∧ c < 4 ∧ a ≠ c) → ActOk wd qs g := fun g hg => ⟨wl, fun e => by omega, fun e => by omega, nd, lt8, hg⟩
        refine ⟨_, rfl, p, 3, rfl, hpB, by decide, by decide, fun r3 H5 r3l hp5 o5 => ?_⟩
        refine ⟨_, _, rfl, rfl, _, rfl, ?_⟩
        have hq5 := o5 pl _ nplp hq
        refine ite2 (fun _ => ?_) (fun _ => ?_)
        · refine ⟨_, rfl, _, rfl, Nat.zero_le _, fun u nu => ?_⟩
          refine ⟨(by show 3 ≤ sizeLine; omega), fun t nt => ?_⟩
          have y1 := same_new (o := .tup []) nu
          have y2 := same_new (o := .tup [iv wd, .ref pl, .ref u]) nt
          have y := y1.trans y2
          exact q t wd qs none _ (hp5.ext y) ((oo.trans o5).trans (Same.off y)) ⟨pl, u, off_none ((oo.trans o5).trans (Same.off y1)) (bag_new (hp5.ext y1) nt) nt, plH, off_none (oo.trans o5) (bag_new hp5 nu) nu, upd_same, y _ _ hq5, y2 _ _ (new_at nu)⟩ (okN none fun a b c e => by cases e)
        · refine ⟨_, rfl, p, 4, rfl, hp5, by decide, by decide, fun ga H6 gal hp6 o6 => ?_⟩
          refine ⟨_, rfl, p, 4, rfl, hp6, by decide, by decide, fun gb H7 gbl hp7 o7 => ?_⟩
          refine ⟨_, rfl, p, 3, rfl, hp7, by decide, by decide, fun gc H8 gcl hp8 o8 => ⟨_, _, _, rfl, ?_⟩⟩
          have hq8 := o8 pl _ nplp (o7 pl _ nplp (o6 pl _ nplp hq5))
          refine ⟨_, rfl, _, rfl, _, rfl, _, rfl, _, rfl, _, _, rfl, rfl, _, rfl, _, _, rfl, rfl, .inl ⟨_, rfl, _, _, rfl, rfl, (by show (0 : Int) < 4; decide), ?_⟩⟩
          have em : ((ga : Int) + 1 + (gc : Int)) % 4 = (((ga + 1 + gc) % 4 : Nat) : Int) := by omega
          refine ⟨(by show 3 ≤ sizeLine; omega), fun u nu => ?_⟩
          refine ⟨(by show 3 ≤ sizeLine; omega), fun t nt => ?_⟩
          have y1 := same_new (o := .tup [.int (ga : Int), .int (gb : Int), .int (((ga : Int) + 1 + (gc : Int)) % 4)]) nu
          have y2 := same_new (o := .tup [iv wd, .ref pl, .ref u]) nt
          have y := y1.trans y2
          exact q t wd qs (some (ga, gb, (ga + 1 + gc) % 4)) _ (hp8.ext y) (((((oo.trans o5).trans o6).trans o7).trans o8).trans (Same.off y)) ⟨pl, u, off_none (((((oo.trans o5).trans o6).trans o7).trans o8).trans (Same.off y1)) (bag_new (hp8.ext y1) nt) nt, plH, off_none ((((oo.trans o5).trans o6).trans o7).trans o8) (bag_new hp8 nu) nu, upd_same, y _ _ hq8, ((y2 _ _ (new_at nu)).trans (congrArg (fun z => some (HO.tup [V.int (ga : Int), V.int (gb : Int), V.int z])) em))⟩ (okN _ fun a b c e => by
            cases e
            exact ⟨gal, gbl, Nat.mod_lt _ (by decide), by omega⟩)
end
end Sq.N3
namespace Sq.N3
open PySem L2 TL
/-! ### the text of a program and what is read of it -/
/-- nests whose texts are as the law makes them -/
structure NestT (n : NestD) : Prop where
  l1 : n.1.length ≤ 40
  l2 : n.2.1.length ≤ 40
  c1 : ∀ c ∈ tl n.1, c < 128
  c2 : ∀ c ∈ tl n.2.1, c < 128
  n1 : 10 ∉ tl n.1
  n2 : 10 ∉ tl n.2.1
  b1 : loopB obs n.1 = true
  b2 : loopB (obs ++ ibs) n.2.1 = true
  dl : n.2.2.length ≤ 6
  ds : ∀ d ∈ n.2.2, DeedRow d
theorem NestT.ok {n : NestD} (h : NestT n) : NestOk n := by
  have big : 100 ≤ sizeLine := by decide
  have h1 := h.l1
  have h2 := h.l2
  exact ⟨by omega, by omega, h.b1, h.b2, fun d hd => Nat.le_trans (h.ds d hd).ln (by decide), fw_none _ _ _ (fun b hb => by obtain ⟨d, hd, rfl⟩ := List.mem_map.mp hb; exact (h.ds d hd).ok) (by rw [List.length_map]; have := h.dl; omega)⟩
def rowsOf (n : NestD) : List Str := (ofrom ++ n.1) :: (jfrom ++ n.2.1) :: n.2.2
def progT (ns : List NestD) : Str := Txt.join "\n" (ns.map rowsOf).flatten
theorem nestOf_rows (n : NestD) : nestOf (rowsOf n) = n := by
  show (Txt.removeprefix (ofrom ++ n.1) ofrom, Txt.removeprefix (jfrom ++ n.2.1) jfrom, n.2.2) = n
  rw [cut_app, cut_app]
theorem nestB_rows {n : NestD} (h : NestT n) : nestB (rowsOf n) = true := by
  unfold rowsOf
  rw [nestB_cons, behind_app, behind_app, show okLoop obs (.str n.1) = true from h.b1, show okLoop (obs ++ ibs) (.str n.2.1) = true from h.b2, h.ok.ds.2]
  rfl
theorem j_not (x : Str) : Txt.startswith (jfrom ++ x) ofrom = false := by
  rw [starts_pre, tl_append]
  have e1 : tl ofrom = [105, 32, 102, 114, 111, 109, 32] := by decide +kernel
  have e2 : tl jfrom = [106, 32, 102, 114, 111, 109, 32] := by decide +kernel
  rw [e1, e2]
  rfl
theorem add_first {gs : List (List Str)} {r : Str} (h : Txt.startswith r ofrom = true) : addRow gs r = gs ++ [[r]] := by
  unfold addRow
  rw [if_pos (.inr h)]
theorem add_next {gs : List (List Str)} {g : List Str} {r : Str} (h : Txt.startswith r ofrom = false) : addRow (gs ++ [g]) r = gs ++ [g ++ [r]] := by
  unfold addRow
  rw [if_neg (fun e => e.elim (fun e => by simp at e) (fun e => by rw [h] at e; cases e)), List.dropLast_concat, List.getLast?_concat]
  rfl
theorem add_all {gs : List (List Str)} : ∀ (rs g : List Str), (∀ r ∈ rs, Txt.startswith r ofrom = false) → rs.foldl addRow (gs ++ [g]) = gs ++ [g ++ rs]
  | [], g, _ => by rw [List.append_nil]; rfl
  | r :: rs, g, h => by
    show rs.foldl addRow (addRow (gs ++ [g]) r) = _
    rw [add_next (h r List.mem_cons_self), add_all rs (g ++ [r]) fun x hx => h x (List.mem_cons_of_mem _ hx), List.append_assoc]
    rfl
theorem add_nest {gs : List (List Str)} {n : NestD} (h : NestT n) : (rowsOf n).foldl addRow gs = gs ++ [rowsOf n] := by
  show ((jfrom ++ n.2.1) :: n.2.2).foldl addRow (addRow gs (ofrom ++ n.1)) = _
  rw [add_first (starts_app ofrom n.1), add_all]
  · rfl
  · intro r hr
    rcases List.mem_cons.mp hr with e | e
    · rw [e]
      exact j_not _
    · exact (h.ds r e).st
theorem add_nests : ∀ (ns : List NestD) (gs : List (List Str)), (∀ n ∈ ns, NestT n) → (ns.map rowsOf).flatten.foldl addRow gs = gs ++ ns.map rowsOf
  | [], gs, _ => by simp
  | n :: ns, gs, h => by
    rw [List.map_cons, List.flatten_cons, List.foldl_append, add_nest (h n List.mem_cons_self), add_nests ns _ fun m hm => h m (List.mem_cons_of_mem _ hm), List.append_assoc]
    rfl
theorem rows_nl {n : NestD} (h : NestT n) : ∀ r ∈ rowsOf n, 10 ∉ tl r ∧ r.length ≤ 200 := by
  have e1 : 10 ∉ tl ofrom := by decide +kernel
  have e2 : 10 ∉ tl jfrom := by decide +kernel
  have l1 : ofrom.length = 7 := by decide +kernel
  have l2 : jfrom.length = 7 := by decide +kernel
  have h1 := h.l1
  have h2 := h.l2
  intro r hr
  rcases List.mem_cons.mp hr with e | e
  · rw [e, tl_append, str_len_append]
    exact ⟨fun m => (List.mem_append.mp m).elim e1 h.n1, by omega⟩
  · rcases List.mem_cons.mp e with e | e
    · rw [e, tl_append, str_len_append]
      exact ⟨fun m => (List.mem_append.mp m).elim e2 h.n2, by omega⟩
    · exact ⟨(h.ds r e).nl, (h.ds r e).ln⟩
theorem flat_all {ns : List NestD} (h : ∀ n ∈ ns, NestT n) : ∀ r ∈ (ns.map rowsOf).flatten, 10 ∉ tl r ∧ r.length ≤ 200 := by
  intro r hr
  obtain ⟨g, hg, hr⟩ := List.mem_flatten.mp hr
  obtain ⟨n, hn, rfl⟩ := List.mem_map.mp hg
  exact rows_nl (h n hn) r hr
theorem flat_len : ∀ {ns : List NestD}, (∀ n ∈ ns, NestT n) → (ns.map rowsOf).flatten.length ≤ 8 * ns.length
  | [], _ => Nat.zero_le _
  | n :: ns, h => by
    have ih := flat_len (ns := ns) fun m hm => h m (List.mem_cons_of_mem _ hm)
    rw [List.map_cons, List.flatten_cons, List.length_append, List.length_cons]
    have h1 : (rowsOf n).length = n.2.2.length + 2 := rfl
    have h2 := (h n List.mem_cons_self).dl
    omega
theorem prog_split {ns : List NestD} (h : ∀ n ∈ ns, NestT n) (hne : ns ≠ []) : Txt.split (progT ns) "\n" = (ns.map rowsOf).flatten := by
  refine split_join (s := 10) (S := []) (by decide +kernel) (by decide +kernel) ?_ fun r hr => (flat_all h r hr).1
  cases ns with
  | nil => exact absurd rfl hne
  | cons n ns => exact List.cons_ne_nil _ _
theorem prog_len {ns : List NestD} (h : ∀ n ∈ ns, NestT n) (hl : ns.length ≤ 5) : (progT ns).length ≤ 8040 := by
  rw [len_tl]
  unfold progT
  rw [join_eq, tl_join, show tl ("\n" : Str) = [10] from by decide +kernel]
  have z := joinL_len (S := [10]) (m := 200) (ps := ((ns.map rowsOf).flatten).map tl) fun p hp => by
    obtain ⟨r, hr, rfl⟩ := List.mem_map.mp hp
    have := (flat_all h r hr).2
    rw [len_tl] at this
    exact this
  rw [List.length_map] at z
  have y := flat_len h
  have : ([10] : List Nat).length = 1 := rfl
  rw [this] at z
  have k : (ns.map rowsOf).flatten.length * (200 + 1) ≤ 40 * 201 := Nat.mul_le_mul_right _ (by omega)
  omega
theorem prog_ne {ns : List NestD} (hne : ns ≠ []) : progT ns ≠ "" := by
  intro e
  have e1 := congrArg tl e
  unfold progT at e1
  rw [join_eq, tl_join] at e1
  cases ns with
  | nil => exact hne rfl
  | cons n ns =>
    have e2 : tl (ofrom ++ n.1) ≠ [] := by
      rw [tl_append, show tl ofrom = [105, 32, 102, 114, 111, 109, 32] from by decide +kernel]
      exact List.cons_ne_nil _ _
    have e3 := congrArg List.head? e1
    rw [List.map_cons, List.flatten_cons] at e3
    have e4 := joinL_head (S := tl ("\n" : Str)) e2 (((jfrom ++ n.2.1) :: n.2.2 ++ (ns.map rowsOf).flatten).map tl)
    have e5 : (tl ("" : Str)).head? = none := by decide +kernel
    rw [e5] at e3
    have e6 : (tl (ofrom ++ n.1)).head? = none := e4.symm.trans e3
    rw [tl_append, show tl ofrom = [105, 32, 102, 114, 111, 109, 32] from by decide +kernel] at e6
    cases e6
theorem prog_parts {ns : List NestD} (h : ∀ n ∈ ns, NestT n) : partsOf (progT ns) = ns.map rowsOf := by
  unfold partsOf
  by_cases hne : ns = []
  · rw [hne]
    rfl
  · rw [if_neg (prog_ne hne), prog_split h hne]
    exact add_nests ns [] h
theorem prog_nests {ns : List NestD} (h : ∀ n ∈ ns, NestT n) : nestsOf (progT ns) = ns := by
  unfold nestsOf
  rw [prog_parts h, List.map_map]
  have e : (nestOf ∘ rowsOf) = id := funext nestOf_rows
  rw [e, List.map_id]
theorem prog_right {ns : List NestD} (h : ∀ n ∈ ns, NestT n) (hl : ns.length ≤ 4) : progB (progT ns) = true := by
  unfold progB
  rw [prog_parts h, List.length_map, decide_eq_true hl, Bool.true_and, List.all_map, List.all_eq_true]
  exact fun n hn => nestB_rows (h n hn)
theorem split_empty : Txt.split "" "\n" = [("" : Str)] := by
  exact split_join (y := "\n") (s := 10) (S := []) (by decide +kernel) (by decide +kernel) (parts := [("" : Str)]) (List.cons_ne_nil _ _) fun p hp => by
    rw [List.mem_singleton.mp hp]
    decide +kernel
theorem prog_ok {ns : List NestD} (h : ∀ n ∈ ns, NestT n) (hl : ns.length ≤ 5) : TextOk (progT ns) := by
  have h1 := prog_len h hl
  have big : 10000 ≤ sizeLine := by decide
  by_cases hne : ns = []
  · rw [hne]
    have e : progT [] = "" := rfl
    rw [e]
    have l0 : ("" : Str).length = 0 := by decide +kernel
    refine ⟨by omega, by rw [split_empty]; exact Nat.succ_le_of_lt (by decide), fun r hr => ?_⟩
    rw [split_empty] at hr
    rw [List.mem_singleton.mp hr, l0]
    exact Nat.zero_le _
  · have h2 := flat_len h
    exact ⟨by omega, by rw [prog_split h hne]; omega, fun r hr => by rw [prog_split h hne] at hr; exact Nat.le_trans (flat_all h r hr).2 (by decide)⟩
/-! ### data to be shown -/
theorem strs_show : ∀ ds : List Str, PyData.showableAll (ds.map PyData.str) = true
  | [] => by rw [List.map_nil]; simp [PyData.showableAll]
  | d :: ds => by rw [List.map_cons]; simp [PyData.showableAll, PyData.showable, strs_show ds]
theorem strs_dict : ∀ ds : List Str, PyData.hasDictAll (ds.map PyData.str) = false
  | [] => by rw [List.map_nil]; simp [PyData.hasDictAll]
  | d :: ds => by rw [List.map_cons]; simp [PyData.hasDictAll, PyData.hasDict, strs_dict ds]
theorem strs_depth : ∀ ds : List Str, PyData.depthAll (ds.map PyData.str) ≤ 1
  | [] => by rw [List.map_nil]; simp [PyData.depthAll]
  | d :: ds => by rw [List.map_cons]; simp [PyData.depthAll, PyData.depth, strs_depth ds]
theorem strs_short : ∀ ds : List Str, (∀ d ∈ ds, ∀ c ∈ tl d, c < 128) → PyData.leavesShortAll 8 (ds.map PyData.str) = true
  | [], _ => by rw [List.map_nil]; simp [PyData.leavesShortAll]
  | d :: ds, h => by
    have h1 : d.cps.toList.all (fun c => decide (c < 16 ^ 8)) = true := List.all_eq_true.mpr fun c hc => decide_eq_true (Nat.lt_trans (h d List.mem_cons_self c hc) (by decide))
    rw [List.map_cons]
    simp only [PyData.leavesShortAll, PyData.leavesShort, h1, Bool.true_and]
    exact strs_short ds fun e he => h e (List.mem_cons_of_mem _ he)
theorem strs_bulk {m : Nat} : ∀ ds : List Str, (∀ d ∈ ds, d.length ≤ m) → PyData.bulkAll (ds.map PyData.str) ≤ (m + 1) * ds.length
  | [], _ => by rw [List.map_nil]; simp [PyData.bulkAll]
  | d :: ds, h => by
    have ih := strs_bulk (m := m) ds fun e he => h e (List.mem_cons_of_mem _ he)
    have h1 : d.cps.size ≤ m := h d List.mem_cons_self
    rw [List.map_cons, List.length_cons, Nat.mul_add]
    simp only [PyData.bulkAll, PyData.bulk]
    omega
def dR (n : NestD) : PyData := .list [.str n.1, .str n.2.1, .tuple (n.2.2.map .str), .int (n.2.2.length : Int)]
def dT (ds : List Str) : PyData := .tuple (ds.map .str)
structure Shows (d : PyData) : Prop where
  sh : d.showable = true
  di : d.hasDict = false
  de : d.depth ≤ 20
  ln : d.shown.length ≤ sizeLine
theorem int_short : ∀ n : _root_.Fin 7, (PyData.shown (.int (n.val : Int))).length ≤ 8 := by decide +kernel
theorem dT_ok {n : NestD} (h : NestT n) : Shows (dT n.2.2) := by
  have dl := h.dl
  have hd := strs_depth n.2.2
  refine ⟨by simp [dT, PyData.showable, strs_show], by simp [dT, PyData.hasDict, strs_dict], by simp only [dT, PyData.depth]; omega, ?_⟩
  have z := PyData.shown_le_bulk 8 (Nat.le_refl _) (dT n.2.2) (by simp only [dT, PyData.leavesShort]; exact strs_short _ fun d hd => (h.ds d hd).cp)
  have b := strs_bulk (m := 200) n.2.2 fun d hd => (h.ds d hd).ln
  have e : (dT n.2.2).bulk = PyData.bulkAll (n.2.2.map .str) := by simp only [dT, PyData.bulk]
  have k : (200 + 1) * n.2.2.length ≤ 201 * 6 := Nat.mul_le_mul_left _ dl
  have big : 20000 ≤ sizeLine := by decide
  rw [e] at z
  omega
theorem log_small {n : Nat} (h : n ≤ 6) : n.log2 < 1920 :=
  have k : ∀ i : _root_.Fin 7, i.val.log2 < 1920 := by decide +kernel
  k ⟨n, by omega⟩
theorem dR_ok {n : NestD} (h : NestT n) : Shows (dR n) := by
  have dl := h.dl
  have hd := strs_depth n.2.2
  have h1 : n.1.cps.toList.all (fun c => decide (c < 16 ^ 8)) = true := List.all_eq_true.mpr fun c hc => decide_eq_true (Nat.lt_trans (h.c1 c hc) (by decide))
  have h2 : n.2.1.cps.toList.all (fun c => decide (c < 16 ^ 8)) = true := List.all_eq_true.mpr fun c hc => decide_eq_true (Nat.lt_trans (h.c2 c hc) (by decide))
  have h3 := strs_short n.2.2 fun d hd => (h.ds d hd).cp
  have h4 : (PyData.shown (.int (n.2.2.length : Int))).length ≤ 8 := int_short ⟨n.2.2.length, by omega⟩
  refine ⟨by simp [dR, PyData.showable, PyData.showableAll, strs_show]; exact log_small dl, by simp [dR, PyData.hasDict, PyData.hasDictAll, strs_dict], by simp only [dR, PyData.depth, PyData.depthAll]; omega, ?_⟩
  have z := PyData.shown_le_bulk 8 (Nat.le_refl _) (dR n) (by simp only [dR, PyData.leavesShort, PyData.leavesShortAll, h1, h2, h3, decide_eq_true h4, Bool.and_true])
  have b := strs_bulk (m := 200) n.2.2 fun d hd => (h.ds d hd).ln
  have e : (dR n).bulk = n.1.cps.size + 1 + (n.2.1.cps.size + 1 + (PyData.bulkAll (n.2.2.map .str) + 1 + (0 + 1 + 0))) := by simp only [dR, PyData.bulk, PyData.bulkAll]
  have k : (200 + 1) * n.2.2.length ≤ 201 * 6 := Nat.mul_le_mul_left _ dl
  have l1 : n.1.cps.size ≤ 40 := h.l1
  have l2 : n.2.1.cps.size ≤ 40 := h.l2
  have big : 20000 ≤ sizeLine := by decide
  rw [e] at z
  omega
end Sq.N3
namespace Sq.N3
open PySem L2 TL
abbrev sMadeN : Stmt := top 43
/-- all that is known of the class Nest -/
structure NestK (P : Program) (w : World) (K : PySem.W.Frag) (mg : Str → Option Value) (base : Heap) (C : Addr) : Prop where
  nc : Nc K C
  isn : Isn K C
  mN : mg "Nest" = some (.ref C)
  mks : ∃ fi, Mk K C fi ∧ FnR P w K mg base CX0 4 fi (spMade K C)
  p1 : ∃ p g d, PropOf K C "outer" p g ∧ FnOk P w K mg base CX0 1 g d ["self"] (getSp C "_outer") ∧ Binds K d ["self"] []
  p2 : ∃ p g d, PropOf K C "inner" p g ∧ FnOk P w K mg base CX0 1 g d ["self"] (getSp C "_inner") ∧ Binds K d ["self"] []
  p3 : ∃ p g d, PropOf K C "deeds" p g ∧ FnOk P w K mg base CX0 1 g d ["self"] (getSp C "_deeds") ∧ Binds K d ["self"] []
  len : ∃ f, PySem.W.findIn K (.ref C) "__len__" = some (some (.ref f)) ∧ PySem.W.isFn K (.ref f) = true ∧ FnR P w K mg base CX0 1 f (spNLen C)
  bool : ∃ f, PySem.W.findIn K (.ref C) "__bool__" = some (some (.ref f)) ∧ PySem.W.isFn K (.ref f) = true ∧ FnR P w K mg base CX0 1 f (spNBool C)
  eq : ∃ f, PySem.W.findIn K (.ref C) "__eq__" = some (some (.ref f)) ∧ PySem.W.isFn K (.ref f) = true ∧ FnR P w K mg base CX0 1 f (spNEq C)
def spMadeN (K : PySem.W.Frag) (C : Addr) : Sp := fun vs H Q _ => ∃ (n : NestD) (l : Addr), vs = [.str n.1, .str n.2.1, .ref l] ∧ SqL K H l (n.2.2.map V.str) ∧ NestOk n ∧ ∀ (x : Addr) (H' : Hp), Same H H' → NestIs C H' x n → Q (.ref x) H'
section
variable {P : Program} {w : World} {K : PySem.W.Frag} {mg : Str → Option Value} {base : Heap} {C : Addr}
theorem scMadeN : FnScope ["_law_over", "_law_under", "_law_deeds", "_law_a", "_law_b", "_law_c", "_law_d", "_law_e", "_law_f", "_law_g", "_law_h"] ["_law_over", "_law_under", "_law_deeds"] (defScope sMadeN) := ⟨rfl, rfl, rfl, by decide +kernel, rfl, by decide +kernel, by decide +kernel⟩
theorem ok_madeN {f : Addr} {fd : FuncData} (F : Fun K "_law_made_nest" "_law_made_nest" sMadeN f fd) (T : Bt mg) (hli : mg "list" = none) (NK : NestK P w K mg base C) : FnOk P w K mg base CX0 6 f fd ["_law_over", "_law_under", "_law_deeds"] (spMadeN K C) := by
  obtain ⟨fi, mk, GR⟩ := NK.mks
  have mN := NK.mN
  refine F.ok scMadeN (fun vs H Q E h => ?_) (fun cdv A outer s H vs Q E hr h => ?_)
  · obtain ⟨n, l, rfl, _⟩ := h
    rfl
  · obtain ⟨⟨o, i, ds⟩, l, rfl, hl, ok, q⟩ := h
    have big : 1000 ≤ sizeLine := by decide
    have hl : SqL K H l (ds.map V.str) := hl
    have h6 : ds.length ≤ 6 := deeds_len ok.ds
    refine ⟨_, pss_cons (ps_asg (pe_slice sl_list (pe_op op_cat (pe_callTy call_list_of (by rfl) hli (by decide +kernel) (pa_cons (pv 2) pa_nil)) (pe_op op_rep (pe_lst (pa_cons pe_non pa_nil)) pe_int)) po_none (po_some pe_int)) (pg_unl rfl (pgs_cons (pg_name (i := 3) scMadeN.nd rfl (.inl rfl)) (pgs_cons (pg_name (i := 4) scMadeN.nd rfl (.inl rfl)) (pgs_cons (pg_name (i := 5) scMadeN.nd rfl (.inl rfl)) (pgs_cons (pg_name (i := 6) scMadeN.nd rfl (.inl rfl)) (pgs_cons (pg_name (i := 7) scMadeN.nd rfl (.inl rfl)) (pgs_cons (pg_name (i := 8) scMadeN.nd rfl (.inl rfl)) (pgs_cons (pg_name (i := 9) scMadeN.nd rfl (.inl rfl)) (pgs_cons (pg_name (i := 10) scMadeN.nd rfl (.inl rfl)) pgs_nil))))))))))
      (pss_cons (ps_if (pt_cmpR op_eq (pe_callB call_len_seq (by rfl) T.len PySem.boot_len (pa_cons (pv 2) pa_nil)) pe_int (nomark _)) (pss_one (ps_ret (StX.pe_makeR mk GR hr (by rfl) mN pass0 (pa_cons (pv 0) (pa_cons (pv 1) pa_nil))))) pss_nil)
      (pss_cons (ps_if (pt_cmpR op_eq (pe_callB call_len_seq (by rfl) T.len PySem.boot_len (pa_cons (pv 2) pa_nil)) pe_int (nomark _)) (pss_one (ps_ret (StX.pe_makeR mk GR hr (by rfl) mN pass0 (pa_cons (pv 0) (pa_cons (pv 1) (pa_cons (pv 3) pa_nil)))))) pss_nil)
      (pss_cons (ps_if (pt_cmpR op_eq (pe_callB call_len_seq (by rfl) T.len PySem.boot_len (pa_cons (pv 2) pa_nil)) pe_int (nomark _)) (pss_one (ps_ret (StX.pe_makeR mk GR hr (by rfl) mN pass0 (pa_cons (pv 0) (pa_cons (pv 1) (pa_cons (pv 3) (pa_cons (pv 4) pa_nil))))))) pss_nil)
      (pss_cons (ps_if (pt_cmpR op_eq (pe_callB call_len_seq (by rfl) T.len PySem.boot_len (pa_cons (pv 2) pa_nil)) pe_int (nomark _)) (pss_one (ps_ret (StX.pe_makeR mk GR hr (by rfl) mN pass0 (pa_cons (pv 0) (pa_cons (pv 1) (pa_cons (pv 3) (pa_cons (pv 4) (pa_cons (pv 5) pa_nil)))))))) pss_nil)
      (pss_cons (ps_if (pt_cmpR op_eq (pe_callB call_len_seq (by rfl) T.len PySem.boot_len (pa_cons (pv 2) pa_nil)) pe_int (nomark _)) (pss_one (ps_ret (StX.pe_makeR mk GR hr (by rfl) mN pass0 (pa_cons (pv 0) (pa_cons (pv 1) (pa_cons (pv 3) (pa_cons (pv 4) (pa_cons (pv 5) (pa_cons (pv 6) pa_nil))))))))) pss_nil)
      (pss_cons (ps_if (pt_cmpR op_eq (pe_callB call_len_seq (by rfl) T.len PySem.boot_len (pa_cons (pv 2) pa_nil)) pe_int (nomark _)) (pss_one (ps_ret (StX.pe_makeR mk GR hr (by rfl) mN pass0 (pa_cons (pv 0) (pa_cons (pv 1) (pa_cons (pv 3) (pa_cons (pv 4) (pa_cons (pv 5) (pa_cons (pv 6) (pa_cons (pv 7) pa_nil)))))))))) pss_nil)
      (pss_cons (ps_if (pt_cmpR op_eq (pe_callB call_len_seq (by rfl) T.len PySem.boot_len (pa_cons (pv 2) pa_nil)) pe_int (nomark _)) (pss_one (ps_ret (StX.pe_makeR mk GR hr (by rfl) mN pass0 (pa_cons (pv 0) (pa_cons (pv 1) (pa_cons (pv 3) (pa_cons (pv 4) (pa_cons (pv 5) (pa_cons (pv 6) (pa_cons (pv 7) (pa_cons (pv 8) pa_nil))))))))))) pss_nil)
      (pss_cons (ps_if (pt_cmpR op_eq (pe_callB call_len_seq (by rfl) T.len PySem.boot_len (pa_cons (pv 2) pa_nil)) pe_int (nomark _)) (pss_one (ps_ret (StX.pe_makeR mk GR hr (by rfl) mN pass0 (pa_cons (pv 0) (pa_cons (pv 1) (pa_cons (pv 3) (pa_cons (pv 4) (pa_cons (pv 5) (pa_cons (pv 6) (pa_cons (pv 7) (pa_cons (pv 8) (pa_cons (pv 9) pa_nil)))))))))))) pss_nil)
      (pss_one (ps_ret (StX.pe_makeR mk GR hr (by rfl) mN pass0 (pa_cons (pv 0) (pa_cons (pv 1) (pa_cons (pv 3) (pa_cons (pv 4) (pa_cons (pv 5) (pa_cons (pv 6) (pa_cons (pv 7) (pa_cons (pv 8) (pa_cons (pv 9) (pa_cons (pv 10) pa_nil))))))))))))))))))))), ?_⟩
    refine ⟨_, rfl, l, _, rfl, .inl hl, fun l1 nl1 => ?_⟩
    have x1 := same_new (o := .lst (ds.map V.str)) nl1
    refine ⟨(by show 1 ≤ sizeLine; omega), fun l2 nl2 => ?_⟩
    have x2 := same_new (o := .lst [.non]) nl2
    refine ⟨l2, _, _, rfl, rfl, upd_same, by decide, by decide, (by show 1 * 8 ≤ sizeLine; omega), fun l3 nl3 => ?_⟩
    have x3 := same_new (o := .lst [.non, .non, .non, .non, .non, .non, .non, .non]) nl3
    refine ⟨l1, l3, _, _, rfl, rfl, x3 _ _ (x2 _ _ upd_same), upd_same, (by rw [List.length_map]; show ds.length + 8 ≤ sizeLine; omega), fun l4 nl4 => ?_⟩
    have x4 := same_new (o := .lst (ds.map V.str ++ [.non, .non, .non, .non, .non, .non, .non, .non])) nl4
    refine ⟨_, rfl, l4, _, rfl, SqL.of upd_same, fun l5 nl5 => ?_⟩
    have x5 := same_new (o := .lst (cutV (ds.map V.str ++ [.non, .non, .non, .non, .non, .non, .non, .non]) none (some 8))) nl5
    have x := (((x1.trans x2).trans x3).trans x4).trans x5
    have hlx := hl.ext x
    match ds, ok, h6, hl, q, nl1, x1, nl2, x2, nl3, x3, nl4, x4, nl5, x5, x, hlx with
    | [], ok, h6, hl, q, nl1, x1, nl2, x2, nl3, x3, nl4, x4, nl5, x5, x, hlx =>
      refine ⟨l5, _, rfl, SqL.of upd_same, rfl, _, _, rfl, _, _, rfl, _, _, rfl, _, _, rfl, _, _, rfl, _, _, rfl, _, _, rfl, _, _, rfl, rfl, ?_⟩
      refine ⟨_, rfl, l, _, rfl, .inl hlx, rfl, _, rfl, ?_⟩
      refine iteT ?_
      refine ⟨_, rfl, _, rfl, fun y dy ny ndy _ => ?_⟩
      exact made_deeds (n := (o, i, [])) (R := fun H' => Q (.ref y) H') ny ndy ok fun H' s h => q y H' (x.trans s) h
    | [d0], ok, h6, hl, q, nl1, x1, nl2, x2, nl3, x3, nl4, x4, nl5, x5, x, hlx =>
      refine ⟨l5, _, rfl, SqL.of upd_same, rfl, _, _, rfl, _, _, rfl, _, _, rfl, _, _, rfl, _, _, rfl, _, _, rfl, _, _, rfl, _, _, rfl, rfl, ?_⟩
      refine ⟨_, rfl, l, _, rfl, .inl hlx, rfl, _, rfl, ?_⟩
      refine iteF ?_
      refine ⟨_, rfl, l, _, rfl, .inl hlx, rfl, _, rfl, ?_⟩
      refine iteT ?_
      refine ⟨_, rfl, _, rfl, _, rfl, fun y dy ny ndy _ => ?_⟩
      exact made_deeds (n := (o, i, [d0])) (R := fun H' => Q (.ref y) H') ny ndy ok fun H' s h => q y H' (x.trans s) h
    | [d0, d1], ok, h6, hl, q, nl1, x1, nl2, x2, nl3, x3, nl4, x4, nl5, x5, x, hlx =>
      refine ⟨l5, _, rfl, SqL.of upd_same, rfl, _, _, rfl, _, _, rfl, _, _, rfl, _, _, rfl, _, _, rfl, _, _, rfl, _, _, rfl, _, _, rfl, rfl, ?_⟩
      refine ⟨_, rfl, l, _, rfl, .inl hlx, rfl, _, rfl, ?_⟩
      refine iteF ?_
      refine ⟨_, rfl, l, _, rfl, .inl hlx, rfl, _, rfl, ?_⟩
      refine iteF ?_
      refine ⟨_, rfl, l, _, rfl, .inl hlx, rfl, _, rfl, ?_⟩
      refine iteT ?_
      refine ⟨_, rfl, _, rfl, _, rfl, _, rfl, fun y dy ny ndy _ => ?_⟩
      exact made_deeds (n := (o, i, [d0, d1])) (R := fun H' => Q (.ref y) H') ny ndy ok fun H' s h => q y H' (x.trans s) h
    | [d0, d1, d2], ok, h6, hl, q, nl1, x1, nl2, x2, nl3, x3, nl4, x4, nl5, x5, x, hlx =>
      refine ⟨l5, _, rfl, SqL.of upd_same, rfl, _, _, rfl, _, _, rfl, _, _, rfl, _, _, rfl, _, _, rfl, _, _, rfl, _, _, rfl, _, _, rfl, rfl, ?_⟩
      refine ⟨_, rfl, l, _, rfl, .inl hlx, rfl, _, rfl, ?_⟩
      refine iteF ?_
      refine ⟨_, rfl, l, _, rfl, .inl hlx, rfl, _, rfl, ?_⟩
      refine iteF ?_
      refine ⟨_, rfl, l, _, rfl, .inl hlx, rfl, _, rfl, ?_⟩
      refine iteF ?_
      refine ⟨_, rfl, l, _, rfl, .inl hlx, rfl, _, rfl, ?_⟩
      refine iteT ?_
      refine ⟨_, rfl, _, rfl, _, rfl, _, rfl, _, rfl, fun y dy ny ndy _ => ?_⟩
      exact made_deeds (n := (o, i, [d0, d1, d2])) (R := fun H' => Q (.ref y) H') ny ndy ok fun H' s h => q y H' (x.trans s) h
    | [d0, d1, d2, d3], ok, h6, hl, q, nl1, x1, nl2, x2, nl3, x3, nl4, x4, nl5, x5, x, hlx =>
      refine ⟨l5, _, rfl, SqL.of upd_same, rfl, _, _, rfl, _, _, rfl, _, _, rfl, _, _, rfl, _, _, rfl, _, _, rfl, _, _, rfl, _, _, rfl, rfl, ?_⟩
      refine ⟨_, rfl, l, _, rfl, .inl hlx, rfl, _, rfl, ?_⟩
      refine iteF ?_
      refine ⟨_, rfl, l, _, rfl, .inl hlx, rfl, _, rfl, ?_⟩
      refine iteF ?_
      refine ⟨_, rfl, l, _, rfl, .inl hlx, rfl, _, rfl, ?_⟩
      refine iteF ?_
      refine ⟨_, rfl, l, _, rfl, .inl hlx, rfl, _, rfl, ?_⟩
      refine iteF ?_
      refine ⟨_, rfl, l, _, rfl, .inl hlx, rfl, _, rfl, ?_⟩
      refine iteT ?_
      refine ⟨_, rfl, _, rfl, _, rfl, _, rfl, _, rfl, _, rfl, fun y dy ny ndy _ => ?_⟩
      exact made_deeds (n := (o, i, [d0, d1, d2, d3])) (R := fun H' => Q (.ref y) H') ny ndy ok fun H' s h => q y H' (x.trans s) h
    | [d0, d1, d2, d3, d4], ok, h6, hl, q, nl1, x1, nl2, x2, nl3, x3, nl4, x4, nl5, x5, x, hlx =>
      refine ⟨l5, _, rfl, SqL.of upd_same, rfl, _, _, rfl, _, _, rfl, _, _, rfl, _, _, rfl, _, _, rfl, _, _, rfl, _, _, rfl, _, _, rfl, rfl, ?_⟩
      refine ⟨_, rfl, l, _, rfl, .inl hlx, rfl, _, rfl, ?_⟩
      refine iteF ?_
      refine ⟨_, rfl, l, _, rfl, .inl hlx, rfl, _, rfl, ?_⟩
      refine iteF ?_
      refine ⟨_, rfl, l, _, rfl, .inl hlx, rfl, _, rfl, ?_⟩
      refine iteF ?_
      refine ⟨_, rfl, l, _, rfl, .inl hlx, rfl, _, rfl, ?_⟩
      refine iteF ?_
      refine ⟨_, rfl, l, _, rfl, .inl hlx, rfl, _, rfl, ?_⟩
      refine iteF ?_
      refine ⟨_, rfl, l, _, rfl, .inl hlx, rfl, _, rfl, ?_⟩
      refine iteT ?_
      refine ⟨_, rfl, _, rfl, _, rfl, _, rfl, _, rfl, _, rfl, _, rfl, fun y dy ny ndy _ => ?_⟩
      exact made_deeds (n := (o, i, [d0, d1, d2, d3, d4])) (R := fun H' => Q (.ref y) H') ny ndy ok fun H' s h => q y H' (x.trans s) h
    | [d0, d1, d2, d3, d4, d5], ok, h6, hl, q, nl1, x1, nl2, x2, nl3, x3, nl4, x4, nl5, x5, x, hlx =>
      refine ⟨l5, _, rfl, SqL.of upd_same, rfl, _, _, rfl, _, _, rfl, _, _, rfl, _, _, rfl, _, _, rfl, _, _, rfl, _, _, rfl, _, _, rfl, rfl, ?_⟩
      refine ⟨_, rfl, l, _, rfl, .inl hlx, rfl, _, rfl, ?_⟩
      refine iteF ?_
      refine ⟨_, rfl, l, _, rfl, .inl hlx, rfl, _, rfl, ?_⟩
      refine iteF ?_
      refine ⟨_, rfl, l, _, rfl, .inl hlx, rfl, _, rfl, ?_⟩
      refine iteF ?_
      refine ⟨_, rfl, l, _, rfl, .inl hlx, rfl, _, rfl, ?_⟩
      refine iteF ?_
      refine ⟨_, rfl, l, _, rfl, .inl hlx, rfl, _, rfl, ?_⟩
      refine iteF ?_
      refine ⟨_, rfl, l, _, rfl, .inl hlx, rfl, _, rfl, ?_⟩
      refine iteF ?_
      refine ⟨_, rfl, l, _, rfl, .inl hlx, rfl, _, rfl, ?_⟩
      refine iteT ?_
      refine ⟨_, rfl, _, rfl, _, rfl, _, rfl, _, rfl, _, rfl, _, rfl, _, rfl, fun y dy ny ndy _ => ?_⟩
      exact made_deeds (n := (o, i, [d0, d1, d2, d3, d4, d5])) (R := fun H' => Q (.ref y) H') ny ndy ok fun H' s h => q y H' (x.trans s) h
    | _ :: _ :: _ :: _ :: _ :: _ :: _ :: _, ok, h6, hl, q, nl1, x1, nl2, x2, nl3, x3, nl4, x4, nl5, x5, x, hlx => exact absurd h6 (by simp only [List.length_cons]; omega)
end
end Sq.N3
namespace Sq.N3
open PySem L2 TL
/-- what is known of the class Program -/
structure ProgK (P : Program) (w : World) (K : PySem.W.Frag) (mg : Str → Option Value) (base : Heap) (CP C : Addr) : Prop where
  pc : Pc K CP
  mP : mg "Program" = some (.ref CP)
  read : ∃ mc p g, ClX.CRead K CP mc ∧ ClX.CMet K CP mc "read" p g ∧ FnR P w K mg base CX0 7 g (spPRead CP C)
  p1 : ∃ p g d, PropOf K CP "nests" p g ∧ FnOk P w K mg base CX0 1 g d ["self"] (getSp CP "_nests") ∧ Binds K d ["self"] []
theorem strs_lay : ∀ ds : List Str, (∀ d ∈ ds, ∀ c ∈ tl d, c < 128) → PyData.canLayAll0 (ds.map PyData.str) = true
  | [], _ => by rw [List.map_nil]; simp [PyData.canLayAll0]
  | d :: ds, h => by
    rw [List.map_cons]
    have e : PyData.strOk d = true := by
      unfold PyData.strOk
      rw [← Array.all_toList, List.all_eq_true]
      exact fun c hc => decide_eq_true (Nat.lt_trans (h d List.mem_cons_self c hc) (by decide))
    simp only [PyData.canLayAll0, PyData.canLay0, strs_lay ds fun e he => h e (List.mem_cons_of_mem _ he), Bool.and_true, e]
theorem strs_shaped {n : NestD} (h : NestT n) : SeqAt.shaped (.tuple (n.2.2.map .str)) = true := by
  have hd := strs_depth n.2.2
  have h1 := strs_lay n.2.2 fun d hd => (h.ds d hd).cp
  unfold SeqAt.shaped
  have e1 : PyData.canLay0 (.tuple (n.2.2.map .str)) = true := by simp only [PyData.canLay0, h1]
  have e2 : PyData.depth (.tuple (n.2.2.map .str)) ≤ 64 := by simp only [PyData.depth]; omega
  rw [e1, decide_eq_true e2]
  rfl
end Sq.N3
namespace Sq.N3
open PySem L2 TL
theorem edge_codes : ∀ a : _root_.Fin 18, (∀ c ∈ tl (edge a.val), c < 128) ∧ 10 ∉ tl (edge a.val) := by decide +kernel
theorem row_codes {a b : Nat} (d : Nat) (ha : a < 18) (hb : b < 18) : (∀ c ∈ tl (rowOf a b d), c < 128) ∧ 10 ∉ tl (rowOf a b d) := by
  have e : tl (rowOf a b d) = tl (edge a) ++ tl (" to " : Str) ++ tl (edge b) ++ tl (if decide (d = 1) = true then (" down" : Str) else "") := by
    unfold rowOf walkS
    rw [tl_append, tl_append, tl_append]
  have k1 : (∀ c ∈ tl (" to " : Str), c < 128) ∧ 10 ∉ tl (" to " : Str) := by decide +kernel
  have k2 : (∀ c ∈ tl (if decide (d = 1) = true then (" down" : Str) else ""), c < 128) ∧ 10 ∉ tl (if decide (d = 1) = true then (" down" : Str) else "") := by split <;> decide +kernel
  have k3 := edge_codes ⟨a, ha⟩
  have k4 := edge_codes ⟨b, hb⟩
  rw [e]
  refine ⟨fun c hc => ?_, fun hc => ?_⟩
  · rw [List.mem_append, List.mem_append, List.mem_append] at hc
    rcases hc with ((h | h) | h) | h
    · exact k3.1 c h
    · exact k1.1 c h
    · exact k4.1 c h
    · exact k2.1 c h
  · rw [List.mem_append, List.mem_append, List.mem_append] at hc
    rcases hc with ((h | h) | h) | h
    · exact k3.2 h
    · exact k1.2 h
    · exact k4.2 h
    · exact k2.2 h
theorem nestT_of {a b a2 b2 : Nat} (d d2 : Nat) {ds : List Str} (ha : a < 12) (hb : b < 12) (ha2 : a2 < 18) (hb2 : b2 < 18) (hl : ds.length ≤ 6) (hd : ∀ x ∈ ds, DeedRow x) : NestT (rowOf a b d, rowOf a2 b2 d2, ds) :=
  ⟨row_len d (by omega) (by omega), row_len d2 ha2 hb2, (row_codes d (by omega) (by omega)).1, (row_codes d2 ha2 hb2).1, (row_codes d (by omega) (by omega)).2, (row_codes d2 ha2 hb2).2, row_outer d ha hb, row_inner d2 ha2 hb2, hl, hd⟩
end Sq.N3
namespace Sq.N3
open PySem L2 TL
abbrev sNestText : Stmt := top 27
abbrev sPLen : Stmt := inClass (top 26) 3
abbrev sPBool : Stmt := inClass (top 26) 4
abbrev sPEq : Stmt := inClass (top 26) 5
abbrev sPStr : Stmt := inClass (top 26) 6
/-! ### joined texts, joined -/
theorem joinL_cons {S p : List Nat} : ∀ {r : List (List Nat)}, r ≠ [] → joinL S (p :: r) = p ++ (S ++ joinL S r)
  | [], h => absurd rfl h
  | _ :: _, _ => rfl
theorem joinL_app {S : List Nat} : ∀ {a b : List (List Nat)}, a ≠ [] → b ≠ [] → joinL S (a ++ b) = joinL S a ++ (S ++ joinL S b)
  | [], _, h, _ => absurd rfl h
  | [p], b, _, hb => joinL_cons hb
  | p :: q :: r, b, _, hb => by
    show p ++ (S ++ joinL S ((q :: r) ++ b)) = (p ++ (S ++ joinL S (q :: r))) ++ (S ++ joinL S b)
    rw [joinL_app (List.cons_ne_nil q r) hb]
    simp only [List.append_assoc]
theorem joinL_flat {S : List Nat} : ∀ {gs : List (List (List Nat))}, (∀ g ∈ gs, g ≠ []) → joinL S (gs.map (joinL S)) = joinL S gs.flatten
  | [], _ => rfl
  | [g], _ => by
    show joinL S g = joinL S (g ++ [].flatten)
    rw [List.flatten_nil, List.append_nil]
  | g :: h :: r, hne => by
    have ih := joinL_flat (S := S) (gs := h :: r) fun x hx => hne x (List.mem_cons_of_mem _ hx)
    have hf : (h :: r).flatten ≠ [] := by
      rw [List.flatten_cons]
      exact fun e => hne h (List.mem_cons_of_mem _ List.mem_cons_self) (List.append_eq_nil_iff.mp e).1
    rw [List.flatten_cons, joinL_app (hne g List.mem_cons_self) hf, ← ih]
    exact joinL_cons (List.cons_ne_nil _ _)
def nestT (n : NestD) : Str := Txt.join "\n" (rowsOf n)
theorem join_nests (ns : List NestD) : Txt.join "\n" (ns.map nestT) = progT ns := by
  refine ext_tl ?_
  unfold progT
  rw [join_eq, tl_join, join_eq, tl_join, List.map_map, List.map_flatten, List.map_map]
  have e : (tl ∘ nestT) = (joinL (tl ("\n" : Str))) ∘ (List.map tl ∘ rowsOf) := by
    funext n
    show tl (Txt.join "\n" (rowsOf n)) = _
    rw [join_eq, tl_join]
    rfl
  rw [e, ← List.map_map]
  refine joinL_flat fun g hg => ?_
  obtain ⟨n, _, rfl⟩ := List.mem_map.mp hg
  exact List.cons_ne_nil _ _
def spNestText (C : Addr) : Sp := fun vs H Q _ => ∃ (a : Addr) (n : NestD), vs = [.ref a] ∧ NestIs C H a n ∧ NestT n ∧ ∀ H', Same H H' → Q (.str (nestT n)) H'
section
variable {P : Program} {w : World} {K : PySem.W.Frag} {mg : Str → Option Value} {base : Heap} {C CP : Addr}
theorem scNestText : FnScope ["nest", "deeds"] ["nest"] (defScope sNestText) := ⟨rfl, rfl, rfl, by decide +kernel, rfl, by decide +kernel, by decide +kernel⟩
theorem ok_nestText {f : Addr} {fd : FuncData} (F : Fun K "nest_text" "nest_text" sNestText f fd) (R : Rd1 P w K mg base) (NK : NestK P w K mg base C) : FnOk P w K mg base CX0 3 f fd ["nest"] (spNestText C) := by
  obtain ⟨p1, g1, d1, P1, G1, B1⟩ := NK.p1
  obtain ⟨p2, g2, d2, P2, G2, B2⟩ := NK.p2
  obtain ⟨p3, g3, d3, P3, G3, B3⟩ := NK.p3
  obtain ⟨u1, mS⟩ := R.mS
  obtain ⟨u2, mJ⟩ := R.mJ
  refine F.ok scNestText (fun vs H Q E h => ?_) (fun cdv A outer s H vs Q E hr h => ?_)
  · obtain ⟨a, n, rfl, _⟩ := h
    rfl
  · obtain ⟨a, n, rfl, hn, ok, q⟩ := h
    obtain ⟨dx, dp, ⟨R1, x1⟩, x2⟩ := id hn
    have big : 10000 ≤ sizeLine := by decide
    have dl := ok.dl
    have l1 := ok.l1
    have l2 := ok.l2
    have o7 : ofrom.length = 7 := by decide +kernel
    have j7 : jfrom.length = 7 := by decide +kernel
    refine ⟨_, pss_cons (ps_set (i := 1) scNestText.nd rfl (.inl rfl) (pe_prop (pv 0) NK.nc.cl P3 G3 hr B3 .nil pass0 rfl))
      (pss_one (ps_ret (pe_join pe_str (pe_lst (pa_cons (pe_joined (.cons (pe_fmt (pe_glob (v := .str ofrom) (by rfl) mS ⟨_, rfl⟩)) (.cons (pe_fmt (pe_prop (pv 0) NK.nc.cl P1 G1 hr B1 .nil pass0 rfl)) .nil)))
        (pa_cons (pe_joined (.cons (pe_fmt (pe_glob (v := .str jfrom) (by rfl) mJ ⟨_, rfl⟩)) (.cons (pe_fmt (pe_prop (pv 0) NK.nc.cl P2 G2 hr B2 .nil pass0 rfl)) .nil))) (StX.pa_star (pv 1) pa_nil))))))), ?_⟩
    refine ⟨_, rfl, a, _, _, rfl, x1, a, _, _, .ref dp, rfl, x1, nfl_deeds _ _ _ _, ?_⟩
    have z0 : Str.empty.length = 0 := rfl
    have b1 : (Str.empty ++ ofrom).length ≤ sizeLine := by rw [str_len_append]; omega
    have b2 : (Str.empty ++ ofrom ++ n.1).length ≤ sizeLine := by rw [str_len_append, str_len_append]; omega
    have c1 : (Str.empty ++ jfrom).length ≤ sizeLine := by rw [str_len_append]; omega
    have c2 : (Str.empty ++ jfrom ++ n.2.1).length ≤ sizeLine := by rw [str_len_append, str_len_append]; omega
    refine ⟨⟨_, rfl⟩, ?_⟩
    refine .inl ⟨ofrom, rfl, by omega, ofrom, rfl, b1, ?_⟩
    refine ⟨_, rfl, a, _, _, rfl, x1, a, _, _, .str n.1, rfl, x1, nfl_outer _ _ _ _, .inl ⟨n.1, rfl, by omega, n.1, rfl, b2, ?_⟩⟩
    refine .inl ⟨jfrom, rfl, by omega, jfrom, rfl, c1, ?_⟩
    refine ⟨_, rfl, a, _, _, rfl, x1, a, _, _, .str n.2.1, rfl, x1, nfl_inner _ _ _ _, .inl ⟨n.2.1, rfl, by omega, n.2.1, rfl, c2, ?_⟩⟩
    refine ⟨_, rfl, dp, n.2.2.map V.str, rfl, .inl (SqT.of x2), ?_⟩
    rw [Str.empty_append, Str.empty_append]
    have hlen : ((rowsOf n).map V.str).length ≤ sizeLine := by rw [List.length_map]; show n.2.2.length + 1 + 1 ≤ sizeLine; omega
    refine ⟨by rw [List.append_nil]; exact hlen, fun l nl => ?_⟩
    rw [List.append_nil]
    refine ⟨"\n", l, rowsOf n, rfl, rfl, .inl (SqL.of upd_same), ?_, q _ (same_new nl)⟩
    have b1 := sum_le (m := 200) (ys := rowsOf n) fun r hr => (rows_nl ok r hr).2
    have b2 : (rowsOf n).length = n.2.2.length + 2 := rfl
    have b3 : ("\n" : Str).length = 1 := by decide +kernel
    rw [b3, b2]
    rw [b2] at b1
    omega
end
end Sq.N3
namespace Sq.N3
open PySem L2 TL
def spPStr (CP C : Addr) : Sp := fun vs H Q _ => ∃ (a : Addr) (ns : List NestD), vs = [.ref a] ∧ ProgAt CP C H a ns ∧ (∀ n ∈ ns, NestT n) ∧ ns.length ≤ 5 ∧ ∀ H', Same H H' → Q (.str (progT ns)) H'
def spPLen (CP C : Addr) : Sp := fun vs H Q _ => ∃ (a : Addr) (ns : List NestD), vs = [.ref a] ∧ ProgAt CP C H a ns ∧ Q (.int (ns.length : Int)) H
def NestEq (C : Addr) : Addr → Addr → Hp → Prop := fun a b H => ∃ n, NestIs C H a n ∧ NestIs C H b n ∧ NestT n
def ProgEq (CP C : Addr) : Addr → Addr → Hp → Prop := fun a b H => ∃ ns, ProgAt CP C H a ns ∧ ProgAt CP C H b ns ∧ ∀ n ∈ ns, NestT n
theorem same_ext {H H' : Hp} (e : L2.Ext H H') : Same H H' := e
theorem mon_nest (C : Addr) : Mon (DIns C (NestEq C)) := mon_ins fun a b H H' e h => by
  obtain ⟨n, h1, h2, h3⟩ := h
  exact ⟨n, NestAt.ext e h1, NestAt.ext e h2, h3⟩
section
variable {P : Program} {w : World} {K : PySem.W.Frag} {mg : Str → Option Value} {base : Heap} {C CP : Addr}
theorem putN (tp : Addr) : (putF "_nests" (.ref tp) []).lookup ("_nests" : Str) = some (V.ref tp) := by rw [lookup_putF, if_pos rfl]
theorem scPStr : FnScope ["self", "nest"] ["self"] (defScope sPStr) := ⟨rfl, rfl, rfl, by decide +kernel, rfl, by decide +kernel, by decide +kernel⟩
theorem ok_pstr {f : Addr} {fd : FuncData} (F : Fun K "__str__" "Program.__str__" sPStr f fd) (N : Pc K CP) (KT : Kn P w K mg base "nest_text" 3 ["nest"] (spNestText C)) : FnOk P w K mg base CX0 4 f fd ["self"] (spPStr CP C) := by
  obtain ⟨fT, dT, mT, kT, bT, GT⟩ := KT
  refine F.ok scPStr (fun vs H Q E h => ?_) (fun cdv A outer s H vs Q E hr h => ?_)
  · obtain ⟨a, ns, rfl, _⟩ := h
    rfl
  · obtain ⟨a, ns, rfl, ha, ok, hl, q⟩ := h
    obtain ⟨dx, tp, xs, h1, h2, h3, h4⟩ := ha
    have big : 10000 ≤ sizeLine := by decide
    refine ⟨_, pss_one (ps_ret (pe_join pe_str (pe_lc (own := [("nest", 1)]) (g := gName 1) (by rfl) scPStr.nd (pi_tup (pe_fld (pv 0) rfl)) (blkOk_by (own := [("nest", 1)]) (N := ["self", "nest"]) (sc := defScope sPStr) (by decide +kernel))
      (fun _ _ _ _ _ => pg_name (i := 1) scPStr.nd rfl (Or.inl rfl)) (fun _ _ _ _ _ => pts_nil) (fun _ _ _ _ _ => pe_call GT hr (by rfl) mT kT bT .nil pass0 (pa_cons (pv 1) pa_nil))))), ?_⟩
    refine ⟨⟨_, rfl⟩, ?_⟩
    refine ⟨_, rfl, a, CP, dx, _, _, rfl, h1, N.cl, N.nN, putN tp, tp, rfl, ⟨_, SqT.of h2⟩, fun D hD => ?_⟩
    refine lc_tup (K := K) (a := tp) (xs := xs.map V.ref) (fun i H' => Same H H' ∧ H' D = some (.lst (((ns.take i).map nestT).map V.str))) ⟨same_new hD, upd_same⟩ (fun i H' _ h => (SqT.of h2).ext h.1) (fun i x H' hi h => ?_) (fun H' h => ?_)
    · obtain ⟨sm, hL⟩ := h
      refine ⟨rfl, ?_⟩
      obtain ⟨b, hb, rfl⟩ : ∃ b, xs[i]? = some b ∧ x = .ref b := by
        rw [List.getElem?_map] at hi
        cases e : xs[i]? with
        | none => rw [e] at hi; cases hi
        | some r => rw [e] at hi; exact ⟨r, rfl, (Option.some.inj hi).symm⟩
      have hil : i < ns.length := by rw [← h3]; exact (List.getElem?_eq_some_iff.mp hb).1
      have hgi : ns[i]? = some ns[i] := List.getElem?_eq_getElem hil
      refine ⟨_, rfl, b, ns[i], rfl, (h4 i b _ hb hgi).ext sm, ok _ (List.getElem_mem hil), fun H2 s2 => ⟨_, s2 _ _ hL, ?_, ?_, ?_⟩⟩
      · rw [List.length_map, List.length_map, List.length_take]
        omega
      · intro c o hc
        rw [upd_ne (fun e => by rw [e, hD] at hc; cases hc)]
        exact s2 c o (sm c o hc)
      · rw [upd_same, List.take_add_one, hgi, List.map_append, List.map_append]
        rfl
    · obtain ⟨sm, hL⟩ := h
      rw [List.length_map, h3, List.take_length] at hL
      refine ⟨"\n", D, ns.map nestT, rfl, rfl, .inl (SqL.of hL), ?_, ?_⟩
      · have b0 : ∀ y ∈ ns.map nestT, y.length ≤ 8040 := fun y hy => by
          obtain ⟨n, hn, rfl⟩ := List.mem_map.mp hy
          have z := prog_len (ns := [n]) (fun m hm => by rw [List.mem_singleton.mp hm]; exact ok n hn) (by show 1 ≤ 5; omega)
          unfold progT at z
          rw [List.map_cons, List.map_nil, List.flatten_cons, List.flatten_nil, List.append_nil] at z
          exact z
        have b1 := sum_le (m := 8040) b0
        have b3 : ("\n" : Str).length = 1 := by decide +kernel
        rw [List.length_map] at b1
        rw [b3, List.length_map]
        omega
      · rw [join_nests]
        exact q H' sm
theorem scPLen : FnScope ["self"] ["self"] (defScope sPLen) := ⟨rfl, rfl, rfl, by decide +kernel, rfl, by decide +kernel, by decide +kernel⟩
theorem ok_plen {f : Addr} {fd : FuncData} (F : Fun K "__len__" "Program.__len__" sPLen f fd) (N : Pc K CP) (T : Bt mg) : FnOk P w K mg base CX0 1 f fd ["self"] (spPLen CP C) := by
  refine F.ok scPLen (fun vs H Q E h => ?_) (fun cdv A outer s H vs Q E hr h => ?_)
  · obtain ⟨a, ns, rfl, _⟩ := h
    rfl
  · obtain ⟨a, ns, rfl, ha, q⟩ := h
    obtain ⟨dx, tp, xs, h1, h2, h3, h4⟩ := ha
    refine ⟨_, pss_one (ps_ret (pe_callB call_len_seq (by rfl) T.len PySem.boot_len (pa_cons (pe_fld (pv 0) rfl) pa_nil))), ?_⟩
    refine ⟨_, rfl, a, CP, dx, _, _, rfl, h1, N.cl, N.nN, putN tp, tp, _, rfl, .inr (SqT.of h2), ?_⟩
    rw [List.length_map, h3]
    exact q
theorem scPEq : FnScope ["self", "other"] ["self", "other"] (defScope sPEq) := ⟨rfl, rfl, rfl, by decide +kernel, rfl, by decide +kernel, by decide +kernel⟩
/-- equal programs are equal -/
theorem ok_peq {f : Addr} {fd : FuncData} (F : Fun K "__eq__" "Program.__eq__" sPEq f fd) (N : Pc K CP) (I : Isn K CP) (mP : mg "Program" = some (.ref CP)) (Ck : Ck K mg) {fe : Addr} {de : FuncData} (GE : FnOk P w K mg base CX0 1 fe de ["self", "other"] (spNEq C)) (he1 : PySem.W.findIn K (.ref C) "__eq__" = some (some (.ref fe))) (he2 : PySem.W.isFn K (.ref fe) = true) (be : Binds K de ["self", "other"] []) :
    FnOk P w K mg base CX0 3 f fd ["self", "other"] (spEq (ProgEq CP C)) := by
  have GE' : FnOk P w K mg base CX0 1 fe de ["self", "other"] (spEq (NestEq C)) := GE.imp fun vs H Q E h => by
    obtain ⟨a, b, rfl, ⟨n, h1, h2, h3⟩, q⟩ := h
    refine ⟨a, b, n.1, n.2.1, n.1, n.2.1, n.2.2, n.2.2, rfl, h1, h2, strs_shaped h3, strs_shaped h3, ?_⟩
    have z := q H L2.Ext.rfl'
    simpa using z
  refine F.ok scPEq (fun vs H Q E h => ?_) (fun cdv A outer s H vs Q E hr h => ?_)
  · obtain ⟨a, b, rfl, _⟩ := h
    rfl
  · obtain ⟨a, b, rfl, ⟨ns, ⟨dx, tp, xs, h1, h2, h3, h4⟩, ⟨dy, tq, ys, g1, g2, g3, g4⟩, ok⟩, q⟩ := h
    refine ⟨_, pss_one (ps_ret (pe_and (pe_callB call_isi (by rfl) Ck.isinstance (by decide +kernel) (pa_cons (pv 1) (pa_cons (pe_glob (v := .ref CP) (by rfl) mP rfl) pa_nil)))
      (pe_one (pe_cmpR (op_eqG (rcG_tup (mon_nest C) (eqG_ins GE' he1 he2 be pass0)) hr) (pe_fld (pv 0) rfl) (pe_fld (pv 1) rfl) (nomark _))))), ?_⟩
    refine ⟨_, rfl, _, _, .ref CP, .ref CP, true, rfl, .own CP, .base (.ins g1 N.cl I.c1 I.c2 I.c3 I.c4), kit_self K CP, true, rfl, ?_⟩
    refine iteT ?_
    refine ⟨_, rfl, a, CP, dx, _, _, rfl, h1, N.cl, N.nN, putN tp, _, rfl, b, CP, dy, _, _, rfl, g1, N.cl, N.nN, putN tq, ?_⟩
    refine ⟨⟨tp, tq, xs.map V.ref, ys.map V.ref, rfl, rfl, SqT.of h2, SqT.of g2, by rw [List.length_map, List.length_map, h3, g3], fun i x y hx hy => ?_⟩, fun H' e => q H' e⟩
    rw [List.getElem?_map] at hx hy
    cases ex : xs[i]? with
    | none => rw [ex] at hx; cases hx
    | some u =>
      cases ey : ys[i]? with
      | none => rw [ey] at hy; cases hy
      | some v =>
        rw [ex] at hx
        rw [ey] at hy
        cases hx
        cases hy
        have hil : i < ns.length := by rw [← h3]; exact (List.getElem?_eq_some_iff.mp ex).1
        have hgi : ns[i]? = some ns[i] := List.getElem?_eq_getElem hil
        have k1 := h4 i u _ ex hgi
        have k2 := g4 i v _ ey hgi
        obtain ⟨ux, ud, ⟨R3, w1⟩, _⟩ := id k1
        obtain ⟨vx, vd, ⟨R4, w2⟩, _⟩ := id k2
        exact ⟨u, v, _, _, _, _, rfl, rfl, w1, w2, ns[i], k1, k2, ok _ (List.getElem_mem hil)⟩
end
end Sq.N3
namespace Sq.N3
open PySem L2 TL
abbrev sPart : Stmt := top 41
abbrev sScheme : Stmt := top 42
abbrev Act3 := Nat × List Nat × Option (Nat × Nat × Nat)
structure Part where
  o : Nat × Nat × Nat
  u : Nat × Nat × Nat
  acts : List Act3
def Part.nest (q : Part) : NestD := (rowOf q.o.1 q.o.2.1 q.o.2.2, rowOf q.u.1 q.u.2.1 q.u.2.2, q.acts.map fun x => actS x.1 x.2.1 x.2.2)
structure PartOk (q : Part) : Prop where
  o1 : q.o.1 < 12
  o2 : q.o.2.1 < 12
  u1 : q.u.1 < 18
  u2 : q.u.2.1 < 18
  al : q.acts.length ≤ 6
  ok : ∀ x ∈ q.acts, ActOk x.1 x.2.1 x.2.2
  od : q.o.2.2 < 2
theorem PartOk.nest {q : Part} (h : PartOk q) : NestT q.nest :=
  nestT_of _ _ h.o1 h.o2 h.u1 h.u2 (by rw [List.length_map]; exact h.al) fun d hd => by
    obtain ⟨x, hx, rfl⟩ := List.mem_map.mp hd
    exact act_deed (h.ok x hx)
def PartH (N : Addr → Prop) (H : Hp) (t : Addr) (q : Part) : Prop := ∃ (o u l : Addr) (ts : List Addr), N t ∧ N o ∧ N u ∧ N l ∧ H t = some (.tup [.ref o, .ref u, .ref l]) ∧ H o = some (.tup [iv q.o.1, iv q.o.2.1, iv q.o.2.2]) ∧ H u = some (.tup [iv q.u.1, iv q.u.2.1, iv q.u.2.2]) ∧
  H l = some (.lst (ts.map V.ref)) ∧ ts.length = q.acts.length ∧ ∀ (i : Nat) (s : Addr) (x : Act3), ts[i]? = some s → q.acts[i]? = some x → ActH N H s x.1 x.2.1 x.2.2
theorem PartH.keep {N N' : Addr → Prop} {H H' : Hp} {t : Addr} {q : Part} (n : ∀ a, N a → N' a) (e : ∀ b o, N b → H b = some o → H' b = some o) (h : PartH N H t q) : PartH N' H' t q := by
  obtain ⟨o, u, l, ts, n1, n2, n3, n4, h1, h2, h3, h4, h5, h6⟩ := h
  exact ⟨o, u, l, ts, n _ n1, n _ n2, n _ n3, n _ n4, e _ _ n1 h1, e _ _ n2 h2, e _ _ n3 h3, e _ _ n4 h4, h5, fun i s x hs hx => (h6 i s x hs hx).keep n e⟩
def PlanH (N : Addr → Prop) (H : Hp) (D : Addr) (qs : List Part) : Prop := N D ∧ ∃ ts : List Addr, H D = some (.lst (ts.map V.ref)) ∧ ts.length = qs.length ∧ ∀ (i : Nat) (s : Addr) (q : Part), ts[i]? = some s → qs[i]? = some q → PartH N H s q
theorem PlanH.keep {N N' : Addr → Prop} {H H' : Hp} {t : Addr} {qs : List Part} (n : ∀ a, N a → N' a) (e : ∀ b o, N b → H b = some o → H' b = some o) (h : PlanH N H t qs) : PlanH N' H' t qs := by
  obtain ⟨n1, ts, h1, h2, h3⟩ := h
  exact ⟨n _ n1, ts, e _ _ n1 h1, h2, fun i s q hs hq => (h3 i s q hs hq).keep n e⟩
def spPart : Sp := fun vs H Q _ => ∃ (p : Addr) (m : Nat), vs = [.ref p, .int (m : Int)] ∧ 0 < m ∧ m ≤ 6 ∧ BagAt H p ∧ ∀ (t : Addr) (q : Part) (H' : Hp), BagAt H' p → Off p H H' → PartH (fun a => H a = none) H' t q → PartOk q → Q (.ref t) H'
def spScheme : Sp := fun vs H Q _ => ∃ (p : Addr) (k m : Nat), vs = [.ref p, .int (k : Int), .int (m : Int)] ∧ 0 < k ∧ k ≤ 6 ∧ 0 < m ∧ m ≤ 6 ∧ BagAt H p ∧ ∀ (D : Addr) (qs : List Part) (H' : Hp), BagAt H' p → Off p H H' → PlanH (fun a => H a = none) H' D qs → qs.length ≤ k → (∀ q ∈ qs, PartOk q) → Q (.ref D) H'
theorem free_of {p D a : Addr} {H H' : Hp} {o : HO} (hp : BagAt H' p) (off : Off p H H') (hD : H' D = some o) (h : H' a = none) : H a = none ∧ a ≠ D := by
  have nap : a ≠ p := fun e => by
    obtain ⟨_, _, _, z⟩ := hp
    rw [e, z] at h
    cases h
  exact ⟨off_none off nap h, fun e => by rw [e, hD] at h; cases h⟩
theorem bag_ne {p a : Addr} {H : Hp} (hp : BagAt H p) (h : H a = none) : a ≠ p := fun e => by
  obtain ⟨_, _, _, z⟩ := hp
  rw [e, z] at h
  cases h
section
variable {P : Program} {w : World} {K : PySem.W.Frag} {mg : Str → Option Value} {base : Heap}
theorem scPart : FnScope ["_law_bag_here", "_law_most", "_law_acts", "_law_over", "_law_under", "_law_k"] ["_law_bag_here", "_law_most"] (defScope sPart) := ⟨rfl, rfl, rfl, by decide +kernel, rfl, by decide +kernel, by decide +kernel⟩
theorem ok_part {f : Addr} {fd : FuncData} (F : Fun K "_law_part" "_law_part" sPart f fd) (T : Bt mg) (KT : Kn P w K mg base "_law_take" 1 ["_law_bag_here", "_law_many"] spDraw) (KA : Kn P w K mg base "_law_act" 2 ["_law_bag_here"] (spAct K)) (KW : Kn P w K mg base "_law_walk" 2 ["_law_bag_here", "_law_deep"] spWalk) :
    FnOk P w K mg base CX0 3 f fd ["_law_bag_here", "_law_most"] spPart := by
  obtain ⟨fT, dT, mT, kT, bT, GT⟩ := KT
  obtain ⟨fA, dA, mA, kA, bA, GA⟩ := KA
  obtain ⟨fW, dW, mW, kW, bW, GW⟩ := KW
  refine F.ok scPart (fun vs H Q E h => ?_) (fun cdv A outer s H vs Q E hr h => ?_)
  · obtain ⟨p, m, rfl, _⟩ := h
    rfl
  · obtain ⟨p, m, rfl, m0, m6, hp, q⟩ := h
    have big : 10000 ≤ sizeLine := by decide
    have hr1 := hr.mono (show 1 ≤ 2 by decide)
    refine ⟨_, pss_cons (ps_set (i := 2) scPart.nd rfl (.inl rfl) (pe_ifExp (pt_cmpR op_gt (pe_call GT hr1 (by rfl) mT kT bT .nil pass0 (pa_cons (pv 0) (pa_cons pe_int pa_nil))) pe_int (nomark _)) (pe_op op_add pe_int (pe_call GT hr1 (by rfl) mT kT bT .nil pass0 (pa_cons (pv 0) (pa_cons (pv 1) pa_nil)))) pe_int))
      (pss_cons (ps_par (i := 3) (j := 4) (by rfl) scPart.nd rfl rfl (by decide) rfl rfl (pa_cons (pe_call GW hr (by rfl) mW kW bW .nil pass0 (pa_cons (pv 0) (pa_cons pe_bl pa_nil))) (pa_cons (pe_call GW hr (by rfl) mW kW bW .nil pass0 (pa_cons (pv 0) (pa_cons pe_bl pa_nil))) pa_nil)) (by rfl))
      (pss_one (ps_ret (pe_tup (pa_cons (pv 3) (pa_cons (pv 4) (pa_cons (pe_lc (own := [("_law_k", 5)]) (g := gName 5) (by rfl) scPart.nd (pi_range1 (by rfl) T.range (pa_cons (pv 2) pa_nil))
          (blkOk_by (own := [("_law_k", 5)]) (N := ["_law_bag_here", "_law_most", "_law_acts", "_law_over", "_law_under", "_law_k"]) (sc := defScope sPart) (by decide +kernel)) (fun _ _ _ _ _ => pg_name (i := 5) scPart.nd rfl (Or.inl rfl)) (fun _ _ _ _ _ => pts_nil)
          (fun _ _ _ _ _ => pe_call GA hr (by rfl) mA kA bA .nil pass0 (pa_cons (pv 0) pa_nil))) pa_nil))))))), ?_⟩
    refine ⟨_, rfl, p, 8, rfl, hp, by decide, by decide, fun r H1 rl hp1 o1 => ?_⟩
    refine ⟨_, _, rfl, rfl, _, rfl, ?_⟩
    refine ite2 (fun _ => ?_) (fun _ => ?_)
    · refine ⟨_, rfl, _, rfl, p, m, rfl, hp1, m0, by omega, fun r2 H2 r2l hp2 o2 => ?_⟩
      refine ⟨_, _, rfl, rfl, ?_⟩
      have O2 := o1.trans o2
      refine ⟨_, rfl, p, false, rfl, hp2, fun t1 a1 b1 e1 H3 hp3 o3 nt1 ft1 ht1 al1 bl1 dl1 => ?_⟩
      have al1 : a1 < 12 := al1
      have bl1 : b1 < 12 := bl1
      refine ⟨_, rfl, p, true, rfl, hp3, fun t2 a2 b2 e2 H4 hp4 o4 nt2 ft2 ht2 al2 bl2 _ => ⟨_, _, rfl, ?_⟩⟩
      have al2 : a2 < 18 := al2
      have bl2 : b2 < 18 := bl2
      have o34 := o3.trans o4
      have ht1' := o4 _ _ nt1 ht1
      refine ⟨_, rfl, _, rfl, _, rfl, _, rfl, by omega, by omega, fun D nD => ?_⟩
      have nDp := bag_ne hp4 nD
      have oH4 := O2.trans o34
      have hDn : H D = none := off_none oH4 nDp nD
      refine lc_range (lo := 0) (fun i H' => BagAt H' p ∧ Off p H4 H' ∧ ∃ (ts : List Addr) (as : List Act3), H' D = some (.lst (ts.map V.ref)) ∧ ts.length = i ∧ as.length = i ∧ (∀ (j : Nat) (s : Addr) (x : Act3), ts[j]? = some s → as[j]? = some x → ActH (fun a => H4 a = none ∧ a ≠ D) H' s x.1 x.2.1 x.2.2) ∧ ∀ x ∈ as, ActOk x.1 x.2.1 x.2.2)
        ⟨hp4.ext (same_new nD), Same.off (same_new nD), [], [], upd_same, rfl, rfl, fun j s x hs _ => (by cases hs), fun x hx => absurd hx List.not_mem_nil⟩ (fun i H' hi h => ?_) (fun H' h => ?_)
      · obtain ⟨hb, oo, ts, as, hD, tl', al', hts, hok⟩ := h
        refine ⟨rfl, ?_⟩
        refine ⟨_, rfl, p, rfl, hb, fun t w' ps g H5 hb5 o5 hA hO => ⟨_, o5 D _ nDp hD, ?_, ?_, ?_, ts ++ [t], as ++ [(w', ps, g)], ?_, ?_, ?_, fun j s x hs hx => ?_, fun x hx => ?_⟩⟩
        · rw [List.length_map]
          omega
        · obtain ⟨x1, x2, x3, hx⟩ := hb5
          exact ⟨x1, x2, x3, by rw [upd_ne nDp.symm]; exact hx⟩
        · exact off_upd (oo.trans o5) nD
        · rw [upd_same, List.map_append]
          rfl
        · rw [List.length_append, tl']
          rfl
        · rw [List.length_append, al']
          rfl
        · by_cases hj : j < ts.length
          · rw [List.getElem?_append_left hj] at hs
            rw [List.getElem?_append_left (by omega)] at hx
            refine (hts j s x hs hx).keep (fun a h => h) fun b o hb' e => ?_
            rw [upd_ne hb'.2]
            exact o5 b o (bag_ne hp4 hb'.1) e
          · rw [List.getElem?_append_right (by omega)] at hs
            rw [List.getElem?_append_right (by omega)] at hx
            have e0 : j - ts.length = j - as.length := by omega
            cases hd : j - ts.length with
            | zero =>
              rw [hd] at hs
              rw [← e0, hd] at hx
              cases hs
              cases hx
              refine hA.keep (fun a h => free_of hb oo hD h) fun b o hb' e => ?_
              rw [upd_ne (free_of hb oo hD hb').2]
              exact e
            | succ n =>
              rw [hd] at hs
              cases hs
        · rcases List.mem_append.mp hx with e | e
          · exact hok x e
          · rw [List.mem_singleton.mp e]
            exact hO
      · obtain ⟨hb, oo, ts, as, hD, tl', al', hts, hok⟩ := h
        refine ⟨(by show 3 ≤ sizeLine; omega), fun t nt => ?_⟩
        have k := same_new (o := .tup [.ref t1, .ref t2, .ref D]) nt
        have oA := (oH4.trans oo).trans (Same.off k)
        have nin : ∀ a, (H4 a = none ∧ a ≠ D) → H a = none := fun a h => off_none oH4 (bag_ne hp4 h.1) h.1
        have f2 : H t2 = none := off_none (O2.trans o3) nt2 ft2
        refine q t ⟨(a1, b1, e1), (a2, b2, e2), as⟩ _ (hb.ext k) oA ⟨t1, t2, D, ts, off_none (oH4.trans oo) (bag_ne hb nt) nt, off_none O2 nt1 ft1, f2, hDn, upd_same, k _ _ (oo _ _ nt1 ht1'), k _ _ (oo _ _ nt2 ht2), k _ _ hD, by rw [tl', al'], fun j s x hs hx => (hts j s x hs hx).keep nin fun b o _ e => k _ _ e⟩
          ⟨al1, bl1, al2, bl2, by show as.length ≤ 6; omega, hok, dl1⟩
    · have O2 := o1
      refine ⟨_, rfl, p, false, rfl, hp1, fun t1 a1 b1 e1 H3 hp3 o3 nt1 ft1 ht1 al1 bl1 dl1 => ?_⟩
      have al1 : a1 < 12 := al1
      have bl1 : b1 < 12 := bl1
      refine ⟨_, rfl, p, true, rfl, hp3, fun t2 a2 b2 e2 H4 hp4 o4 nt2 ft2 ht2 al2 bl2 _ => ⟨_, _, rfl, ?_⟩⟩
      have al2 : a2 < 18 := al2
      have bl2 : b2 < 18 := bl2
      have o34 := o3.trans o4
      have ht1' := o4 _ _ nt1 ht1
      refine ⟨_, rfl, _, rfl, _, rfl, _, rfl, by omega, by omega, fun D nD => ?_⟩
      have nDp := bag_ne hp4 nD
      have oH4 := O2.trans o34
      have hDn : H D = none := off_none oH4 nDp nD
      refine lc_range (lo := 0) (fun i H' => BagAt H' p ∧ Off p H4 H' ∧ ∃ (ts : List Addr) (as : List Act3), H' D = some (.lst (ts.map V.ref)) ∧ ts.length = i ∧ as.length = i ∧ (∀ (j : Nat) (s : Addr) (x : Act3), ts[j]? = some s → as[j]? = some x → ActH (fun a => H4 a = none ∧ a ≠ D) H' s x.1 x.2.1 x.2.2) ∧ ∀ x ∈ as, ActOk x.1 x.2.1 x.2.2)
        ⟨hp4.ext (same_new nD), Same.off (same_new nD), [], [], upd_same, rfl, rfl, fun j s x hs _ => (by cases hs), fun x hx => absurd hx List.not_mem_nil⟩ (fun i H' hi h => ?_) (fun H' h => ?_)
      · obtain ⟨hb, oo, ts, as, hD, tl', al', hts, hok⟩ := h
        refine ⟨rfl, ?_⟩
        refine ⟨_, rfl, p, rfl, hb, fun t w' ps g H5 hb5 o5 hA hO => ⟨_, o5 D _ nDp hD, ?_, ?_, ?_, ts ++ [t], as ++ [(w', ps, g)], ?_, ?_, ?_, fun j s x hs hx => ?_, fun x hx => ?_⟩⟩
        · rw [List.length_map]
          omega
        · obtain ⟨x1, x2, x3, hx⟩ := hb5
          exact ⟨x1, x2, x3, by rw [upd_ne nDp.symm]; exact hx⟩
        · exact off_upd (oo.trans o5) nD
        · rw [upd_same, List.map_append]
          rfl
        · rw [List.length_append, tl']
          rfl
        · rw [List.length_append, al']
          rfl
        · by_cases hj : j < ts.length
          · rw [List.getElem?_append_left hj] at hs
            rw [List.getElem?_append_left (by omega)] at hx
            refine (hts j s x hs hx).keep (fun a h => h) fun b o hb' e => ?_
            rw [upd_ne hb'.2]
            exact o5 b o (bag_ne hp4 hb'.1) e
          · rw [List.getElem?_append_right (by omega)] at hs
            rw [List.getElem?_append_right (by omega)] at hx
            have e0 : j - ts.length = j - as.length := by omega
            cases hd : j - ts.length with
            | zero =>
              rw [hd] at hs
              rw [← e0, hd] at hx
              cases hs
              cases hx
              refine hA.keep (fun a h => free_of hb oo hD h) fun b o hb' e => ?_
              rw [upd_ne (free_of hb oo hD hb').2]
              exact e
            | succ n =>
              rw [hd] at hs
              cases hs
        · rcases List.mem_append.mp hx with e | e
          · exact hok x e
          · rw [List.mem_singleton.mp e]
            exact hO
      · obtain ⟨hb, oo, ts, as, hD, tl', al', hts, hok⟩ := h
        refine ⟨(by show 3 ≤ sizeLine; omega), fun t nt => ?_⟩
        have k := same_new (o := .tup [.ref t1, .ref t2, .ref D]) nt
        have oA := (oH4.trans oo).trans (Same.off k)
        have nin : ∀ a, (H4 a = none ∧ a ≠ D) → H a = none := fun a h => off_none oH4 (bag_ne hp4 h.1) h.1
        have f2 : H t2 = none := off_none (O2.trans o3) nt2 ft2
        refine q t ⟨(a1, b1, e1), (a2, b2, e2), as⟩ _ (hb.ext k) oA ⟨t1, t2, D, ts, off_none (oH4.trans oo) (bag_ne hb nt) nt, off_none O2 nt1 ft1, f2, hDn, upd_same, k _ _ (oo _ _ nt1 ht1'), k _ _ (oo _ _ nt2 ht2), k _ _ hD, by rw [tl', al'], fun j s x hs hx => (hts j s x hs hx).keep nin fun b o _ e => k _ _ e⟩
          ⟨al1, bl1, al2, bl2, by show as.length ≤ 6; omega, hok, dl1⟩
end
end Sq.N3
namespace Sq.N3
open PySem L2 TL
abbrev sPage : Stmt := top 38
section
variable {P : Program} {w : World} {K : PySem.W.Frag} {mg : Str → Option Value} {base : Heap}
theorem scScheme : FnScope ["_law_bag_here", "_law_parts", "_law_acts", "_law_many", "_law_k"] ["_law_bag_here", "_law_parts", "_law_acts"] (defScope sScheme) := ⟨rfl, rfl, rfl, by decide +kernel, rfl, by decide +kernel, by decide +kernel⟩
theorem ok_scheme {f : Addr} {fd : FuncData} (F : Fun K "_law_scheme" "_law_scheme" sScheme f fd) (T : Bt mg) (KT : Kn P w K mg base "_law_take" 1 ["_law_bag_here", "_law_many"] spDraw) (KP : Kn P w K mg base "_law_part" 3 ["_law_bag_here", "_law_most"] spPart) :
    FnOk P w K mg base CX0 4 f fd ["_law_bag_here", "_law_parts", "_law_acts"] spScheme := by
  obtain ⟨fT, dT, mT, kT, bT, GT⟩ := KT
  obtain ⟨fA, dA, mA, kA, bA, GA⟩ := KP
  refine F.ok scScheme (fun vs H Q E h => ?_) (fun cdv A outer s H vs Q E hr h => ?_)
  · obtain ⟨p, k, m, rfl, _⟩ := h
    rfl
  · obtain ⟨p, k, m, rfl, k0, k6, m0, m6, hp, q⟩ := h
    have big : 10000 ≤ sizeLine := by decide
    have hr1 := hr.mono (show 1 ≤ 3 by decide)
    refine ⟨_, pss_cons (ps_set (i := 3) scScheme.nd rfl (.inl rfl) (pe_ifExp (pt_cmpR op_gt (pe_call GT hr1 (by rfl) mT kT bT .nil pass0 (pa_cons (pv 0) (pa_cons pe_int pa_nil))) pe_int (nomark _)) (pe_op op_add pe_int (pe_call GT hr1 (by rfl) mT kT bT .nil pass0 (pa_cons (pv 0) (pa_cons (pv 1) pa_nil)))) pe_int))
      (pss_one (ps_ret (pe_lc (own := [("_law_k", 4)]) (g := gName 4) (by rfl) scScheme.nd (pi_range1 (by rfl) T.range (pa_cons (pv 3) pa_nil))
          (blkOk_by (own := [("_law_k", 4)]) (N := ["_law_bag_here", "_law_parts", "_law_acts", "_law_many", "_law_k"]) (sc := defScope sScheme) (by decide +kernel)) (fun _ _ _ _ _ => pg_name (i := 4) scScheme.nd rfl (Or.inl rfl)) (fun _ _ _ _ _ => pts_nil)
          (fun _ _ _ _ _ => pe_call GA hr (by rfl) mA kA bA .nil pass0 (pa_cons (pv 0) (pa_cons (pv 2) pa_nil)))))), ?_⟩
    refine ⟨_, rfl, p, 10, rfl, hp, by decide, by decide, fun r H1 rl hp1 o1 => ?_⟩
    refine ⟨_, _, rfl, rfl, _, rfl, ?_⟩
    refine ite2 (fun _ => ?_) (fun _ => ?_)
    · refine ⟨_, rfl, _, rfl, p, k, rfl, hp1, k0, by omega, fun r2 H2 r2l hp2 o2 => ?_⟩
      refine ⟨_, _, rfl, rfl, ?_⟩
      have O2 := o1.trans o2
      refine ⟨_, rfl, _, rfl, by omega, by omega, fun D nD => ?_⟩
      have nDp := bag_ne hp2 nD
      have hDn : H D = none := off_none O2 nDp nD
      refine lc_range (lo := 0) (fun i H' => BagAt H' p ∧ Off p H2 H' ∧ ∃ (ts : List Addr) (as : List Part), H' D = some (.lst (ts.map V.ref)) ∧ ts.length = i ∧ as.length = i ∧ (∀ (j : Nat) (s : Addr) (x : Part), ts[j]? = some s → as[j]? = some x → PartH (fun a => H2 a = none ∧ a ≠ D) H' s x) ∧ ∀ x ∈ as, PartOk x)
        ⟨hp2.ext (same_new nD), Same.off (same_new nD), [], [], upd_same, rfl, rfl, fun j s x hs _ => (by cases hs), fun x hx => absurd hx List.not_mem_nil⟩ (fun i H' hi h => ?_) (fun H' h => ?_)
      · obtain ⟨hb, oo, ts, as, hD, tl', al', hts, hok⟩ := h
        refine ⟨rfl, ?_⟩
        refine ⟨_, rfl, _, rfl, p, m, rfl, m0, m6, hb, fun t x0 H5 hb5 o5 hA hO => ⟨_, o5 D _ nDp hD, ?_, ?_, ?_, ts ++ [t], as ++ [x0], ?_, ?_, ?_, fun j s x hs hx => ?_, fun x hx => ?_⟩⟩
        · rw [List.length_map]
          omega
        · obtain ⟨x1, x2, x3, hx⟩ := hb5
          exact ⟨x1, x2, x3, by rw [upd_ne nDp.symm]; exact hx⟩
        · exact off_upd (oo.trans o5) nD
        · rw [upd_same, List.map_append]
          rfl
        · rw [List.length_append, tl']
          rfl
        · rw [List.length_append, al']
          rfl
        · by_cases hj : j < ts.length
          · rw [List.getElem?_append_left hj] at hs
            rw [List.getElem?_append_left (by omega)] at hx
            refine (hts j s x hs hx).keep (fun a h => h) fun b o hb' e => ?_
            rw [upd_ne hb'.2]
            exact o5 b o (bag_ne hp2 hb'.1) e
          · rw [List.getElem?_append_right (by omega)] at hs
            rw [List.getElem?_append_right (by omega)] at hx
            have e0 : j - ts.length = j - as.length := by omega
            cases hd : j - ts.length with
            | zero =>
              rw [hd] at hs
              rw [← e0, hd] at hx
              cases hs
              cases hx
              refine hA.keep (fun a h => free_of hb oo hD h) fun b o hb' e => ?_
              rw [upd_ne (free_of hb oo hD hb').2]
              exact e
            | succ n =>
              rw [hd] at hs
              cases hs
        · rcases List.mem_append.mp hx with e | e
          · exact hok x e
          · rw [List.mem_singleton.mp e]
            exact hO
      · obtain ⟨hb, oo, ts, as, hD, tl', al', hts, hok⟩ := h
        have nin : ∀ a, (H2 a = none ∧ a ≠ D) → H a = none := fun a h => off_none O2 (bag_ne hp2 h.1) h.1
        exact q D as _ hb (O2.trans oo) ⟨hDn, ts, hD, by rw [tl', al'], fun j s x hs hx => (hts j s x hs hx).keep nin fun b o _ e => e⟩ (by omega) hok
    · have O2 := o1
      refine ⟨_, rfl, _, rfl, by omega, by omega, fun D nD => ?_⟩
      have nDp := bag_ne hp1 nD
      have hDn : H D = none := off_none O2 nDp nD
      refine lc_range (lo := 0) (fun i H' => BagAt H' p ∧ Off p H1 H' ∧ ∃ (ts : List Addr) (as : List Part), H' D = some (.lst (ts.map V.ref)) ∧ ts.length = i ∧ as.length = i ∧ (∀ (j : Nat) (s : Addr) (x : Part), ts[j]? = some s → as[j]? = some x → PartH (fun a => H1 a = none ∧ a ≠ D) H' s x) ∧ ∀ x ∈ as, PartOk x)
        ⟨hp1.ext (same_new nD), Same.off (same_new nD), [], [], upd_same, rfl, rfl, fun j s x hs _ => (by cases hs), fun x hx => absurd hx List.not_mem_nil⟩ (fun i H' hi h => ?_) (fun H' h => ?_)
      · obtain ⟨hb, oo, ts, as, hD, tl', al', hts, hok⟩ := h
        refine ⟨rfl, ?_⟩
        refine ⟨_, rfl, _, rfl, p, m, rfl, m0, m6, hb, fun t x0 H5 hb5 o5 hA hO => ⟨_, o5 D _ nDp hD, ?_, ?_, ?_, ts ++ [t], as ++ [x0], ?_, ?_, ?_, fun j s x hs hx => ?_, fun x hx => ?_⟩⟩
        · rw [List.length_map]
          omega
        · obtain ⟨x1, x2, x3, hx⟩ := hb5
          exact ⟨x1, x2, x3, by rw [upd_ne nDp.symm]; exact hx⟩
        · exact off_upd (oo.trans o5) nD
        · rw [upd_same, List.map_append]
          rfl
        · rw [List.length_append, tl']
          rfl
        · rw [List.length_append, al']
          rfl
        · by_cases hj : j < ts.length
          · rw [List.getElem?_append_left hj] at hs
            rw [List.getElem?_append_left (by omega)] at hx
            refine (hts j s x hs hx).keep (fun a h => h) fun b o hb' e => ?_
            rw [upd_ne hb'.2]
            exact o5 b o (bag_ne hp1 hb'.1) e
          · rw [List.getElem?_append_right (by omega)] at hs
            rw [List.getElem?_append_right (by omega)] at hx
            have e0 : j - ts.length = j - as.length := by omega
            cases hd : j - ts.length with
            | zero =>
              rw [hd] at hs
              rw [← e0, hd] at hx
              cases hs
              cases hx
              refine hA.keep (fun a h => free_of hb oo hD h) fun b o hb' e => ?_
              rw [upd_ne (free_of hb oo hD hb').2]
              exact e
            | succ n =>
              rw [hd] at hs
              cases hs
        · rcases List.mem_append.mp hx with e | e
          · exact hok x e
          · rw [List.mem_singleton.mp e]
            exact hO
      · obtain ⟨hb, oo, ts, as, hD, tl', al', hts, hok⟩ := h
        have nin : ∀ a, (H1 a = none ∧ a ≠ D) → H a = none := fun a h => off_none O2 (bag_ne hp1 h.1) h.1
        exact q D as _ hb (O2.trans oo) ⟨hDn, ts, hD, by rw [tl', al'], fun j s x hs hx => (hts j s x hs hx).keep nin fun b o _ e => e⟩ (by omega) hok
end
end Sq.N3
namespace Sq.N3
open PySem L2 TL
def spPage : Sp := fun vs H Q _ => ∃ (N : Addr → Prop) (D : Addr) (qs : List Part), vs = [.ref D] ∧ PlanH N H D qs ∧ (∀ q ∈ qs, PartOk q) ∧ qs.length ≤ 5 ∧ ∀ H', Same H H' → Q (.str (progT (qs.map Part.nest))) H'
def pageRows (qs : List Part) : List Str := ((qs.map Part.nest).map rowsOf).flatten
theorem pageRows_succ {qs : List Part} {i : Nat} {q : Part} (h : qs[i]? = some q) : pageRows (qs.take (i + 1)) = pageRows (qs.take i) ++ rowsOf q.nest := by
  unfold pageRows
  rw [List.take_add_one, h]
  simp
theorem pageRows_len {qs : List Part} (ok : ∀ q ∈ qs, PartOk q) : (pageRows qs).length ≤ 8 * qs.length := by
  have z := flat_len (ns := qs.map Part.nest) fun n hn => by
    obtain ⟨q, hq, rfl⟩ := List.mem_map.mp hn
    exact (ok q hq).nest
  rw [List.length_map] at z
  exact z
theorem pageRows_rows {qs : List Part} (ok : ∀ q ∈ qs, PartOk q) : ∀ r ∈ pageRows qs, r.length ≤ 200 := fun r hr =>
  (flat_all (ns := qs.map Part.nest) (fun n hn => by
    obtain ⟨q, hq, rfl⟩ := List.mem_map.mp hn
    exact (ok q hq).nest) r hr).2
section
variable {P : Program} {w : World} {K : PySem.W.Frag} {mg : Str → Option Value} {base : Heap}
theorem scPage : FnScope ["_law_plan", "_law_rows", "_law_over", "_law_under", "_law_acts", "_law_act_here"] ["_law_plan"] (defScope sPage) := ⟨rfl, rfl, rfl, by decide +kernel, rfl, by decide +kernel, by decide +kernel⟩
theorem ok_page {f : Addr} {fd : FuncData} (F : Fun K "_law_page" "_law_page" sPage f fd) (KQ : Kn P w K mg base "_law_act_row" 1 ["_law_act_here"] (spActRow K)) (KV : Kn P w K mg base "_law_walk_row" 2 ["_law_walk_here"] (spWalkRow K)) : FnOk P w K mg base CX0 3 f fd ["_law_plan"] spPage := by
  obtain ⟨fQ, dQ, mQ, kQ, bQ, GQ⟩ := KQ
  obtain ⟨fR, dR, mR, kR, bR, GR⟩ := KV
  refine F.ok scPage (fun vs H Q E h => ?_) (fun cdv A outer s H vs Q E hr h => ?_)
  · obtain ⟨N, D, qs, rfl, _⟩ := h
    rfl
  · obtain ⟨N, D, qs, rfl, ⟨_, ts, hD, tl', hts⟩, ok, ql, q⟩ := h
    have big : 10000 ≤ sizeLine := by decide
    have hr1 := hr.mono (show 1 ≤ 2 by decide)
    refine ⟨_, pss_cons (ps_set (i := 1) scPage.nd rfl (.inl rfl) (pe_lst pa_nil))
      (pss_cons (ps_for PassesOwn.never rfl (pi_list (pv 0)) (pg_tup (by rfl) (pgs_cons (pg_name (i := 2) scPage.nd rfl (.inl rfl)) (pgs_cons (pg_name (i := 3) scPage.nd rfl (.inl rfl)) (pgs_cons (pg_name (i := 4) scPage.nd rfl (.inl rfl)) pgs_nil))))
        (pss_cons (ps_set (i := 1) scPage.nd rfl (.inl rfl) (pe_op op_cat (pv 1) (pe_lst (pa_cons (pe_op op_add_str pe_str (pe_call GR hr (by rfl) mR kR bR .nil pass0 (pa_cons (pv 2) pa_nil))) (pa_cons (pe_op op_add_str pe_str (pe_call GR hr (by rfl) mR kR bR .nil pass0 (pa_cons (pv 3) pa_nil))) pa_nil)))))
        (pss_one (ps_set (i := 1) scPage.nd rfl (.inl rfl) (pe_op op_cat (pv 1) (pe_lc (own := [("_law_act_here", 5)]) (g := gName 5) (by rfl) scPage.nd (pi_list (pv 4))
          (blkOk_by (own := [("_law_act_here", 5)]) (N := ["_law_plan", "_law_rows", "_law_over", "_law_under", "_law_acts", "_law_act_here"]) (sc := defScope sPage) (by decide +kernel)) (fun _ _ _ _ _ => pg_name (i := 5) scPage.nd rfl (Or.inl rfl)) (fun _ _ _ _ _ => pts_nil)
          (fun _ _ _ _ _ => pe_call GQ hr1 (by rfl) mQ kQ bQ .nil pass0 (pa_cons (pv 5) pa_nil))))))))
      (pss_one (ps_ret (pe_join pe_str (pv 1))))), ?_⟩
    refine ⟨Nat.zero_le _, fun R0 nR => ?_⟩
    have k0 := same_new (o := .lst []) nR
    refine ⟨_, rfl, D, rfl, ⟨_, SqL.of (k0 _ _ hD)⟩, ?_⟩
    refine for_list (xs := ts.map V.ref) (fun i σ H' => (∃ R v2 v3 v4 v5, σ = [some (.ref D), some (.ref R), v2, v3, v4, v5] ∧ H' R = some (.lst ((pageRows (qs.take i)).map V.str))) ∧ Same H H') ⟨⟨R0, _, _, _, _, rfl, upd_same⟩, k0⟩ (fun i σ H' _ h => SqL.of (h.2 _ _ hD)) (fun i x σ H' hi h => ?_) (fun σ H' h => ?_)
    · obtain ⟨⟨R, v2, v3, v4, v5, rfl, hR⟩, sm⟩ := h
      obtain ⟨t, ht, rfl⟩ : ∃ t, ts[i]? = some t ∧ x = .ref t := by
        rw [List.getElem?_map] at hi
        cases e : ts[i]? with
        | none => rw [e] at hi; cases hi
        | some r => rw [e] at hi; exact ⟨r, rfl, (Option.some.inj hi).symm⟩
      have hil : i < qs.length := by rw [← tl']; exact (List.getElem?_eq_some_iff.mp ht).1
      have hqi : qs[i]? = some qs[i] := List.getElem?_eq_getElem hil
      have okq := ok _ (List.getElem_mem hil)
      obtain ⟨o, u, l, as, _, _, _, _, h1, h2, h3, h4, h5, h6⟩ := hts i t _ ht hqi
      generalize qs[i] = p at *
      have T1 := okq.nest.l1
      have T2 := okq.nest.l2
      have o7 : ofrom.length = 7 := by decide +kernel
      have j7 : jfrom.length = 7 := by decide +kernel
      have plen : (pageRows (qs.take i)).length ≤ 40 := by
        have := pageRows_len (qs := qs.take i) fun q hq => ok q (List.mem_of_mem_take hq)
        rw [List.length_take] at this
        omega
      refine ⟨t, _, rfl, SqT.of (sm _ _ h1), rfl, _, _, rfl, _, _, rfl, _, _, rfl, rfl, ?_⟩
      refine ⟨_, rfl, ?_⟩
      refine ⟨_, rfl, o, p.o.1, p.o.2.1, p.o.2.2, rfl, SqT.of (sm _ _ h2), by have := okq.o1; omega, by have := okq.o2; omega, fun H1 s1 => ?_⟩
      refine ⟨ofrom, p.nest.1, rfl, rfl, by omega, ?_⟩
      refine ⟨_, rfl, u, p.u.1, p.u.2.1, p.u.2.2, rfl, SqT.of (s1 _ _ (sm _ _ h3)), okq.u1, okq.u2, fun H2 s2 => ?_⟩
      refine ⟨jfrom, p.nest.2.1, rfl, rfl, by omega, ?_⟩
      refine ⟨(by show 2 ≤ sizeLine; omega), fun a2 na2 => ?_⟩
      have k1 := (s1.trans s2).trans (same_new (o := .lst [.str (ofrom ++ p.nest.1), .str (jfrom ++ p.nest.2.1)]) na2)
      refine ⟨R, a2, _, _, rfl, rfl, k1 _ _ hR, upd_same, (by rw [List.length_map]; show (pageRows (qs.take i)).length + 2 ≤ sizeLine; omega), fun R2 nR2 => ?_⟩
      have k2 := k1.trans (same_new (o := .lst ((pageRows (qs.take i)).map V.str ++ [.str (ofrom ++ p.nest.1), .str (jfrom ++ p.nest.2.1)])) nR2)
      refine ⟨_, rfl, ?_⟩
      refine ⟨_, rfl, l, rfl, ⟨_, SqL.of (k2 _ _ (sm _ _ h4))⟩, fun D2 nD2 => ?_⟩
      have hR2 := new_at (o := .lst ((pageRows (qs.take i)).map V.str ++ [.str (ofrom ++ p.nest.1), .str (jfrom ++ p.nest.2.1)])) nR2
      refine lc_list (K := K) (a := l) (xs := as.map V.ref) (fun j H'' => Same _ H'' ∧ H'' D2 = some (.lst (((p.nest.2.2).take j).map V.str))) ⟨same_new nD2, upd_same⟩ (fun j H'' _ h => SqL.of (h.1 _ _ (k2 _ _ (sm _ _ h4)))) (fun j y H'' hj h => ?_) (fun H'' h => ?_)
      · obtain ⟨sj, hL⟩ := h
        refine ⟨rfl, ?_⟩
        obtain ⟨a, ha, rfl⟩ : ∃ a, as[j]? = some a ∧ y = .ref a := by
          rw [List.getElem?_map] at hj
          cases e : as[j]? with
          | none => rw [e] at hj; cases hj
          | some r => rw [e] at hj; exact ⟨r, rfl, (Option.some.inj hj).symm⟩
        have hjl : j < p.acts.length := by rw [← h5]; exact (List.getElem?_eq_some_iff.mp ha).1
        have hpj : p.acts[j]? = some p.acts[j] := List.getElem?_eq_getElem hjl
        have hA := (ActH.at (K := K) (h6 j a _ ha hpj)).ext ((sm.trans k2).trans sj)
        refine ⟨_, rfl, a, _, _, _, rfl, hA, okq.ok _ (List.getElem_mem hjl), fun H3 s3 => ⟨_, s3 _ _ hL, ?_, ?_, ?_⟩⟩
        · rw [List.length_map, List.length_take]
          have := okq.nest.dl
          omega
        · intro c z hc
          rw [upd_ne (ne_of_none hc nD2)]
          exact s3 c z (sj c z hc)
        · rw [upd_same, List.take_add_one, show p.nest.2.2[j]? = some (actS p.acts[j].1 p.acts[j].2.1 p.acts[j].2.2) from by unfold Part.nest; rw [List.getElem?_map, hpj]; rfl, List.map_append]
          rfl
      · obtain ⟨sj, hL⟩ := h
        rw [List.length_map, h5, show p.acts.length = p.nest.2.2.length from (List.length_map ..).symm, List.take_length] at hL
        refine ⟨R2, D2, _, _, rfl, rfl, sj _ _ hR2, hL, ?_, fun R3 nR3 => ?_⟩
        · have := okq.nest.dl
          rw [List.length_append, List.length_map, List.length_map]
          show (pageRows (qs.take i)).length + 2 + p.nest.2.2.length ≤ sizeLine
          omega
        · refine ⟨⟨R3, _, _, _, _, rfl, ?_⟩, ((sm.trans k2).trans sj).trans (same_new nR3)⟩
          rw [upd_same, pageRows_succ hqi, List.map_append, List.append_assoc]
          rfl
    · obtain ⟨⟨R, v2, v3, v4, v5, rfl, hR⟩, sm⟩ := h
      rw [List.length_map, tl', List.take_length] at hR
      refine ⟨⟨_, rfl⟩, _, rfl, "\n", R, pageRows qs, rfl, rfl, .inl (SqL.of hR), ?_, q H' sm⟩
      have b1 := sum_le (m := 200) (pageRows_rows ok)
      have b2 := pageRows_len ok
      have b3 : ("\n" : Str).length = 1 := by decide +kernel
      rw [b3]
      omega
end
end Sq.N3
namespace Sq.N3
open PySem L2 TL
abbrev sMade : Stmt := top 44
abbrev sBuilt : Stmt := top 45
section
variable {X : Cx} {CX : CXT} {k : Nat} {f C : Addr} {sp : Sp} {E : XK} {x : Str} {p pos : Pos}
theorem pe_makeR0 (M : Mk X.K C f) (F : FnR X.prog X.w X.K X.mg X.base CX k f sp) (hr : Room (k + 1) X.A) (hg : Gl X x) (hm : X.mg x = some (.ref C)) (hx : Passes CX X E) (hdb : (x == ("__debug__" : Str)) = false := by decide) :
    PE X (.Call (.Name x p) [] [] pos) (StX.tMakeR C sp E (fun σ H Q => Q [] H)) := by
  refine ⟨fun pins s σ H Q I h => ?_⟩
  refine wpAny_Call_Name_kw (ld_glob I hg hm ?_ hdb)
  exact PySem.W.callWith_K0 I.kIn M.kp (StX.run_makeR M F hr hx I .nil h)
end
def NestsAt (C : Addr) (H : Hp) (xs : List Addr) (ns : List NestD) : Prop := xs.length = ns.length ∧ ∀ (i : Nat) (x : Addr) (n : NestD), xs[i]? = some x → ns[i]? = some n → NestIs C H x n
def spMadeP (CP C : Addr) : Sp := fun vs H Q _ => ∃ (l : Addr) (xs : List Addr) (ns : List NestD), vs = [.ref l] ∧ H l = some (.lst (xs.map V.ref)) ∧ NestsAt C H xs ns ∧ ns.length ≤ 4 ∧ ∀ (x : Addr) (H' : Hp), Same H H' → ProgAt CP C H' x ns → Q (.ref x) H'
section
variable {P : Program} {w : World} {K : PySem.W.Frag} {mg : Str → Option Value} {base : Heap} {C CP fp : Addr}
theorem scMade : FnScope ["_law_nests"] ["_law_nests"] (defScope sMade) := ⟨rfl, rfl, rfl, by decide +kernel, rfl, by decide +kernel, by decide +kernel⟩
theorem ok_made {f : Addr} {fd : FuncData} (F : Fun K "_law_made" "_law_made" sMade f fd) (T : Bt mg) (mP : mg "Program" = some (.ref CP)) (mkp : Mk K CP fp) (GI : FnR P w K mg base CX0 2 fp (spPMade CP C)) : FnOk P w K mg base CX0 4 f fd ["_law_nests"] (spMadeP CP C) := by
  refine F.ok scMade (fun vs H Q E h => ?_) (fun cdv A outer s H vs Q E hr h => ?_)
  · obtain ⟨l, xs, ns, rfl, _⟩ := h
    rfl
  · obtain ⟨l, xs, ns, rfl, hl, ⟨hn, hns⟩, h4, q⟩ := h
    have hy : ∀ y ∈ xs, ∃ dy fs, H y = some (.ins C dy fs) := fun y my => by
      obtain ⟨j, hj⟩ := List.mem_iff_getElem?.mp my
      have hjl : j < ns.length := by have := (List.getElem?_eq_some_iff.mp hj).1; omega
      obtain ⟨dy, dp, ⟨R2, y1⟩, _⟩ := hns j y _ hj (List.getElem?_eq_getElem hjl)
      exact ⟨dy, _, y1⟩
    refine ⟨_, (pss_cons (ps_if (pt_cmpR op_eq (pe_callB call_len_seq (by rfl) T.len PySem.boot_len (pa_cons (pv 0) pa_nil)) pe_int (nomark _)) (pss_one (ps_ret (pe_makeR0 mkp GI hr (by rfl) mP pass0))) pss_nil)
      (pss_cons (ps_if (pt_cmpR op_eq (pe_callB call_len_seq (by rfl) T.len PySem.boot_len (pa_cons (pv 0) pa_nil)) pe_int (nomark _)) (pss_one (ps_ret (StX.pe_makeR mkp GI hr (by rfl) mP pass0 (pa_cons (pe_ix ix_list (pv 0) pe_int (fun _ _ => rfl)) pa_nil)))) pss_nil)
      (pss_cons (ps_if (pt_cmpR op_eq (pe_callB call_len_seq (by rfl) T.len PySem.boot_len (pa_cons (pv 0) pa_nil)) pe_int (nomark _)) (pss_one (ps_ret (StX.pe_makeR mkp GI hr (by rfl) mP pass0 (pa_cons (pe_ix ix_list (pv 0) pe_int (fun _ _ => rfl)) (pa_cons (pe_ix ix_list (pv 0) pe_int (fun _ _ => rfl)) pa_nil))))) pss_nil)
      (pss_cons (ps_if (pt_cmpR op_eq (pe_callB call_len_seq (by rfl) T.len PySem.boot_len (pa_cons (pv 0) pa_nil)) pe_int (nomark _)) (pss_one (ps_ret (StX.pe_makeR mkp GI hr (by rfl) mP pass0 (pa_cons (pe_ix ix_list (pv 0) pe_int (fun _ _ => rfl)) (pa_cons (pe_ix ix_list (pv 0) pe_int (fun _ _ => rfl)) (pa_cons (pe_ix ix_list (pv 0) pe_int (fun _ _ => rfl)) pa_nil)))))) pss_nil)
      (pss_cons (ps_if (pt_cmpR op_eq (pe_callB call_len_seq (by rfl) T.len PySem.boot_len (pa_cons (pv 0) pa_nil)) pe_int (nomark _)) (pss_one (ps_ret (StX.pe_makeR mkp GI hr (by rfl) mP pass0 (pa_cons (pe_ix ix_list (pv 0) pe_int (fun _ _ => rfl)) (pa_cons (pe_ix ix_list (pv 0) pe_int (fun _ _ => rfl)) (pa_cons (pe_ix ix_list (pv 0) pe_int (fun _ _ => rfl)) (pa_cons (pe_ix ix_list (pv 0) pe_int (fun _ _ => rfl)) pa_nil))))))) pss_nil)
      (pss_one (ps_ret (StX.pe_makeR mkp GI hr (by rfl) mP pass0 (pa_cons (pe_ix ix_list (pv 0) pe_int (fun _ _ => rfl)) (pa_cons (pe_ix ix_list (pv 0) pe_int (fun _ _ => rfl)) (pa_cons (pe_ix ix_list (pv 0) pe_int (fun _ _ => rfl)) (pa_cons (pe_ix ix_list (pv 0) pe_int (fun _ _ => rfl)) (pa_cons (pe_ix ix_list (pv 0) pe_int (fun _ _ => rfl)) pa_nil))))))))))))), ?_⟩
    match xs, hl, hn, hns, hy with
    | [], hl, hn, hns, hy =>
      refine ⟨_, rfl, l, _, rfl, .inl (SqL.of hl), rfl, _, rfl, ?_⟩
      refine iteT ?_
      refine fun x dx nx ndx _ => ?_
      exact made_prog (xs := []) nx ndx (by show 0 ≤ 4; omega) hy fun H' tp s hx ht => q x H' s ⟨dx, tp, [], hx, ht, hn, fun i y n h1 h2 => (hns i y n h1 h2).ext s⟩
    | [a0], hl, hn, hns, hy =>
      refine ⟨_, rfl, l, _, rfl, .inl (SqL.of hl), rfl, _, rfl, ?_⟩
      refine iteF ?_
      refine ⟨_, rfl, l, _, rfl, .inl (SqL.of hl), rfl, _, rfl, ?_⟩
      refine iteT ?_
      refine ⟨_, rfl, l, _, 0, _, rfl, rfl, SqL.of hl, rfl, fun x dx nx ndx _ => ?_⟩
      exact made_prog (xs := [a0]) nx ndx (by show 1 ≤ 4; omega) hy fun H' tp s hx ht => q x H' s ⟨dx, tp, [a0], hx, ht, hn, fun i y n h1 h2 => (hns i y n h1 h2).ext s⟩
    | [a0, a1], hl, hn, hns, hy =>
      refine ⟨_, rfl, l, _, rfl, .inl (SqL.of hl), rfl, _, rfl, ?_⟩
      refine iteF ?_
      refine ⟨_, rfl, l, _, rfl, .inl (SqL.of hl), rfl, _, rfl, ?_⟩
      refine iteF ?_
      refine ⟨_, rfl, l, _, rfl, .inl (SqL.of hl), rfl, _, rfl, ?_⟩
      refine iteT ?_
      refine ⟨_, rfl, l, _, 0, _, rfl, rfl, SqL.of hl, rfl, _, rfl, l, _, 1, _, rfl, rfl, SqL.of hl, rfl, fun x dx nx ndx _ => ?_⟩
      exact made_prog (xs := [a0, a1]) nx ndx (by show 2 ≤ 4; omega) hy fun H' tp s hx ht => q x H' s ⟨dx, tp, [a0, a1], hx, ht, hn, fun i y n h1 h2 => (hns i y n h1 h2).ext s⟩
    | [a0, a1, a2], hl, hn, hns, hy =>
      refine ⟨_, rfl, l, _, rfl, .inl (SqL.of hl), rfl, _, rfl, ?_⟩
      refine iteF ?_
      refine ⟨_, rfl, l, _, rfl, .inl (SqL.of hl), rfl, _, rfl, ?_⟩
      refine iteF ?_
      refine ⟨_, rfl, l, _, rfl, .inl (SqL.of hl), rfl, _, rfl, ?_⟩
      refine iteF ?_
      refine ⟨_, rfl, l, _, rfl, .inl (SqL.of hl), rfl, _, rfl, ?_⟩
      refine iteT ?_
      refine ⟨_, rfl, l, _, 0, _, rfl, rfl, SqL.of hl, rfl, _, rfl, l, _, 1, _, rfl, rfl, SqL.of hl, rfl, _, rfl, l, _, 2, _, rfl, rfl, SqL.of hl, rfl, fun x dx nx ndx _ => ?_⟩
      exact made_prog (xs := [a0, a1, a2]) nx ndx (by show 3 ≤ 4; omega) hy fun H' tp s hx ht => q x H' s ⟨dx, tp, [a0, a1, a2], hx, ht, hn, fun i y n h1 h2 => (hns i y n h1 h2).ext s⟩
    | [a0, a1, a2, a3], hl, hn, hns, hy =>
      refine ⟨_, rfl, l, _, rfl, .inl (SqL.of hl), rfl, _, rfl, ?_⟩
      refine iteF ?_
      refine ⟨_, rfl, l, _, rfl, .inl (SqL.of hl), rfl, _, rfl, ?_⟩
      refine iteF ?_
      refine ⟨_, rfl, l, _, rfl, .inl (SqL.of hl), rfl, _, rfl, ?_⟩
      refine iteF ?_
      refine ⟨_, rfl, l, _, rfl, .inl (SqL.of hl), rfl, _, rfl, ?_⟩
      refine iteF ?_
      refine ⟨_, rfl, l, _, rfl, .inl (SqL.of hl), rfl, _, rfl, ?_⟩
      refine iteT ?_
      refine ⟨_, rfl, l, _, 0, _, rfl, rfl, SqL.of hl, rfl, _, rfl, l, _, 1, _, rfl, rfl, SqL.of hl, rfl, _, rfl, l, _, 2, _, rfl, rfl, SqL.of hl, rfl, _, rfl, l, _, 3, _, rfl, rfl, SqL.of hl, rfl, fun x dx nx ndx _ => ?_⟩
      exact made_prog (xs := [a0, a1, a2, a3]) nx ndx (by show 4 ≤ 4; omega) hy fun H' tp s hx ht => q x H' s ⟨dx, tp, [a0, a1, a2, a3], hx, ht, hn, fun i y n h1 h2 => (hns i y n h1 h2).ext s⟩
    | _ :: _ :: _ :: _ :: _ :: _, hl, hn, hns, hy => exact absurd hn (by simp only [List.length_cons]; omega)
end
end Sq.N3
namespace Sq.N3
open PySem L2 TL
def spBuilt (CP C : Addr) : Sp := fun vs H Q _ => ∃ (N : Addr → Prop) (D : Addr) (qs : List Part), vs = [.ref D] ∧ PlanH N H D qs ∧ (∀ q ∈ qs, PartOk q) ∧ qs.length ≤ 4 ∧ ∀ (x : Addr) (H' : Hp), Same H H' → ProgAt CP C H' x (qs.map Part.nest) → Q (.ref x) H'
section
variable {P : Program} {w : World} {K : PySem.W.Frag} {mg : Str → Option Value} {base : Heap} {C CP : Addr}
theorem scBuilt : FnScope ["_law_plan", "_law_rows", "_law_over", "_law_under", "_law_acts", "_law_act_here", "_law_loops", "_law_k"] ["_law_plan"] (defScope sBuilt) := ⟨rfl, rfl, rfl, by decide +kernel, rfl, by decide +kernel, by decide +kernel⟩
theorem ref_at {xs : List Addr} {i : Nat} {x : V} (hi : (xs.map V.ref)[i]? = some x) : ∃ a, xs[i]? = some a ∧ x = .ref a := by
  rw [List.getElem?_map] at hi
  cases e : xs[i]? with
  | none => rw [e] at hi; cases hi
  | some r => rw [e] at hi; exact ⟨r, rfl, (Option.some.inj hi).symm⟩
def compSc (st : Stmt) : Scope := match (defBody st).head? with
  | some (.Assign _ (.ListComp _ _ sc _) _) => sc
  | _ => defScope st
def gOUA (K : PySem.W.Frag) : TG := gTup K 3 (gCons (gName 2) (gCons (gName 3) (gCons (gName 4) gNil)))
theorem ok_built {f : Addr} {fd : FuncData} (F : Fun K "_law_built" "_law_built" sBuilt f fd) (T : Bt mg) (KQ : Kn P w K mg base "_law_act_row" 1 ["_law_act_here"] (spActRow K)) (KV : Kn P w K mg base "_law_walk_row" 2 ["_law_walk_here"] (spWalkRow K))
    (KM : Kn P w K mg base "_law_made_nest" 6 ["_law_over", "_law_under", "_law_deeds"] (spMadeN K C)) (KP : Kn P w K mg base "_law_made" 4 ["_law_nests"] (spMadeP CP C)) : FnOk P w K mg base CX0 7 f fd ["_law_plan"] (spBuilt CP C) := by
  obtain ⟨fQ, dQ, mQ, kQ, bQ, GQ⟩ := KQ
  obtain ⟨fR, dR, mR, kR, bR, GR⟩ := KV
  obtain ⟨fM, dM, mM, kM, bM, GM⟩ := KM
  obtain ⟨fP, dP, mP, kP, bP, GP⟩ := KP
  refine F.ok scBuilt (fun vs H Q E h => ?_) (fun cdv A outer s H vs Q E hr h => ?_)
  · obtain ⟨N, D, qs, rfl, _⟩ := h
    rfl
  · obtain ⟨N, D, qs, rfl, ⟨_, ts, hD, tl', hts⟩, ok, ql, q⟩ := h
    have big : 10000 ≤ sizeLine := by decide
    have hr1 := hr.mono (show 1 ≤ 6 by decide)
    have hr2 := hr.mono (show 2 ≤ 6 by decide)
    have hr4 := hr.mono (show 4 ≤ 6 by decide)
    refine ⟨_, pss_cons (ps_set (i := 1) scBuilt.nd rfl (.inr rfl) (pe_lc (own := [("_law_over", 2), ("_law_under", 3), ("_law_acts", 4)]) (g := gOUA K) (by rfl) scBuilt.nd (pi_list (pv 0)) (blkOk_by (own := [("_law_over", 2), ("_law_under", 3), ("_law_acts", 4)]) (N := ["_law_plan", "_law_rows", "_law_over", "_law_under", "_law_acts", "_law_act_here", "_law_loops", "_law_k"]) (sc := defScope sBuilt) (by decide +kernel))
          (fun _ _ _ _ _ => pg_tup (by rfl) (pgs_cons (pg_name (i := 2) scBuilt.nd rfl (Or.inl rfl)) (pgs_cons (pg_name (i := 3) scBuilt.nd rfl (Or.inl rfl)) (pgs_cons (pg_name (i := 4) scBuilt.nd rfl (Or.inl rfl)) pgs_nil)))) (fun _ _ _ _ _ => pts_nil)
          (fun _ _ _ _ _ => (show PE _ _ (tLc (iList K (tVar 4)) (gName 5) tYes (tCall (spActRow K) [] E0 (tCons (tVar 5) tNil)) [5]) from pe_lc (own := [("_law_act_here", 5)]) (g := gName 5) (by rfl) scBuilt.nd (pi_list (pv 4)) (blkOk_by (own := [("_law_act_here", 5)]) (N := ["_law_plan", "_law_rows", "_law_over", "_law_under", "_law_acts", "_law_act_here", "_law_loops", "_law_k"]) (sc := compSc sBuilt) (by decide +kernel)) (fun _ _ _ _ _ => pg_name (i := 5) scBuilt.nd rfl (Or.inl rfl)) (fun _ _ _ _ _ => pts_nil)
            (fun _ _ _ _ _ => pe_call GQ hr1 (by rfl) mQ kQ bQ .nil pass0 (pa_cons (pv 5) pa_nil))))))
      (pss_cons (ps_set (i := 6) scBuilt.nd rfl (.inr rfl) (pe_lc (own := [("_law_over", 2), ("_law_under", 3), ("_law_acts", 4)]) (g := gOUA K) (by rfl) scBuilt.nd (pi_list (pv 0)) (blkOk_by (own := [("_law_over", 2), ("_law_under", 3), ("_law_acts", 4)]) (N := ["_law_plan", "_law_rows", "_law_over", "_law_under", "_law_acts", "_law_act_here", "_law_loops", "_law_k"]) (sc := defScope sBuilt) (by decide +kernel))
          (fun _ _ _ _ _ => pg_tup (by rfl) (pgs_cons (pg_name (i := 2) scBuilt.nd rfl (Or.inl rfl)) (pgs_cons (pg_name (i := 3) scBuilt.nd rfl (Or.inl rfl)) (pgs_cons (pg_name (i := 4) scBuilt.nd rfl (Or.inl rfl)) pgs_nil)))) (fun _ _ _ _ _ => pts_nil)
          (fun _ _ _ _ _ => pe_tup (pa_cons (pe_call GR hr2 (by rfl) mR kR bR .nil pass0 (pa_cons (pv 2) pa_nil)) (pa_cons (pe_call GR hr2 (by rfl) mR kR bR .nil pass0 (pa_cons (pv 3) pa_nil)) pa_nil)))))
      (pss_one (ps_ret (pe_call GP hr4 (by rfl) mP kP bP .nil pass0 (pa_cons (pe_lc (own := [("_law_k", 7)]) (g := gName 7) (by rfl) scBuilt.nd (pi_range1 (by rfl) T.range (pa_cons (pe_callB call_len_seq (by rfl) T.len PySem.boot_len (pa_cons (pv 0) pa_nil)) pa_nil)) (blkOk_by (own := [("_law_k", 7)]) (N := ["_law_plan", "_law_rows", "_law_over", "_law_under", "_law_acts", "_law_act_here", "_law_loops", "_law_k"]) (sc := defScope sBuilt) (by decide +kernel))
          (fun _ _ _ _ _ => pg_name (i := 7) scBuilt.nd rfl (Or.inl rfl)) (fun _ _ _ _ _ => pts_nil)
          (fun _ _ _ _ _ => pe_call GM hr (by rfl) mM kM bM .nil pass0 (pa_cons (show PE _ _ (tOp (L2.rIxT K) (tOp (rIxL K) (tVar 6) (tVar 7)) (tC (V.int 0))) from pe_ix ix_tup (pe_ix ix_list (pv 6) (pv 7) (fun _ _ => rfl)) pe_int (fun _ _ => rfl))
            (pa_cons (show PE _ _ (tOp (L2.rIxT K) (tOp (rIxL K) (tVar 6) (tVar 7)) (tC (V.int 1))) from pe_ix ix_tup (pe_ix ix_list (pv 6) (pv 7) (fun _ _ => rfl)) pe_int (fun _ _ => rfl))
            (pa_cons (show PE _ _ (tOp (rIxL K) (tVar 1) (tVar 7)) from pe_ix ix_list (pv 1) (pv 7) (fun _ _ => rfl)) pa_nil))))) pa_nil))))), ?_⟩
    refine ⟨_, rfl, D, rfl, ⟨_, SqL.of hD⟩, fun D1 nD1 => ?_⟩
    refine lc_list (K := K) (a := D) (xs := ts.map V.ref) (fun i H' => Same H H' ∧ ∃ ls : List Addr, H' D1 = some (.lst (ls.map V.ref)) ∧ ls.length = i ∧ ∀ (j : Nat) (l : Addr) (p : Part), ls[j]? = some l → qs[j]? = some p → l ≠ D1 ∧ H' l = some (.lst (p.nest.2.2.map V.str)))
      ⟨same_new nD1, [], upd_same, rfl, fun j l p h _ => by cases h⟩ (fun i H' _ h => SqL.of (h.1 _ _ hD)) (fun i x H' hi h => ?_) (fun H1 h => ?_)
    · obtain ⟨sm, ls, hD1, ll, hls⟩ := h
      obtain ⟨t, ht, rfl⟩ := ref_at hi
      have hil : i < qs.length := by rw [← tl']; exact (List.getElem?_eq_some_iff.mp ht).1
      have hqi : qs[i]? = some qs[i] := List.getElem?_eq_getElem hil
      have okq := ok _ (List.getElem_mem hil)
      obtain ⟨o, u, l, as, _, _, _, _, h1, h2, h3, h4, h5, h6⟩ := hts i t _ ht hqi
      generalize qs[i] = p at *
      refine ⟨t, _, rfl, SqT.of (sm _ _ h1), rfl, _, _, rfl, _, _, rfl, _, _, rfl, rfl, rfl, ?_⟩
      refine ⟨_, rfl, l, rfl, ⟨_, SqL.of (sm _ _ h4)⟩, fun D2 nD2 => ?_⟩
      refine lc_list (K := K) (a := l) (xs := as.map V.ref) (fun j H'' => Same H' H'' ∧ H'' D2 = some (.lst (((p.nest.2.2).take j).map V.str))) ⟨same_new nD2, upd_same⟩ (fun j H'' _ h => SqL.of (h.1 _ _ (sm _ _ h4))) (fun j y H'' hj h => ?_) (fun H'' h => ?_)
      · obtain ⟨sj, hL⟩ := h
        refine ⟨rfl, ?_⟩
        obtain ⟨a, ha, rfl⟩ := ref_at hj
        have hjl : j < p.acts.length := by rw [← h5]; exact (List.getElem?_eq_some_iff.mp ha).1
        have hpj : p.acts[j]? = some p.acts[j] := List.getElem?_eq_getElem hjl
        have hA := (ActH.at (K := K) (h6 j a _ ha hpj)).ext (sm.trans sj)
        refine ⟨_, rfl, a, _, _, _, rfl, hA, okq.ok _ (List.getElem_mem hjl), fun H3 s3 => ⟨_, s3 _ _ hL, ?_, ?_, ?_⟩⟩
        · rw [List.length_map, List.length_take]
          have := okq.nest.dl
          omega
        · intro c z hc
          rw [upd_ne (ne_of_none hc nD2)]
          exact s3 c z (sj c z hc)
        · rw [upd_same, List.take_add_one, show p.nest.2.2[j]? = some (actS p.acts[j].1 p.acts[j].2.1 p.acts[j].2.2) from by unfold Part.nest; rw [List.getElem?_map, hpj]; rfl, List.map_append]
          rfl
      · obtain ⟨sj, hL⟩ := h
        rw [List.length_map, h5, show p.acts.length = p.nest.2.2.length from (List.length_map ..).symm, List.take_length] at hL
        have nD21 : D2 ≠ D1 := fun e => by rw [e, hD1] at nD2; cases nD2
        refine ⟨_, sj _ _ hD1, by rw [List.length_map]; omega, ?_, ls ++ [D2], ?_, ?_, fun j m p' hj hp => ?_⟩
        · intro c z hc
          rw [upd_ne (ne_of_none hc nD1)]
          exact sj _ _ (sm _ _ hc)
        · rw [upd_same, List.map_append]
          rfl
        · rw [List.length_append, ll]
          rfl
        · by_cases hjl : j < ls.length
          · rw [List.getElem?_append_left hjl] at hj
            obtain ⟨n1, e⟩ := hls j m p' hj hp
            exact ⟨n1, by rw [upd_ne n1]; exact sj _ _ e⟩
          · rw [List.getElem?_append_right (by omega)] at hj
            cases hd : j - ls.length with
            | zero =>
              rw [hd] at hj
              cases hj
              rw [show j = i by omega, hqi] at hp
              cases hp
              exact ⟨nD21, by rw [upd_ne nD21]; exact hL⟩
            | succ n =>
              rw [hd] at hj
              cases hj
    obtain ⟨s1, ls, hD1, ll, hls⟩ := h
    rw [List.length_map, tl'] at ll
    refine ⟨_, rfl, D, rfl, ⟨_, SqL.of (s1 _ _ hD)⟩, fun D3 nD3 => ?_⟩
    refine lc_list (K := K) (a := D) (xs := ts.map V.ref) (fun i H' => Same H1 H' ∧ ∃ ps : List Addr, H' D3 = some (.lst (ps.map V.ref)) ∧ ps.length = i ∧ ∀ (j : Nat) (l : Addr) (p : Part), ps[j]? = some l → qs[j]? = some p → l ≠ D3 ∧ H' l = some (.tup [.str p.nest.1, .str p.nest.2.1]))
      ⟨same_new nD3, [], upd_same, rfl, fun j l p h _ => by cases h⟩ (fun i H' _ h => SqL.of (h.1 _ _ (s1 _ _ hD))) (fun i x H' hi h => ?_) (fun H2 h => ?_)
    · obtain ⟨sm, ps, hD3, pl, hps⟩ := h
      obtain ⟨t, ht, rfl⟩ := ref_at hi
      have hil : i < qs.length := by rw [← tl']; exact (List.getElem?_eq_some_iff.mp ht).1
      have hqi : qs[i]? = some qs[i] := List.getElem?_eq_getElem hil
      have okq := ok _ (List.getElem_mem hil)
      obtain ⟨o, u, l, as, _, _, _, _, h1, h2, h3, h4, h5, h6⟩ := hts i t _ ht hqi
      generalize qs[i] = p at *
      have s01 := s1.trans sm
      refine ⟨t, _, rfl, SqT.of (s01 _ _ h1), rfl, _, _, rfl, _, _, rfl, _, _, rfl, rfl, rfl, ?_⟩
      refine ⟨_, rfl, o, p.o.1, p.o.2.1, p.o.2.2, rfl, SqT.of (s01 _ _ h2), by have := okq.o1; omega, by have := okq.o2; omega, fun H3 s3 => ?_⟩
      refine ⟨_, rfl, u, p.u.1, p.u.2.1, p.u.2.2, rfl, SqT.of (s3 _ _ (s01 _ _ h3)), okq.u1, okq.u2, fun H4 s4 => ?_⟩
      refine ⟨(by show 2 ≤ sizeLine; omega), fun tp ntp => ?_⟩
      have s34 := (s3.trans s4).trans (same_new (o := .tup [.str p.nest.1, .str p.nest.2.1]) ntp)
      have hD34 := s34 _ _ hD3
      have nt3 : tp ≠ D3 := fun e => by
        have z := (s3.trans s4) _ _ hD3
        rw [← e, ntp] at z
        cases z
      refine ⟨_, hD34, by rw [List.length_map]; omega, ?_, ps ++ [tp], ?_, ?_, fun j m p' hj hp => ?_⟩
      · intro c z hc
        rw [upd_ne (ne_of_none hc nD3)]
        exact s34 _ _ (sm _ _ hc)
      · rw [upd_same, List.map_append]
        rfl
      · rw [List.length_append, pl]
        rfl
      · by_cases hjl : j < ps.length
        · rw [List.getElem?_append_left hjl] at hj
          obtain ⟨n1, e⟩ := hps j m p' hj hp
          exact ⟨n1, by rw [upd_ne n1]; exact s34 _ _ e⟩
        · rw [List.getElem?_append_right (by omega)] at hj
          cases hd : j - ps.length with
          | zero =>
            rw [hd] at hj
            cases hj
            rw [show j = i by omega, hqi] at hp
            cases hp
            exact ⟨nt3, by rw [upd_ne nt3]; exact upd_same⟩
          | succ n =>
            rw [hd] at hj
            cases hj
    obtain ⟨s2, ps, hD3, pl, hps⟩ := h
    rw [List.length_map, tl'] at pl
    refine ⟨_, rfl, D, _, rfl, .inl (SqL.of (s2 _ _ (s1 _ _ hD))), ?_⟩
    rw [List.length_map, tl']
    refine ⟨_, rfl, by omega, by omega, fun D5 nD5 => ?_⟩
    refine lc_range (lo := 0) (fun i H' => Same H2 H' ∧ ∃ xs : List Addr, H' D5 = some (.lst (xs.map V.ref)) ∧ xs.length = i ∧ ∀ (j : Nat) (x : Addr) (p : Part), xs[j]? = some x → qs[j]? = some p → NestIs C H' x p.nest)
      ⟨same_new nD5, [], upd_same, rfl, fun j l p h _ => by cases h⟩ (fun i H' hi h => ?_) (fun H' h => ?_)
    · obtain ⟨sm, xs, hD5, xl, hxs⟩ := h
      have hil : i < qs.length := by omega
      have hqi : qs[i]? = some qs[i] := List.getElem?_eq_getElem hil
      have okq := ok _ (List.getElem_mem hil)
      have hlsi : ls[i]? = some ls[i] := List.getElem?_eq_getElem (by omega)
      have hpsi : ps[i]? = some ps[i] := List.getElem?_eq_getElem (by omega)
      have e1 := (hls i _ _ hlsi hqi).2
      have e2 := (hps i _ _ hpsi hqi).2
      generalize qs[i] = p at *
      generalize ls[i] = lr at *
      generalize ps[i] = pr at *
      rw [Int.zero_add]
      have at6 : atI (ps.map V.ref) ((i : Nat) : Int) = some (.ref pr) := atI_nat (by rw [List.getElem?_map, hpsi]; rfl)
      have at1 : atI (ls.map V.ref) ((i : Nat) : Int) = some (.ref lr) := atI_nat (by rw [List.getElem?_map, hlsi]; rfl)
      refine ⟨rfl, ?_⟩
      refine ⟨_, rfl, _, rfl, D3, _, _, _, rfl, rfl, SqL.of (sm _ _ hD3), at6, pr, _, 0, _, rfl, rfl, SqT.of (sm _ _ e2), rfl, ?_⟩
      refine ⟨_, rfl, _, rfl, D3, _, _, _, rfl, rfl, SqL.of (sm _ _ hD3), at6, pr, _, 1, _, rfl, rfl, SqT.of (sm _ _ e2), rfl, ?_⟩
      refine ⟨_, rfl, _, rfl, D1, _, _, _, rfl, rfl, SqL.of (sm _ _ (s2 _ _ hD1)), at1, ?_⟩
      refine ⟨p.nest, lr, rfl, SqL.of (sm _ _ (s2 _ _ e1)), okq.nest.ok, fun x H3 s3 hx => ⟨_, s3 _ _ hD5, by rw [List.length_map]; omega, ?_, xs ++ [x], ?_, ?_, fun j y p' hj hp => ?_⟩⟩
      · intro c z hc
        rw [upd_ne (ne_of_none hc nD5)]
        exact s3 _ _ (sm _ _ hc)
      · rw [upd_same, List.map_append]
        rfl
      · rw [List.length_append, xl]
        rfl
      · have up : ∀ y n, NestIs C H3 y n → NestIs C (upd H3 D5 (.lst (xs.map V.ref ++ [.ref x]))) y n := fun y n hy => by
          obtain ⟨dy, dp, ⟨R2, y1⟩, y2⟩ := hy
          have hD3 := s3 _ _ hD5
          exact ⟨dy, dp, ⟨R2, by rw [upd_ne (fun e => by rw [e, hD3] at y1; cases y1)]; exact y1⟩, by rw [upd_ne (fun e => by rw [e, hD3] at y2; cases y2)]; exact y2⟩
        by_cases hjl : j < xs.length
        · rw [List.getElem?_append_left hjl] at hj
          exact up y _ ((hxs j y p' hj hp).ext s3)
        · rw [List.getElem?_append_right (by omega)] at hj
          cases hd : j - xs.length with
          | zero =>
            rw [hd] at hj
            cases hj
            rw [show j = i by omega, hqi] at hp
            cases hp
            exact up _ _ hx
          | succ n =>
            rw [hd] at hj
            cases hj
    · obtain ⟨sm, xs, hD5, xl, hxs⟩ := h
      refine ⟨D5, xs, qs.map Part.nest, rfl, hD5, ⟨by rw [List.length_map]; omega, fun j x n hx hn => ?_⟩, by rw [List.length_map]; exact ql, fun x H3 s3 pa => q x H3 (((s1.trans s2).trans sm).trans s3) pa⟩
      rw [List.getElem?_map] at hn
      cases e : qs[j]? with
      | none => rw [e] at hn; cases hn
      | some p =>
        rw [e] at hn
        cases hn
        exact hxs j x p hx e
end
end Sq.N3
namespace Sq
open PySem PySem.Spec PyProof.Rows GQ
variable {prog : Program} {w : World} {A : Around} {R : Result → Shared → Prop}
/-- tuple == tuple with both answers: the items that are compared, one by one -/
theorem tuple_two (l b : Addr) (p q : Array Value) (n1 n2 : Nat) (d1 d2 : Option Addr) (s1 s2 : Array (Option Value)) (I : Nat → Shared → Prop) (eq : Nat → Bool)
    (turn : ∀ i (h1 : i < p.size) (h2 : i < q.size) s, I i s → (∀ j < i, eq j = true) → wpAny (model prog w) A.in1 (eqBool p[i] q[i]) (fun r s' => r = eq i ∧ I (i + 1) s') (fun e s' => R (.error e) s') s)
    (fin : ∀ i s, I i s → R (.ok (.ret (.bool (decide (p.size = q.size) && (List.range (min p.size q.size)).all eq)))) s) {s : Shared}
    (hl : s.heap.get? l = some { cls := .type "tuple", dict := d1, data := .seq p n1, slots := s1 }) (hb : s.heap.get? b = some { cls := .type "tuple", dict := d2, data := .seq q n2, slots := s2 }) (h0 : I 0 s) :
    wpAny (model prog w) A.in1 (Builtin.«tuple.__eq__» ⟨[.ref l, .ref b], []⟩) (FinOf prog w A R) (fun e s' => R (.error e) s') s := by
  have f2 := AutoSeq1.sub_tuple_tuple
  have lz : (p.toList.zip q.toList).length = min p.size q.size := by simp
  have k0 := h0
  obtain ⟨hp, g, d, tk, os⟩ := s
  wp_walk using wpAny_loadPart' hl, wpAny_loadPart' hb, wpAny_forIn_list _ (fun rest st s' => st.1 = none ∧ ∃ i, rest = (p.toList.zip q.toList).drop i ∧ i ≤ min p.size q.size ∧ I i s' ∧ ∀ j < i, eq j = true) _
  case turn =>
    rintro ⟨x, y⟩ rest st s' ⟨_, i, hz, _, hI, before⟩
    have hm : i < min p.size q.size := by
      rw [← lz]
      exact Classical.byContradiction fun z => by
        rw [List.drop_of_length_le (Nat.le_of_not_lt z)] at hz
        exact List.cons_ne_nil _ _ hz
    have h1 : i < p.size := by omega
    have h2 : i < q.size := by omega
    rw [List.drop_eq_getElem_cons (show i < (p.toList.zip q.toList).length by omega)] at hz
    obtain ⟨hxy, hrest⟩ := List.cons.inj hz
    obtain ⟨rfl, rfl⟩ : x = p[i] ∧ y = q[i] := by
      have a := congrArg Prod.fst hxy
      have c := congrArg Prod.snd hxy
      exact ⟨by simpa using a, by simpa using c⟩
    refine wpAny_bind (wpAny_mono (turn i h1 h2 s' hI before) (fun r s2 z => ?_) fun _ _ e => e)
    obtain ⟨rfl, z⟩ := z
    cases he : eq i with
    | true =>
      wp_walk
      refine ⟨rfl, i + 1, hrest, hm, z, fun j hj => ?_⟩
      by_cases e : j = i
      · rw [e, he]
      · exact before j (by omega)
    | false =>
      have f := fin (i + 1) s2 z
      have no : (List.range (min p.size q.size)).all eq = false := by
        rw [List.all_eq_false]
        exact ⟨i, List.mem_range.mpr hm, by rw [he]; decide⟩
      rw [no, Bool.and_false] at f
      wp_walk
      exact f
  case fin =>
    rintro ⟨o, u⟩ s' ⟨ho, i, hz, hi, hI, before⟩
    simp only at ho
    subst ho
    have hge : min p.size q.size ≤ i := by
      rw [← lz]
      exact Classical.byContradiction fun z => by
        rw [List.drop_eq_getElem_cons (Nat.lt_of_not_le z)] at hz
        exact List.cons_ne_nil _ _ hz.symm
    have yes : (List.range (min p.size q.size)).all eq = true := by
      rw [List.all_eq_true]
      exact fun j hj => before j (by have := List.mem_range.mp hj; omega)
    have f := fin i s' hI
    rw [yes, Bool.and_true] at f
    wp_walk
    show R (.ok (.ret (.bool (p.size == q.size)))) _
    rw [show (p.size == q.size) = decide (p.size = q.size) from rfl]
    exact f
  case h => exact ⟨rfl, 0, rfl, Nat.zero_le _, k0, fun j hj => absurd hj (Nat.not_lt_zero _)⟩
theorem rc_two {E : Value → Shared → Prop} {s : Shared} {l b : Addr} {p q : Array Value} {Q : Value → Shared → Prop} (hu : A.units < cLine) (I : Nat → Shared → Prop) (eq : Nat → Bool) (hl : s.heap.IsTuple l p) (hb : s.heap.IsTuple b q)
    (turn : ∀ i (h1 : i < p.size) (h2 : i < q.size) s, I i s → (∀ j < i, eq j = true) → wpAny (model prog w) A.in1 (eqBool p[i] q[i]) (fun r s' => r = eq i ∧ I (i + 1) s') E s)
    (fin : ∀ i s, I i s → Q (.bool (decide (p.size = q.size) && (List.range (min p.size q.size)).all eq)) s) (h0 : I 0 s) : wpAny (model prog w) A (richCompare .Eq (.ref l) (.ref b)) Q E s := by
  obtain ⟨⟨c1, d1, t1, s1⟩, e1, rfl, n1, rfl⟩ := id hl
  obtain ⟨⟨c2, d2, t2, s2⟩, e2, rfl, n2, rfl⟩ := id hb
  have below := tuple_two (prog := prog) (w := w) (A := A) (R := wants (fun v s' => v ≠ .notImplemented ∧ Q v s') E) l b p q n1 n2 d1 d2 s1 s2 I eq turn (fun i s' z => ⟨(fun e => nomatch e), fin i s' z⟩) e1 e2 h0
  exact wpAny_richCompare_same_room (op := .Eq) ⟨_, e1, rfl⟩ ⟨_, e2, rfl⟩ F.slot_tuple_eq (call_here F.slot_tuple_eq ⟨_, e1, rfl⟩ F.entry_tuple_eq (F.args_tuple_eq_2 _ _) below) hu
end Sq
namespace Sq
open PySem L2 PySem.Spec PyProof.Rows
/-! ### == with both answers, by the abstract heap -/
abbrev Two := V → V → Hp → Bool → Prop
def Stays (D : Two) : Prop := ∀ x y H H' r, L2.Ext H H' → D x y H r → D x y H' r
def EqTwo (X : Cx) (n : Nat) (D : Two) : Prop := ∀ (A : Around) (pins : List (Addr × Obj)) (s : Shared) (σ : L2.St) (H : Hp) (x y : V) (u v : Value) (r : Bool), Sub X n A → Inv X pins σ H s → RelV x u → RelV y v → D x y H r →
  wpAny (model X.prog X.w) A (eqBool u v) (fun t s' => t = r ∧ ∃ H', Inv X pins σ H' s' ∧ L2.Ext H H') X.xe s
def RcTwo (X : Cx) (n : Nat) (D : Two) : Prop := ∀ (A : Around) (pins : List (Addr × Obj)) (s : Shared) (σ : L2.St) (H : Hp) (x y : V) (u v : Value) (r : Bool), Sub X n A → Inv X pins σ H s → RelV x u → RelV y v → D x y H r →
  wpAny (model X.prog X.w) A (richCompare .Eq u v) (fun t s' => t = .bool r ∧ ∃ H', Inv X pins σ H' s' ∧ L2.Ext H H') X.xe s
/-- tuples: item by item, as far as both go -/
def TupTwo (K : PySem.W.Frag) (D : Two) : Two := fun x y H r => ∃ (a b : Addr) (xs ys : List V) (eq : Nat → Bool), x = .ref a ∧ y = .ref b ∧ SqT K H a xs ∧ SqT K H b ys ∧
  (∀ i u v, xs[i]? = some u → ys[i]? = some v → D u v H (eq i)) ∧ r = (decide (xs.length = ys.length) && (List.range (min xs.length ys.length)).all eq)
section
variable {X : Cx} {n : Nat} {D : Two}
theorem rc_tupTwo (mon : Stays D) (h : EqTwo X n D) : RcTwo X (n + 1) (TupTwo X.K D) := by
  intro A pins s σ H x y u v r sb I rx ry d
  obtain ⟨a, b, xs, ys, eq, rfl, rfl, hxs, hys, items, rfl⟩ := d
  cases rx
  cases ry
  obtain ⟨p, rp, tp, lp⟩ := I.tuple hxs
  obtain ⟨q, rq, tq, lq⟩ := I.tuple hys
  have hp : p.toArray.size = xs.length := by rw [List.size_toArray, rp.length]
  have hq : q.toArray.size = ys.length := by rw [List.size_toArray, rq.length]
  refine rc_two sb.room.units0 (fun _ s' => ∃ H', Inv X pins σ H' s' ∧ L2.Ext H H') eq tp tq (fun i h1 h2 s' z _ => ?_) (fun i s' z => ⟨?_, z⟩) ⟨H, I, L2.Ext.rfl'⟩
  · obtain ⟨H1, I1, e1⟩ := z
    have i1 : i < xs.length := by omega
    have i2 : i < ys.length := by omega
    obtain ⟨u, hu, ru⟩ := rp.get (List.getElem?_eq_getElem i1)
    obtain ⟨v, hv, rv⟩ := rq.get (List.getElem?_eq_getElem i2)
    have eu : p.toArray[i] = u := by
      have g : p[i]? = some p.toArray[i] := by simp
      exact Option.some.inj (g.symm.trans hu)
    have ev : q.toArray[i] = v := by
      have g : q[i]? = some q.toArray[i] := by simp
      exact Option.some.inj (g.symm.trans hv)
    rw [eu, ev]
    have dd := mon _ _ _ _ _ e1 (items i _ _ (List.getElem?_eq_getElem i1) (List.getElem?_eq_getElem i2))
    refine wpAny_mono (h A.in1 pins s' σ H1 _ _ u v (eq i) sb.in1 I1 ru rv dd) (fun t s2 z => ?_) fun _ _ e => e
    obtain ⟨ht, H2, I2, e2⟩ := z
    exact ⟨ht, H2, I2, e1.trans e2⟩
  · rw [hp, hq]
/-! ### instances with the text's own ==, both answers -/
def InsTwo (C : Addr) (R : Addr → Addr → Hp → Bool → Prop) : Two := fun x y H r => ∃ (a b dx dy : Addr) (fs gs : List (Str × V)), x = .ref a ∧ y = .ref b ∧ H a = some (.ins C dx fs) ∧ H b = some (.ins C dy gs) ∧ R a b H r
def spTwo (R : Addr → Addr → Hp → Bool → Prop) : Sp := fun vs H Q _ => ∃ (a b : Addr) (r : Bool), vs = [.ref a, .ref b] ∧ R a b H r ∧ ∀ H', L2.Ext H H' → Q (.bl r) H'
theorem rc_insTwo {CX : CXT} {C f : Addr} {fd : FuncData} {ps : List Str} {R : Addr → Addr → Hp → Bool → Prop} {E : XK} (F : FnOk X.prog X.w X.K X.mg X.base CX n f fd ps (spTwo R)) (he : PySem.W.findIn X.K (.ref C) "__eq__" = some (some (.ref f))) (hf : PySem.W.isFn X.K (.ref f) = true)
    (b : Binds X.K fd ps []) (pass : Passes CX X E) : RcTwo X n (InsTwo C R) := by
  intro A pins s σ H x y u v r sb I rx ry d
  obtain ⟨a, c, dx, dy, fs, gs, rfl, rfl, ha, hc, hr⟩ := d
  cases rx
  cases ry
  obtain ⟨_, J1, _⟩ := ins_get I.hok ha
  obtain ⟨_, J2, _⟩ := ins_get I.hok hc
  obtain ⟨_, J1, _⟩ := J1.look
  obtain ⟨_, J2, _⟩ := J2.look
  obtain ⟨_, fr⟩ := I.fr
  have ask : spTwo R [.ref a, .ref c] H (fun t H' => t = .bl r ∧ L2.Ext H H') E := ⟨a, c, r, rfl, hr, fun H' e => ⟨rfl, e⟩⟩
  have e := I.env0
  have env : Env0 X.prog X.w X.K X.mg X.base A X.stack s H := ⟨sb.fr.trans e.frames, e.mod, e.bs, e.bsz, e.funs, e.frf, e.hok, e.bare⟩
  have two : Vals [V.ref a, V.ref c] [Value.ref a, Value.ref c] := .cons rfl (.cons rfl .nil)
  have bb := b s [.ref a, .ref c] I.kIn (by simpa using F.len _ _ _ _ ask)
  rw [List.append_nil] at bb
  refine PySem.W.cmp_K (op := .Eq) (tb := .ref C) sb.room.units0 fr I.ok.mod.kin J1 J2.type (by simp [PySem.W.notFirst]) he hf (wpAny_call (codeAny_mono (F.run A X.stack s H ⟨[.ref a, .ref c], []⟩ [.ref a, .ref c] [.ref a, .ref c] _ E sb.room env bb two ask) fun z s' hz => ?_))
  match z, hz with
  | .error _, hz => exact pass pins σ H s _ s' I hz
  | .ok .next, hz => exact False.elim hz
  | .ok .brk, hz => exact False.elim hz
  | .ok .cont, hz => exact False.elim hz
  | .ok (.ret t), hz =>
    obtain ⟨k, H', I', rk, ek, ex⟩ := I.after hz
    subst ek
    cases rk
    exact ⟨rfl, H', I', ex⟩
/-- inside a tuple an object is equal to itself: so the answer must be yes there -/
theorem RcTwo.inside (h : RcTwo X n D) (refs : ∀ x y H r, D x y H r → ∃ a b, x = .ref a ∧ y = .ref b ∧ (a = b → r = true)) : EqTwo X n D := by
  intro A pins s σ H x y u v r sb I rx ry d
  obtain ⟨a, b, rfl, rfl, same⟩ := refs _ _ _ _ d
  cases rx
  cases ry
  by_cases hab : a = b
  · subst hab
    have hr := same rfl
    subst hr
    exact SeqAt.EqAt.same (A := A) (s := s) (.ref a) X.prog X.w X.xe _ ⟨rfl, H, I, L2.Ext.rfl'⟩
  · exact GQ.eqBool_refG hab (wpAny_mono (h A pins s σ H (.ref a) (.ref b) _ _ r sb I rfl rfl d) (fun t s' z => ⟨r, z.1, rfl, z.2⟩) fun _ _ e => e)
def rTwo (D : Two) : R2 := fun x y H Q => ∃ r, D x y H r ∧ ∀ H', L2.Ext H H' → Q (.bl r) H'
/-- x == y -/
theorem op_two (h : RcTwo X n D) (hr : Room n X.A) : OpR X (compareOp .Eq) (rTwo D) := by
  intro pins s σ H x y v u Q I rx ry hq
  obtain ⟨r, d, q⟩ := hq
  show wpAny (model X.prog X.w) X.A (richCompare .Eq v u) (EP X pins σ Q) X.xe s
  refine wpAny_mono (h X.A pins s σ H x y v u r ⟨hr, rfl⟩ I rx ry d) (fun t s' z => ?_) fun _ _ e => e
  obtain ⟨rfl, H', I', e⟩ := z
  exact ⟨.bl r, H', I', rfl, q H' e⟩
end
end Sq
namespace Sq
open PySem PySem.Spec PyProof.Rows
section
variable {prog : Program} {w : World} {A : Around} {E : Value → Shared → Prop} {s : Shared} {K : PySem.W.Frag} {x C f : Addr} {ox : Obj} {od : Option Obj} {v : Value} {T id : String}
/-- a built-in value == an instance of a class of the text: the built-in type declines, then the instance is asked -/
theorem rich_back {Q : Value → Shared → Prop} (hu : A.units < cLine) (hT : s.TypeIs v T) (sl : Slot T "__eq__" id) (X : K.In s.heap) (J : PySem.W.InstAt s.heap x ox C od) (hs : PySem.W.subIn K (.ref C) (.type T) = some false)
    (he : PySem.W.findIn K (.ref C) "__eq__" = some (some (.ref f))) (hf : PySem.W.isFn K (.ref f) = true)
    (hc : wpAny (model prog w) A (call (.builtin id) [v, .ref x]) (fun u s' => u = .notImplemented ∧ s' = s) E s)
    (h : wpAny (model prog w) A (call (.ref f) [.ref x, v]) (PySem.W.CmpBack Q) E s) : wpAny (model prog w) A (richCompare .Eq v (.ref x)) Q E s := by
  unfold richCompare
  simp only [hT.oneThing_none]
  refine wpAny_holding (wpAny_bind (wpAny_cRoomFor hu ?_))
  refine wpAny_bind (wpAny_typeOf hT (wpAny_bind (J.type.here ?_)))
  have ne : (Value.type T != Value.ref C) = true := rfl
  rw [if_pos ne]
  refine wpAny_bind ((PySem.W.looks_subIn X hs).here ?_)
  rw [if_neg Bool.false_ne_true]
  refine wpAny_bind (m := tryCompare v _ (.ref x)) (wpAny_tryCompare_declines hT sl (wpAny_mono hc (fun u s' z => ⟨z.1, ?_⟩) fun _ _ e => e))
  obtain ⟨_, rfl⟩ := z
  have own : wpAny (model prog w) A (tryCompare (.ref x) "__eq__" v) (fun r s2 => ∃ u, r = some u ∧ Q u s2) E s' := by
    unfold tryCompare
    refine wpAny_bind (PySem.W.ifBound_K X J he hf (wpAny_mono h (fun u s2 hv => ?_) fun _ _ e => e))
    cases u <;> first | exact hv.elim | exact wpAny_pure ⟨_, rfl, hv⟩
  rw [if_pos (show (!false) = true from rfl)]
  refine wpAny_bind (wpAny_mono own (fun r s2 z => ?_) fun _ _ e => e)
  obtain ⟨u, rfl, q⟩ := z
  exact wpAny_pure q
section
variable {dx : Addr}
theorem dec_tuple {a : Addr} {Q : Value → Shared → Prop} (hT : s.TypeIs (.ref a) "tuple") (X : K.In s.heap) (hx : s.heap.get? x = some (PySem.W.instObj C dx)) (hs : PySem.W.subIn K (.ref C) (.type "tuple") = some false)
    (q : Q .notImplemented s) : wpAny (model prog w) A (call (.builtin "tuple.__eq__") [.ref a, .ref x]) Q E s := by
  refine GQ.call_here F.slot_tuple_eq hT F.entry_tuple_eq (F.args_tuple_eq_2 _ _) ?_
  have sub := PySem.W.looks_subIn (M := model prog w) X hs
  obtain ⟨hp, g, d, tk, os⟩ := s
  wp_walk
  refine sub.here ?_
  wp_walk
  exact q
theorem dec_list {a : Addr} {Q : Value → Shared → Prop} (hT : s.TypeIs (.ref a) "list") (X : K.In s.heap) (hx : s.heap.get? x = some (PySem.W.instObj C dx)) (hs : PySem.W.subIn K (.ref C) (.type "list") = some false)
    (q : Q .notImplemented s) : wpAny (model prog w) A (call (.builtin "list.__eq__") [.ref a, .ref x]) Q E s := by
  refine GQ.call_here F.slot_list_eq hT F.entry_list_eq (F.args_list_eq_2 _ _) ?_
  have sub := PySem.W.looks_subIn (M := model prog w) X hs
  obtain ⟨hp, g, d, tk, os⟩ := s
  wp_walk
  refine sub.here ?_
  wp_walk
  exact q
theorem dec_none {Q : Value → Shared → Prop} (q : Q .notImplemented s) : wpAny (model prog w) A (call (.builtin "NoneType.__eq__") [.none, .ref x]) Q E s := by
  refine GQ.call_here F.slot_NoneType_eq rfl F.entry_NoneType_eq (F.args_NoneType_eq_2 _ _) ?_
  obtain ⟨hp, g, d, tk, os⟩ := s
  wp_walk
  exact q
theorem dec_str {y : Str} {t : Tok} {Q : Value → Shared → Prop} (hx : s.heap.get? x = some (PySem.W.instObj C dx)) (q : Q .notImplemented s) : wpAny (model prog w) A (call (.builtin "str.__eq__") [.str y t, .ref x]) Q E s := by
  refine GQ.call_here F.slot_str_eq rfl F.entry_str_eq (F.args_str_eq_2 _ _) ?_
  unfold PySem.W.instObj at hx
  obtain ⟨hp, g, d, tk, os⟩ := s
  wp_walk using wpAny_loadPart' hx
  exact q
theorem dec_int {i : Int} {t : Tok} {Q : Value → Shared → Prop} (hx : s.heap.get? x = some (PySem.W.instObj C dx)) (q : Q .notImplemented s) : wpAny (model prog w) A (call (.builtin "int.__eq__") [.int i t, .ref x]) Q E s := by
  refine GQ.call_here F.slot_int_eq rfl F.entry_int_eq (F.args_int_eq_2 _ _) ?_
  unfold PySem.W.instObj at hx
  obtain ⟨hp, g, d, tk, os⟩ := s
  wp_walk using wpAny_loadPart' hx
  exact q
theorem dec_bool {y : Bool} {Q : Value → Shared → Prop} (hx : s.heap.get? x = some (PySem.W.instObj C dx)) (q : Q .notImplemented s) : wpAny (model prog w) A (call (.builtin "int.__eq__") [.bool y, .ref x]) Q E s := by
  refine GQ.call_here F.slot_bool_eq rfl F.entry_int_eq (F.args_int_eq_2 _ _) ?_
  unfold PySem.W.instObj at hx
  obtain ⟨hp, g, d, tk, os⟩ := s
  wp_walk using wpAny_loadPart' hx
  exact q
theorem decNe_tuple {a : Addr} {Q : Value → Shared → Prop} (hT : s.TypeIs (.ref a) "tuple") (X : K.In s.heap) (hx : s.heap.get? x = some (PySem.W.instObj C dx)) (hs : PySem.W.subIn K (.ref C) (.type "tuple") = some false)
    (q : Q .notImplemented s) : wpAny (model prog w) A (call (.builtin "tuple.__ne__") [.ref a, .ref x]) Q E s := by
  refine GQ.call_here F.slot_tuple_ne hT F.entry_tuple_ne (F.args_tuple_ne_2 _ _) ?_
  have sub := PySem.W.looks_subIn (M := model prog w) X hs
  obtain ⟨hp, g, d, tk, os⟩ := s
  wp_walk
  refine sub.here ?_
  wp_walk
  exact q
theorem decNe_list {a : Addr} {Q : Value → Shared → Prop} (hT : s.TypeIs (.ref a) "list") (X : K.In s.heap) (hx : s.heap.get? x = some (PySem.W.instObj C dx)) (hs : PySem.W.subIn K (.ref C) (.type "list") = some false)
    (q : Q .notImplemented s) : wpAny (model prog w) A (call (.builtin "list.__ne__") [.ref a, .ref x]) Q E s := by
  refine GQ.call_here F.slot_list_ne hT F.entry_list_ne (F.args_list_ne_2 _ _) ?_
  have sub := PySem.W.looks_subIn (M := model prog w) X hs
  obtain ⟨hp, g, d, tk, os⟩ := s
  wp_walk
  refine sub.here ?_
  wp_walk
  exact q
theorem decNe_none {Q : Value → Shared → Prop} (q : Q .notImplemented s) : wpAny (model prog w) A (call (.builtin "NoneType.__ne__") [.none, .ref x]) Q E s := by
  refine GQ.call_here F.slot_NoneType_ne rfl F.entry_NoneType_ne (F.args_NoneType_ne_2 _ _) ?_
  obtain ⟨hp, g, d, tk, os⟩ := s
  wp_walk
  exact q
theorem decNe_str {y : Str} {t : Tok} {Q : Value → Shared → Prop} (hx : s.heap.get? x = some (PySem.W.instObj C dx)) (q : Q .notImplemented s) : wpAny (model prog w) A (call (.builtin "str.__ne__") [.str y t, .ref x]) Q E s := by
  refine GQ.call_here F.slot_str_ne rfl F.entry_str_ne (F.args_str_ne_2 _ _) ?_
  unfold PySem.W.instObj at hx
  obtain ⟨hp, g, d, tk, os⟩ := s
  wp_walk using wpAny_loadPart' hx
  exact q
theorem decNe_int {i : Int} {t : Tok} {Q : Value → Shared → Prop} (hx : s.heap.get? x = some (PySem.W.instObj C dx)) (q : Q .notImplemented s) : wpAny (model prog w) A (call (.builtin "int.__ne__") [.int i t, .ref x]) Q E s := by
  refine GQ.call_here F.slot_int_ne rfl F.entry_int_ne (F.args_int_ne_2 _ _) ?_
  unfold PySem.W.instObj at hx
  obtain ⟨hp, g, d, tk, os⟩ := s
  wp_walk using wpAny_loadPart' hx
  exact q
theorem decNe_bool {y : Bool} {Q : Value → Shared → Prop} (hx : s.heap.get? x = some (PySem.W.instObj C dx)) (q : Q .notImplemented s) : wpAny (model prog w) A (call (.builtin "int.__ne__") [.bool y, .ref x]) Q E s := by
  refine GQ.call_here F.slot_bool_ne rfl F.entry_int_ne (F.args_int_ne_2 _ _) ?_
  unfold PySem.W.instObj at hx
  obtain ⟨hp, g, d, tk, os⟩ := s
  wp_walk using wpAny_loadPart' hx
  exact q
end
end
/-! ### as rules -/
open L2
section
variable {X : Cx} {k : Nat} {C f : Addr} {sp : Sp}
/-- a plain value of a built-in kind, and the type that declines -/
inductive Plain (H : Hp) : V → String → Prop
  | non : Plain H .non "NoneType"
  | bl (b : Bool) : Plain H (.bl b) "bool"
  | int (i : Int) : Plain H (.int i) "int"
  | str (x : Str) : Plain H (.str x) "str"
  | lst {a : Addr} {xs : List V} (h : H a = some (.lst xs)) : Plain H (.ref a) "list"
  | tup {a : Addr} {xs : List V} (h : H a = some (.tup xs)) : Plain H (.ref a) "tuple"
def rBack (K : PySem.W.Frag) (C : Addr) (sp : Sp) : R2 := fun x y H Q => ∃ (T : String) (b dx : Addr) (fs : List (Str × V)), y = .ref b ∧ H b = some (.ins C dx fs) ∧ Plain H x T ∧ PySem.W.subIn K (.ref C) (.type T) = some false ∧
  sp [.ref b, x] H (fun v H' => ∃ r, v = .bl r ∧ Q (.bl r) H') E0
/-- x == b, x a plain value, b an instance of a class of the text with an __eq__ -/
theorem op_eqBack (he : PySem.W.findIn X.K (.ref C) "__eq__" = some (some (.ref f))) (hf : PySem.W.isFn X.K (.ref f) = true) (G0 : FnR X.prog X.w X.K X.mg X.base CX0 k f sp) (hr : Room k X.A) : OpR X (compareOp .Eq) (rBack X.K C sp) := by
  intro pins s σ H x y v u Q I rx ry h
  obtain ⟨T, b, dx, fs, rfl, hb, pl, hs, q⟩ := h
  cases ry
  obtain ⟨mA, O, hget⟩ := ins_get I.hok hb
  obtain ⟨od, J, _⟩ := O.look
  have gx : s.heap.get? b = some (PySem.W.instObj C dx) := by
    obtain ⟨_, _, _, g, _⟩ := (show ObjOk X.prog X.w H s.heap b (.ins C dx fs) from I.hok b _ hb)
    exact g
  show wpAny (model X.prog X.w) X.A (richCompare .Eq v (.ref b)) (EP X pins σ Q) X.xe s
  have own : wpAny (model X.prog X.w) X.A (call (.ref f) [.ref b, v]) (PySem.W.CmpBack (EP X pins σ Q)) X.xe s := by
    refine wpAny_mono (run_below G0 hr rfl I (Paired.cons (show L2.RelV (V.ref b) (Value.ref b) from rfl) (.cons rx .nil)) q) (fun t s' hv => ?_) fun _ _ e => e
    obtain ⟨z, H', I', rz, r, ez, q'⟩ := hv
    subst ez
    cases rz
    exact ⟨.bl r, H', I', rfl, q'⟩
  have KX := I.kIn
  cases pl with
  | non =>
    cases rx
    exact rich_back hr.units0 rfl F.slot_NoneType_eq KX J hs he hf (dec_none ⟨rfl, rfl⟩) own
  | bl y =>
    cases rx
    exact rich_back hr.units0 rfl F.slot_bool_eq KX J hs he hf (dec_bool gx ⟨rfl, rfl⟩) own
  | int i =>
    obtain ⟨t, rfl⟩ := rx
    exact rich_back hr.units0 rfl F.slot_int_eq KX J hs he hf (dec_int gx ⟨rfl, rfl⟩) own
  | str y =>
    obtain ⟨t, rfl⟩ := rx
    exact rich_back hr.units0 rfl F.slot_str_eq KX J hs he hf (dec_str gx ⟨rfl, rfl⟩) own
  | @lst a xs h =>
    cases rx
    obtain ⟨_, its, n, _, g⟩ := (show ObjOk X.prog X.w H s.heap a (.lst xs) from I.hok a _ h)
    exact rich_back hr.units0 ⟨_, g, rfl⟩ F.slot_list_eq KX J hs he hf (dec_list ⟨_, g, rfl⟩ KX gx hs ⟨rfl, rfl⟩) own
  | @tup a xs h =>
    cases rx
    obtain ⟨_, its, _, o, g, hc, _⟩ := (show ObjOk X.prog X.w H s.heap a (.tup xs) from I.hok a _ h)
    exact rich_back hr.units0 ⟨o, g, hc⟩ F.slot_tuple_eq KX J hs he hf (dec_tuple ⟨o, g, hc⟩ KX gx hs ⟨rfl, rfl⟩) own
def rFwd (K : PySem.W.Frag) (C : Addr) (sp : Sp) : R2 := fun x y H Q => ∃ (tb : Value) (a dx : Addr) (fs : List (Str × V)), x = .ref a ∧ H a = some (.ins C dx fs) ∧ TyX K H y tb ∧ PySem.W.notFirst K C tb = true ∧
  sp [.ref a, y] H (fun v H' => ∃ r, v = .bl r ∧ Q (.bl r) H') E0
theorem Plain.ty {K : PySem.W.Frag} {H : Hp} {x : V} {T : String} (h : Plain H x T) : TyX K H x (.type T) := by
  cases h with
  | non => exact .base .non
  | bl b => exact .base (.bl b)
  | int i => exact .base (.int i)
  | str x => exact .base (.str x)
  | lst h => exact .base (.lst h)
  | tup h => exact .base (.tup h)
/-- a == y, y a plain value -/
theorem op_eqFwd (he : PySem.W.findIn X.K (.ref C) "__eq__" = some (some (.ref f))) (hf : PySem.W.isFn X.K (.ref f) = true) (G0 : FnR X.prog X.w X.K X.mg X.base CX0 k f sp) (hr : Room k X.A) : OpR X (compareOp .Eq) (rFwd X.K C sp) := by
  intro pins s σ H x y v u Q I rx ry h
  obtain ⟨T, a, dx, fs, rfl, ha, pl, hn, q⟩ := h
  cases rx
  obtain ⟨mA, O, hget⟩ := ins_get I.hok ha
  obtain ⟨od, J, _⟩ := O.look
  obtain ⟨m, fr⟩ := I.fr
  obtain ⟨_, Z, pz, _⟩ := kit_of I ry pl
  show wpAny (model X.prog X.w) X.A (richCompare .Eq (.ref a) u) (EP X pins σ Q) X.xe s
  refine PySem.W.cmp_K (op := .Eq) (tb := T) hr.units0 fr I.ok.mod.kin J (Z.ty _ _ I.kIn pz) hn he hf ?_
  refine wpAny_mono (run_below G0 hr rfl I (Paired.cons (show L2.RelV (V.ref a) (Value.ref a) from rfl) (.cons ry .nil)) q) (fun t s' hv => ?_) fun _ _ e => e
  obtain ⟨z, H', I', rz, r, ez, q'⟩ := hv
  subst ez
  cases rz
  exact ⟨.bl r, H', I', rfl, q'⟩
end
/-! ### != with plain values -/
section
variable {prog : Program} {w : World} {A : Around} {E : Value → Shared → Prop} {s : Shared} {K : PySem.W.Frag} {x C f : Addr} {ox : Obj} {od : Option Obj} {v : Value} {T id : String}
theorem try_ne {Q : Value → Shared → Prop} (hu : A.units + 1 < cLine) (X : K.In s.heap) (J : PySem.W.InstAt s.heap x ox C od) (hn : PySem.W.findIn K (.ref C) "__ne__" = some (some (.builtin "object.__ne__"))) (ho : PySem.W.subIn K (.ref C) (.type "object") = some true)
    (he : PySem.W.findIn K (.ref C) "__eq__" = some (some (.ref f))) (hf : PySem.W.isFn K (.ref f) = true)
    (h : wpAny (model prog w) A.in1 (call (.ref f) [.ref x, v]) (fun u s' => ∃ r, u = .bool r ∧ Q (.bool (!r)) s') E s) :
    wpAny (model prog w) A (tryCompare (.ref x) "__ne__" v) (fun r s' => ∃ z, r = some (.bool z) ∧ Q (.bool z) s') E s := by
  unfold tryCompare
  refine wpAny_bind (ifBound_obj F.cmp_object.ne X J hn (wpAny_call (codeAny_call_builtin F.cmp_object.ne.plain F.cmpEntry_ne (checked_ne X J ho (ne_entry (A := A.in1) hu X J he hf (wpAny_mono h (fun u s' hv => ?_) fun _ _ e => e))))))
  obtain ⟨r, rfl, q⟩ := hv
  exact ⟨r, rfl, wpAny_pure ⟨_, rfl, q⟩⟩
theorem rich_neFwd {tb : Value} {Q : Value → Shared → Prop} (hu : A.units + 1 < cLine) (X : K.In s.heap) (J : PySem.W.InstAt s.heap x ox C od) (hb : PySem.W.Looks (model prog w) s.heap (typeOf v) tb) (first : PySem.W.notFirst K C tb = true)
    (hn : PySem.W.findIn K (.ref C) "__ne__" = some (some (.builtin "object.__ne__"))) (ho : PySem.W.subIn K (.ref C) (.type "object") = some true) (he : PySem.W.findIn K (.ref C) "__eq__" = some (some (.ref f))) (hf : PySem.W.isFn K (.ref f) = true)
    (h : wpAny (model prog w) A.in1 (call (.ref f) [.ref x, v]) (fun u s' => ∃ r, u = .bool r ∧ Q (.bool (!r)) s') E s) : wpAny (model prog w) A (richCompare .NotEq (.ref x) v) Q E s := by
  have one := try_ne (A := A) hu X J hn ho he hf h
  unfold richCompare
  simp only [PySem.oneThing_ref]
  refine wpAny_holding (wpAny_bind (wpAny_cRoomFor (Nat.lt_of_succ_lt hu) ?_))
  rw [cmpInfo_NotEq]
  dsimp only
  refine wpAny_bind (J.type.here (wpAny_bind (hb.here ?_)))
  cases hd : (Value.ref C != tb) with
  | true =>
    rw [if_pos rfl]
    have no : PySem.W.subIn K tb (.ref C) = some false := by
      rcases Bool.or_eq_true_iff.mp first with e | e
      · rw [beq_iff_eq.mp e] at hd
        simp at hd
      · exact beq_iff_eq.mp e
    refine wpAny_bind ((PySem.W.looks_subIn X no).here ?_)
    simp only [Bool.false_eq_true, if_false]
    refine wpAny_bind (wpAny_mono one (fun r s' z => ?_) fun _ _ e => e)
    obtain ⟨u, rfl, q⟩ := z
    exact wpAny_pure q
  | false =>
    rw [if_neg Bool.false_ne_true]
    refine wpAny_bind (wpAny_pure ?_)
    simp only [Bool.false_eq_true, if_false]
    refine wpAny_bind (wpAny_mono one (fun r s' z => ?_) fun _ _ e => e)
    obtain ⟨u, rfl, q⟩ := z
    exact wpAny_pure q
theorem rich_neBack {Q : Value → Shared → Prop} (hu : A.units + 1 < cLine) (hT : s.TypeIs v T) (sl : Slot T "__ne__" id) (X : K.In s.heap) (J : PySem.W.InstAt s.heap x ox C od) (hs : PySem.W.subIn K (.ref C) (.type T) = some false)
    (hn : PySem.W.findIn K (.ref C) "__ne__" = some (some (.builtin "object.__ne__"))) (ho : PySem.W.subIn K (.ref C) (.type "object") = some true) (he : PySem.W.findIn K (.ref C) "__eq__" = some (some (.ref f))) (hf : PySem.W.isFn K (.ref f) = true)
    (hc : wpAny (model prog w) A (call (.builtin id) [v, .ref x]) (fun u s' => u = .notImplemented ∧ s' = s) E s)
    (h : wpAny (model prog w) A.in1 (call (.ref f) [.ref x, v]) (fun u s' => ∃ r, u = .bool r ∧ Q (.bool (!r)) s') E s) : wpAny (model prog w) A (richCompare .NotEq v (.ref x)) Q E s := by
  unfold richCompare
  simp only [hT.oneThing_none]
  refine wpAny_holding (wpAny_bind (wpAny_cRoomFor (Nat.lt_of_succ_lt hu) ?_))
  rw [cmpInfo_NotEq]
  dsimp only
  refine wpAny_bind (wpAny_typeOf hT (wpAny_bind (J.type.here ?_)))
  rw [if_pos (show (Value.type T != Value.ref C) = true from rfl)]
  refine wpAny_bind ((PySem.W.looks_subIn X hs).here ?_)
  rw [if_neg Bool.false_ne_true]
  refine wpAny_bind (m := tryCompare v _ (.ref x)) (wpAny_tryCompare_declines hT sl (wpAny_mono hc (fun u s' z => ⟨z.1, ?_⟩) fun _ _ e => e))
  obtain ⟨_, rfl⟩ := z
  rw [if_pos (show (!false) = true from rfl)]
  refine wpAny_bind (wpAny_mono (try_ne (A := A) hu X J hn ho he hf h) (fun r s2 z => ?_) fun _ _ e => e)
  obtain ⟨u, rfl, q⟩ := z
  exact wpAny_pure q
end
section
variable {X : Cx} {k : Nat} {C f : Addr} {sp : Sp}
def rBackN (K : PySem.W.Frag) (C : Addr) (sp : Sp) : R2 := fun x y H Q => ∃ (T : String) (b dx : Addr) (fs : List (Str × V)), y = .ref b ∧ H b = some (.ins C dx fs) ∧ Plain H x T ∧ PySem.W.subIn K (.ref C) (.type T) = some false ∧
  sp [.ref b, x] H (fun v H' => ∃ r, v = .bl r ∧ Q (.bl (!r)) H') E0
def rFwdN (K : PySem.W.Frag) (C : Addr) (sp : Sp) : R2 := fun x y H Q => ∃ (tb : Value) (a dx : Addr) (fs : List (Str × V)), x = .ref a ∧ H a = some (.ins C dx fs) ∧ TyX K H y tb ∧ PySem.W.notFirst K C tb = true ∧
  sp [.ref a, y] H (fun v H' => ∃ r, v = .bl r ∧ Q (.bl (!r)) H') E0
/-- x != b, x a plain value -/
theorem op_neBack (hn : PySem.W.findIn X.K (.ref C) "__ne__" = some (some (.builtin "object.__ne__"))) (ho : PySem.W.subIn X.K (.ref C) (.type "object") = some true) (he : PySem.W.findIn X.K (.ref C) "__eq__" = some (some (.ref f))) (hf : PySem.W.isFn X.K (.ref f) = true)
    (G0 : FnR X.prog X.w X.K X.mg X.base CX0 k f sp) (hr : Room (k + 1) X.A) : OpR X (compareOp .NotEq) (rBackN X.K C sp) := by
  intro pins s σ H x y v u Q I rx ry h
  obtain ⟨T, b, dx, fs, rfl, hb, pl, hs, q⟩ := h
  cases ry
  obtain ⟨mA, O, hget⟩ := ins_get I.hok hb
  obtain ⟨od, J, _⟩ := O.look
  have gx : s.heap.get? b = some (PySem.W.instObj C dx) := by
    obtain ⟨_, _, _, g, _⟩ := (show ObjOk X.prog X.w H s.heap b (.ins C dx fs) from I.hok b _ hb)
    exact g
  show wpAny (model X.prog X.w) X.A (richCompare .NotEq v (.ref b)) (EP X pins σ Q) X.xe s
  have own : wpAny (model X.prog X.w) X.A.in1 (call (.ref f) [.ref b, v]) (fun u s' => ∃ r, u = .bool r ∧ EP X pins σ Q (.bool (!r)) s') X.xe s := by
    refine wpAny_mono (run_below G0 hr.in1 rfl I (Paired.cons (show L2.RelV (V.ref b) (Value.ref b) from rfl) (.cons rx .nil)) q) (fun t s' hv => ?_) fun _ _ e => e
    obtain ⟨z, H', I', rz, r, ez, q'⟩ := hv
    subst ez
    cases rz
    exact ⟨r, rfl, .bl (!r), H', I', rfl, q'⟩
  have KX := I.kIn
  have hu := hu_of hr
  cases pl with
  | non =>
    cases rx
    exact rich_neBack hu rfl F.slot_NoneType_ne KX J hs hn ho he hf (decNe_none ⟨rfl, rfl⟩) own
  | bl y =>
    cases rx
    exact rich_neBack hu rfl F.slot_bool_ne KX J hs hn ho he hf (decNe_bool gx ⟨rfl, rfl⟩) own
  | int i =>
    obtain ⟨t, rfl⟩ := rx
    exact rich_neBack hu rfl F.slot_int_ne KX J hs hn ho he hf (decNe_int gx ⟨rfl, rfl⟩) own
  | str y =>
    obtain ⟨t, rfl⟩ := rx
    exact rich_neBack hu rfl F.slot_str_ne KX J hs hn ho he hf (decNe_str gx ⟨rfl, rfl⟩) own
  | @lst a xs h =>
    cases rx
    obtain ⟨_, its, n, _, g⟩ := (show ObjOk X.prog X.w H s.heap a (.lst xs) from I.hok a _ h)
    exact rich_neBack hu ⟨_, g, rfl⟩ F.slot_list_ne KX J hs hn ho he hf (decNe_list ⟨_, g, rfl⟩ KX gx hs ⟨rfl, rfl⟩) own
  | @tup a xs h =>
    cases rx
    obtain ⟨_, its, _, o, g, hc, _⟩ := (show ObjOk X.prog X.w H s.heap a (.tup xs) from I.hok a _ h)
    exact rich_neBack hu ⟨o, g, hc⟩ F.slot_tuple_ne KX J hs hn ho he hf (decNe_tuple ⟨o, g, hc⟩ KX gx hs ⟨rfl, rfl⟩) own
/-- a != y, y a plain value -/
theorem op_neFwd (hn : PySem.W.findIn X.K (.ref C) "__ne__" = some (some (.builtin "object.__ne__"))) (ho : PySem.W.subIn X.K (.ref C) (.type "object") = some true) (he : PySem.W.findIn X.K (.ref C) "__eq__" = some (some (.ref f))) (hf : PySem.W.isFn X.K (.ref f) = true)
    (G0 : FnR X.prog X.w X.K X.mg X.base CX0 k f sp) (hr : Room (k + 1) X.A) : OpR X (compareOp .NotEq) (rFwdN X.K C sp) := by
  intro pins s σ H x y v u Q I rx ry h
  obtain ⟨T, a, dx, fs, rfl, ha, pl, first, q⟩ := h
  cases rx
  obtain ⟨mA, O, hget⟩ := ins_get I.hok ha
  obtain ⟨od, J, _⟩ := O.look
  obtain ⟨_, Z, pz, _⟩ := kit_of I ry pl
  show wpAny (model X.prog X.w) X.A (richCompare .NotEq (.ref a) u) (EP X pins σ Q) X.xe s
  refine rich_neFwd (hu_of hr) I.kIn J (Z.ty _ _ I.kIn pz) first hn ho he hf ?_
  refine wpAny_mono (run_below G0 hr.in1 rfl I (Paired.cons (show L2.RelV (V.ref a) (Value.ref a) from rfl) (.cons ry .nil)) q) (fun t s' hv => ?_) fun _ _ e => e
  obtain ⟨z, H', I', rz, r, ez, q'⟩ := hv
  subst ez
  cases rz
  exact ⟨r, rfl, .bl (!r), H', I', rfl, q'⟩
end
/-- two rules for one operator -/
theorem OpR.both {X : Cx} {f : Value → Value → Sem Value} {r r' : R2} (h : OpR X f r) (h' : OpR X f r') : OpR X f (fun x y H Q => r x y H Q ∨ r' x y H Q) := by
  intro pins s σ H x y v u Q I rx ry z
  rcases z with z | z
  · exact h pins s σ H x y v u Q I rx ry z
  · exact h' pins s σ H x y v u Q I rx ry z
end Sq
namespace Sq.N3
open PySem L2 TL
/-! ### == of nests and of programs, both answers -/
def NestTwo (C : Addr) : Addr → Addr → Hp → Bool → Prop := fun a b H r => ∃ n m : NestD, NestIs C H a n ∧ NestIs C H b m ∧ NestT n ∧ NestT m ∧ r = decide (n = m)
def ProgTwo (CP C : Addr) : Addr → Addr → Hp → Bool → Prop := fun a b H r => ∃ ns ms : List NestD, ProgAt CP C H a ns ∧ ProgAt CP C H b ms ∧ (∀ n ∈ ns, NestT n) ∧ (∀ n ∈ ms, NestT n) ∧ r = decide (ns = ms)
theorem stays_nest (C : Addr) : Stays (InsTwo C (NestTwo C)) := fun x y H H' r e h => by
  obtain ⟨a, b, dx, dy, fs, gs, hx, hy, h1, h2, n, m, k1, k2, k3, k4, k5⟩ := h
  exact ⟨a, b, dx, dy, fs, gs, hx, hy, e _ _ h1, e _ _ h2, n, m, NestAt.ext e k1, NestAt.ext e k2, k3, k4, k5⟩
theorem strs_one : ∀ {ds es : List Str}, ds.map V.str = es.map V.str → ds = es
  | [], [], _ => rfl
  | [], _ :: _, h => by cases h
  | _ :: _, [], h => by cases h
  | d :: ds, e :: es, h => by
    obtain ⟨h1, h2⟩ := List.cons.inj h
    rw [strs_one h2, V.str.inj h1]
theorem nest_one {C : Addr} {H : Hp} {a : Addr} {n m : NestD} (h : NestIs C H a n) (g : NestIs C H a m) : n = m := by
  obtain ⟨o, i, ds⟩ := n
  obtain ⟨o2, i2, es⟩ := m
  obtain ⟨dx, dp, ⟨R, h1⟩, h2⟩ := h
  obtain ⟨dy, dq, ⟨S, g1⟩, g2⟩ := g
  simp only at h1 h2 g1 g2
  have e := h1.symm.trans g1
  injection e with e
  injection e with e1 e2 e3
  have eo : o = o2 := by
    have z := congrArg (fun l => List.lookup ("_outer" : Str) l) e3
    simp only [nfl_outer] at z
    injection z with z
    injection z
  have ei : i = i2 := by
    have z := congrArg (fun l => List.lookup ("_inner" : Str) l) e3
    simp only [nfl_inner] at z
    injection z with z
    injection z
  have ed : dp = dq := by
    have z := congrArg (fun l => List.lookup ("_deeds" : Str) l) e3
    simp only [nfl_deeds] at z
    injection z with z
    injection z
  subst ed
  have z := h2.symm.trans g2
  injection z with z
  injection z with z
  have el : ds = es := strs_one z
  rw [eo, ei, el]
section
variable {P : Program} {w : World} {K : PySem.W.Frag} {mg : Str → Option Value} {base : Heap} {C CP : Addr}
theorem nest_refs (C : Addr) : ∀ x y H r, InsTwo C (NestTwo C) x y H r → ∃ a b, x = .ref a ∧ y = .ref b ∧ (a = b → r = true) := fun x y H r h => by
  obtain ⟨a, b, dx, dy, fs, gs, hx, hy, h1, h2, n, m, k1, k2, k3, k4, k5⟩ := h
  refine ⟨a, b, hx, hy, fun e => ?_⟩
  subst e
  rw [k5, nest_one k1 k2]
  exact decide_eq_true rfl
theorem ok_neq2 {fe : Addr} {de : FuncData} (GE : FnOk P w K mg base CX0 1 fe de ["self", "other"] (spNEq C)) : FnOk P w K mg base CX0 1 fe de ["self", "other"] (spTwo (NestTwo C)) := GE.imp fun vs H Q E h => by
  obtain ⟨a, b, r, rfl, ⟨n, m, h1, h2, h3, h4, rfl⟩, q⟩ := h
  refine ⟨a, b, n.1, n.2.1, m.1, m.2.1, n.2.2, m.2.2, rfl, h1, h2, strs_shaped h3, strs_shaped h4, ?_⟩
  have z := q H L2.Ext.rfl'
  have e : decide (n = m) = decide (n.1 = m.1 ∧ n.2.1 = m.2.1 ∧ n.2.2 = m.2.2) := by
    rw [decide_eq_decide]
    constructor
    · intro e
      rw [e]
      exact ⟨rfl, rfl, rfl⟩
    · intro ⟨e1, e2, e3⟩
      exact Prod.ext e1 (Prod.ext e2 e3)
  rw [e] at z
  exact z
theorem ok_peq2 {f : Addr} {fd : FuncData} (F : Fun K "__eq__" "Program.__eq__" sPEq f fd) (N : Pc K CP) (I : Isn K CP) (mP : mg "Program" = some (.ref CP)) (Ck : Ck K mg) {fe : Addr} {de : FuncData} (GE : FnOk P w K mg base CX0 1 fe de ["self", "other"] (spNEq C))
    (he1 : PySem.W.findIn K (.ref C) "__eq__" = some (some (.ref fe))) (he2 : PySem.W.isFn K (.ref fe) = true) (be : Binds K de ["self", "other"] []) : FnOk P w K mg base CX0 3 f fd ["self", "other"] (spTwo (ProgTwo CP C)) := by
  refine F.ok scPEq (fun vs H Q E h => ?_) (fun cdv A outer s H vs Q E hr h => ?_)
  · obtain ⟨a, b, r, rfl, _⟩ := h
    rfl
  · obtain ⟨a, b, r, rfl, ⟨ns, ms, ⟨dx, tp, xs, h1, h2, h3, h4⟩, ⟨dy, tq, ys, g1, g2, g3, g4⟩, ok1, ok2, rfl⟩, q⟩ := h
    refine ⟨_, pss_one (ps_ret (pe_and (pe_callB call_isi (by rfl) Ck.isinstance (by decide +kernel) (pa_cons (pv 1) (pa_cons (pe_glob (v := .ref CP) (by rfl) mP rfl) pa_nil)))
      (pe_one (pe_cmpR (op_two (rc_tupTwo (stays_nest C) (RcTwo.inside (rc_insTwo (ok_neq2 GE) he1 he2 be pass0) (nest_refs C))) hr) (pe_fld (pv 0) rfl) (pe_fld (pv 1) rfl) (nomark _))))), ?_⟩
    refine ⟨_, rfl, _, _, .ref CP, .ref CP, true, rfl, .own CP, .base (.ins g1 N.cl I.c1 I.c2 I.c3 I.c4), kit_self K CP, true, rfl, ?_⟩
    refine iteT ?_
    refine ⟨_, rfl, a, CP, dx, _, _, rfl, h1, N.cl, N.nN, putN tp, _, rfl, b, CP, dy, _, _, rfl, g1, N.cl, N.nN, putN tq, ?_⟩
    let eq : Nat → Bool := fun i => decide (ns[i]? = ms[i]?)
    refine ⟨decide (ns = ms), ⟨tp, tq, xs.map V.ref, ys.map V.ref, eq, rfl, rfl, SqT.of h2, SqT.of g2, fun i u v hu hv => ?_, ?_⟩, fun H' e => q H' e⟩
    · rw [List.getElem?_map] at hu hv
      obtain ⟨x, hx, rfl⟩ := Option.map_eq_some_iff.mp hu
      obtain ⟨y, hy, rfl⟩ := Option.map_eq_some_iff.mp hv
      have li : i < ns.length := by rw [← h3]; exact (List.getElem?_eq_some_iff.mp hx).1
      have lj : i < ms.length := by rw [← g3]; exact (List.getElem?_eq_some_iff.mp hy).1
      have k1 := h4 i x _ hx (List.getElem?_eq_getElem li)
      have k2 := g4 i y _ hy (List.getElem?_eq_getElem lj)
      obtain ⟨_, _, ⟨R3, w1⟩, _⟩ := id k1
      obtain ⟨_, _, ⟨R4, w2⟩, _⟩ := id k2
      refine ⟨x, y, _, _, _, _, rfl, rfl, w1, w2, ns[i], ms[i], k1, k2, ok1 _ (List.getElem_mem li), ok2 _ (List.getElem_mem lj), ?_⟩
      show decide (ns[i]? = ms[i]?) = decide (ns[i] = ms[i])
      rw [List.getElem?_eq_getElem li, List.getElem?_eq_getElem lj, decide_eq_decide]
      exact ⟨fun e => Option.some.inj e, fun e => by rw [e]⟩
    · rw [List.length_map, List.length_map, h3, g3]
      by_cases hl : ns.length = ms.length
      · rw [decide_eq_true hl, Bool.true_and, ← hl, Nat.min_self, Bool.eq_iff_iff, decide_eq_true_eq, List.all_eq_true]
        constructor
        · intro e i _
          exact decide_eq_true (by rw [e])
        · intro all
          refine List.ext_getElem? fun i => ?_
          by_cases hi : i < ns.length
          · exact of_decide_eq_true (all i (List.mem_range.mpr hi))
          · rw [List.getElem?_eq_none (Nat.le_of_not_lt hi), List.getElem?_eq_none (by omega)]
      · rw [decide_eq_false hl, Bool.false_and]
        exact decide_eq_false fun e => hl (by rw [e])
/-! ### with what is neither -/
def spEqO (C : Addr) (K : PySem.W.Frag) : Sp := fun vs H Q _ => ∃ (a : Addr) (y : V) (t : Value), vs = [.ref a, y] ∧ TyX K H y t ∧ PySem.W.kitOne K t (.ref C) = some false ∧ Q (.bl false) H
theorem ok_neqO {f : Addr} {fd : FuncData} (F : Fun K "__eq__" "Nest.__eq__" sNEq f fd) (N : Nc K C) (mN : mg "Nest" = some (.ref C)) (Ck : Ck K mg) : FnOk P w K mg base CX0 1 f fd ["self", "other"] (spEqO C K) := by
  refine F.ok scNEq (fun vs H Q E h => ?_) (fun cdv A outer s H vs Q E hr h => ?_)
  · obtain ⟨a, y, t, rfl, _⟩ := h
    rfl
  · obtain ⟨a, y, t, rfl, ty, no, q⟩ := h
    refine ⟨_, pss_one (ps_ret (pe_and (pe_callB call_isi (by rfl) Ck.isinstance (by decide +kernel) (pa_cons (pv 1) (pa_cons (pe_glob (v := .ref C) (by rfl) mN rfl) pa_nil)))
      (pe_and (pe_cmpR op_eq (pe_fld (pv 0) rfl) (pe_fld (pv 1) rfl) (nomark _))
      (pe_and (pe_cmpR op_eq (pe_fld (pv 0) rfl) (pe_fld (pv 1) rfl) (nomark _))
      (pe_one (pe_cmpR (op_eqD hr.units) (pe_fld (pv 0) rfl) (pe_fld (pv 1) rfl) (nomark _))))))), ?_⟩
    refine ⟨_, rfl, _, _, t, .ref C, false, rfl, .own C, ty, no, false, rfl, ?_⟩
    exact iteF q
theorem ok_peqO {f : Addr} {fd : FuncData} (F : Fun K "__eq__" "Program.__eq__" sPEq f fd) (N : Pc K CP) (mP : mg "Program" = some (.ref CP)) (Ck : Ck K mg) {fe : Addr} {de : FuncData} (GE : FnOk P w K mg base CX0 1 fe de ["self", "other"] (spNEq C))
    (he1 : PySem.W.findIn K (.ref C) "__eq__" = some (some (.ref fe))) (he2 : PySem.W.isFn K (.ref fe) = true) (be : Binds K de ["self", "other"] []) : FnOk P w K mg base CX0 3 f fd ["self", "other"] (spEqO CP K) := by
  refine F.ok scPEq (fun vs H Q E h => ?_) (fun cdv A outer s H vs Q E hr h => ?_)
  · obtain ⟨a, y, t, rfl, _⟩ := h
    rfl
  · obtain ⟨a, y, t, rfl, ty, no, q⟩ := h
    refine ⟨_, pss_one (ps_ret (pe_and (pe_callB call_isi (by rfl) Ck.isinstance (by decide +kernel) (pa_cons (pv 1) (pa_cons (pe_glob (v := .ref CP) (by rfl) mP rfl) pa_nil)))
      (pe_one (pe_cmpR (op_two (rc_tupTwo (stays_nest C) (RcTwo.inside (rc_insTwo (ok_neq2 GE) he1 he2 be pass0) (nest_refs C))) hr) (pe_fld (pv 0) rfl) (pe_fld (pv 1) rfl) (nomark _))))), ?_⟩
    refine ⟨_, rfl, _, _, t, .ref CP, false, rfl, .own CP, ty, no, false, rfl, ?_⟩
    exact iteF q
end
end Sq.N3
namespace Sq.N3
open PySem L2 TL
theorem sp_eta (sp : Sp) : (fun vs H Q E => sp (vs ++ []) H Q E) = sp := by
  funext vs H Q E
  rw [List.append_nil]
theorem FnOk.asR {P : Program} {w : World} {K : PySem.W.Frag} {mg : Str → Option Value} {base : Heap} {CX : CXT} {k : Nat} {f : Addr} {fd : FuncData} {ps : List Str} {sp : Sp} (F : FnOk P w K mg base CX k f fd ps sp) (b : Binds K fd ps []) : FnR P w K mg base CX k f sp := by
  have z := FnOk.raw F b (dvs := []) .nil
  rw [sp_eta] at z
  exact z
/-! ### four comparisons at once -/
def sixT : List String := ["NoneType", "bool", "int", "str", "list", "tuple"]
theorem _root_.Sq.Plain.mem {H : Hp} {x : V} {T : String} (h : Plain H x T) : T ∈ sixT := by
  cases h <;> simp [sixT]
theorem _root_.Sq.Plain.same {H H' : Hp} {x : V} {T : String} (e : Same H H') (h : Plain H x T) : Plain H' x T := by
  cases h with
  | non => exact .non
  | bl b => exact .bl b
  | int i => exact .int i
  | str x => exact .str x
  | lst h => exact .lst (e _ _ h)
  | tup h => exact .tup (e _ _ h)
/-- what the class C says of itself, beside the class D -/
structure OwnC (K : PySem.W.Frag) (C D : Addr) : Prop where
  cl : Cls K C
  isn : Isn K C
  ne : PySem.W.findIn K (.ref C) "__ne__" = some (some (.builtin "object.__ne__"))
  ob : PySem.W.subIn K (.ref C) (.type "object") = some true
  first : ∀ T ∈ sixT, PySem.W.notFirst K C (.type T) = true
  firstD : PySem.W.notFirst K C (.ref D) = true
  sub : ∀ T ∈ sixT, PySem.W.subIn K (.ref C) (.type T) = some false
  kit : ∀ T ∈ sixT, PySem.W.kitOne K (.type T) (.ref C) = some false
  kitD : PySem.W.kitOne K (.ref D) (.ref C) = some false
theorem OwnC.ty {K : PySem.W.Frag} {C D : Addr} (O : OwnC K C D) {H : Hp} {a dx : Addr} {fs : List (Str × V)} (h : H a = some (.ins C dx fs)) : TyX K H (.ref a) (.ref C) := .base (.ins h O.cl O.isn.c1 O.isn.c2 O.isn.c3 O.isn.c4)
/-- == and != of instances of C: with such ones (what R says), with other things (never) -/
def EqAll (K : PySem.W.Frag) (C : Addr) (R : Addr → Addr → Hp → Bool → Prop) (g : Bool → Bool) : R2 := fun x y H Q =>
  (∃ (a b dx dy : Addr) (fs gs : List (Str × V)) (r : Bool), x = .ref a ∧ y = .ref b ∧ H a = some (.ins C dx fs) ∧ H b = some (.ins C dy gs) ∧ R a b H r ∧ ∀ H', L2.Ext H H' → Q (.bl (g r)) H') ∨
  (∃ (a dx : Addr) (fs : List (Str × V)) (t : Value), x = .ref a ∧ H a = some (.ins C dx fs) ∧ TyX K H y t ∧ PySem.W.notFirst K C t = true ∧ PySem.W.kitOne K t (.ref C) = some false ∧ Q (.bl (g false)) H) ∨
  (∃ (b dx : Addr) (fs : List (Str × V)) (T : String), y = .ref b ∧ H b = some (.ins C dx fs) ∧ Plain H x T ∧ PySem.W.subIn K (.ref C) (.type T) = some false ∧ PySem.W.kitOne K (.type T) (.ref C) = some false ∧ Q (.bl (g false)) H)
section
variable {X : Cx} {k : Nat} {C f : Addr} {fd : FuncData} {R : Addr → Addr → Hp → Bool → Prop}
theorem op_eqAll (he : PySem.W.findIn X.K (.ref C) "__eq__" = some (some (.ref f))) (hf : PySem.W.isFn X.K (.ref f) = true) (F : FnOk X.prog X.w X.K X.mg X.base CX0 k f fd ["self", "other"] (spTwo R)) (G : FnOk X.prog X.w X.K X.mg X.base CX0 k f fd ["self", "other"] (spEqO C X.K))
    (b : Binds X.K fd ["self", "other"] []) (hr : Room k X.A) : OpR X (compareOp .Eq) (EqAll X.K C R id) := by
  intro pins s σ H x y v u Q I rx ry z
  rcases z with ⟨a, c, dx, dy, fs, gs, r, rfl, rfl, ha, hc, hR, q⟩ | ⟨a, dx, fs, t, rfl, ha, ty, first, kit, q⟩ | ⟨c, dx, fs, T, rfl, hc, pl, sub, kit, q⟩
  · exact op_two (rc_insTwo F he hf b pass0) hr pins s σ H _ _ v u Q I rx ry ⟨r, ⟨a, c, dx, dy, fs, gs, rfl, rfl, ha, hc, hR⟩, q⟩
  · exact op_eqFwd he hf (Sq.FnOk.asR G b) hr pins s σ H _ _ v u Q I rx ry ⟨t, a, dx, fs, rfl, ha, ty, first, a, y, t, rfl, ty, kit, false, rfl, q⟩
  · exact op_eqBack he hf (Sq.FnOk.asR G b) hr pins s σ H _ _ v u Q I rx ry ⟨T, c, dx, fs, rfl, hc, pl, sub, c, x, .type T, rfl, pl.ty, kit, false, rfl, q⟩
theorem op_neAll (hn : PySem.W.findIn X.K (.ref C) "__ne__" = some (some (.builtin "object.__ne__"))) (ho : PySem.W.subIn X.K (.ref C) (.type "object") = some true) (he : PySem.W.findIn X.K (.ref C) "__eq__" = some (some (.ref f))) (hf : PySem.W.isFn X.K (.ref f) = true)
    (F : FnOk X.prog X.w X.K X.mg X.base CX0 k f fd ["self", "other"] (spTwo R)) (G : FnOk X.prog X.w X.K X.mg X.base CX0 k f fd ["self", "other"] (spEqO C X.K)) (b : Binds X.K fd ["self", "other"] []) (hr : Room (k + 1) X.A) : OpR X (compareOp .NotEq) (EqAll X.K C R (!·)) := by
  intro pins s σ H x y v u Q I rx ry z
  rcases z with ⟨a, c, dx, dy, fs, gs, r, rfl, rfl, ha, hc, hR, q⟩ | ⟨a, dx, fs, t, rfl, ha, ty, first, kit, q⟩ | ⟨c, dx, fs, T, rfl, hc, pl, sub, kit, q⟩
  · exact op_neO hn ho he hf (Sq.FnOk.asR F b) hr pins s σ H _ _ v u Q I rx ry ⟨a, c, dx, dy, fs, gs, rfl, rfl, ha, hc, a, c, r, rfl, hR, fun H' e => ⟨r, rfl, q H' e⟩⟩
  · exact op_neFwd hn ho he hf (Sq.FnOk.asR G b) hr pins s σ H _ _ v u Q I rx ry ⟨t, a, dx, fs, rfl, ha, ty, first, a, y, t, rfl, ty, kit, false, rfl, q⟩
  · exact op_neBack hn ho he hf (Sq.FnOk.asR G b) hr pins s σ H _ _ v u Q I rx ry ⟨T, c, dx, fs, rfl, hc, pl, sub, c, x, .type T, rfl, pl.ty, kit, false, rfl, q⟩
end
/-- one and two, and whether they are equal -/
def Alk (K : PySem.W.Frag) (C CP : Addr) (H : Hp) (x y : V) (due : Bool) : Prop :=
  (∃ a b n m, x = .ref a ∧ y = .ref b ∧ NestIs C H a n ∧ NestIs C H b m ∧ NestT n ∧ NestT m ∧ due = decide (n = m)) ∨
  (∃ a b ns ms, x = .ref a ∧ y = .ref b ∧ ProgAt CP C H a ns ∧ ProgAt CP C H b ms ∧ (∀ n ∈ ns, NestT n) ∧ (∀ n ∈ ms, NestT n) ∧ due = decide (ns = ms)) ∨
  (due = false ∧ ∃ a n T, x = .ref a ∧ NestIs C H a n ∧ Plain H y T) ∨
  (due = false ∧ ∃ a ns T, x = .ref a ∧ ProgAt CP C H a ns ∧ Plain H y T) ∨
  (due = false ∧ ∃ a n b ns, x = .ref a ∧ NestIs C H a n ∧ y = .ref b ∧ ProgAt CP C H b ns)
theorem Alk.same {K : PySem.W.Frag} {C CP : Addr} {H H' : Hp} {x y : V} {due : Bool} (e : Same H H') (h : Alk K C CP H x y due) : Alk K C CP H' x y due := by
  rcases h with ⟨a, b, n, m, e1, e2, h1, h2, h3⟩ | ⟨a, b, ns, ms, e1, e2, h1, h2, h3⟩ | ⟨d, a, n, T, e1, h1, h2⟩ | ⟨d, a, n, T, e1, h1, h2⟩ | ⟨d, a, n, b, ns, e1, h1, e2, h2⟩
  · exact .inl ⟨a, b, n, m, e1, e2, h1.ext e, h2.ext e, h3⟩
  · exact .inr (.inl ⟨a, b, ns, ms, e1, e2, h1.ext e, h2.ext e, h3⟩)
  · exact .inr (.inr (.inl ⟨d, a, n, T, e1, h1.ext e, h2.same e⟩))
  · exact .inr (.inr (.inr (.inl ⟨d, a, n, T, e1, h1.ext e, h2.same e⟩)))
  · exact .inr (.inr (.inr (.inr ⟨d, a, n, b, ns, e1, h1.ext e, e2, h2.ext e⟩)))
theorem nestTwo_sym {C : Addr} {H : Hp} {a b : Addr} {n m : NestD} (h1 : NestIs C H a n) (h2 : NestIs C H b m) (t1 : NestT n) (t2 : NestT m) : NestTwo C b a H (decide (n = m)) := ⟨m, n, h2, h1, t2, t1, by rw [decide_eq_decide]; exact eq_comm⟩
theorem ask_alike {K : PySem.W.Frag} {C CP : Addr} {H : Hp} {x y : V} {due : Bool} {Q : VK} (g : Bool → Bool) (O : OwnC K C CP) (OP : OwnC K CP C) (h : Alk K C CP H x y due) (q : ∀ H', L2.Ext H H' → Q (.bl (g due)) H') :
    EqAll K C (NestTwo C) g x y H Q ∨ EqAll K CP (ProgTwo CP C) g x y H Q := by
  rcases h with ⟨a, b, n, m, rfl, rfl, h1, h2, t1, t2, rfl⟩ | ⟨a, b, ns, ms, rfl, rfl, h1, h2, t1, t2, rfl⟩ | ⟨rfl, a, n, T, rfl, h1, h2⟩ | ⟨rfl, a, n, T, rfl, h1, h2⟩ | ⟨rfl, a, n, b, ns, rfl, h1, rfl, h2⟩
  · obtain ⟨dx, dp, ⟨R1, k1⟩, _⟩ := id h1
    obtain ⟨dy, dq, ⟨R2, k2⟩, _⟩ := id h2
    exact .inl (.inl ⟨a, b, _, _, _, _, _, rfl, rfl, k1, k2, ⟨n, m, h1, h2, t1, t2, rfl⟩, q⟩)
  · obtain ⟨dx, tp, xs, k1, _⟩ := id h1
    obtain ⟨dy, tq, ys, k2, _⟩ := id h2
    exact .inr (.inl ⟨a, b, _, _, _, _, _, rfl, rfl, k1, k2, ⟨ns, ms, h1, h2, t1, t2, rfl⟩, q⟩)
  · obtain ⟨dx, dp, ⟨R1, k1⟩, _⟩ := id h1
    exact .inl (.inr (.inl ⟨a, _, _, _, rfl, k1, h2.ty, O.first _ h2.mem, O.kit _ h2.mem, q H (fun _ _ e => e)⟩))
  · obtain ⟨dx, tp, xs, k1, _⟩ := id h1
    exact .inr (.inr (.inl ⟨a, _, _, _, rfl, k1, h2.ty, OP.first _ h2.mem, OP.kit _ h2.mem, q H (fun _ _ e => e)⟩))
  · obtain ⟨dx, dp, ⟨R1, k1⟩, _⟩ := id h1
    obtain ⟨dy, tq, ys, k2, _⟩ := id h2
    exact .inl (.inr (.inl ⟨a, _, _, _, rfl, k1, OP.ty k2, O.firstD, O.kitD, q H (fun _ _ e => e)⟩))
theorem ask_back {K : PySem.W.Frag} {C CP : Addr} {H : Hp} {x y : V} {due : Bool} {Q : VK} (g : Bool → Bool) (O : OwnC K C CP) (OP : OwnC K CP C) (h : Alk K C CP H x y due) (q : ∀ H', L2.Ext H H' → Q (.bl (g due)) H') :
    EqAll K C (NestTwo C) g y x H Q ∨ EqAll K CP (ProgTwo CP C) g y x H Q := by
  rcases h with ⟨a, b, n, m, rfl, rfl, h1, h2, t1, t2, rfl⟩ | ⟨a, b, ns, ms, rfl, rfl, h1, h2, t1, t2, rfl⟩ | ⟨rfl, a, n, T, rfl, h1, h2⟩ | ⟨rfl, a, n, T, rfl, h1, h2⟩ | ⟨rfl, a, n, b, ns, rfl, h1, rfl, h2⟩
  · obtain ⟨dx, dp, ⟨R1, k1⟩, _⟩ := id h1
    obtain ⟨dy, dq, ⟨R2, k2⟩, _⟩ := id h2
    exact .inl (.inl ⟨b, a, _, _, _, _, _, rfl, rfl, k2, k1, nestTwo_sym h1 h2 t1 t2, q⟩)
  · obtain ⟨dx, tp, xs, k1, _⟩ := id h1
    obtain ⟨dy, tq, ys, k2, _⟩ := id h2
    exact .inr (.inl ⟨b, a, _, _, _, _, _, rfl, rfl, k2, k1, ⟨ms, ns, h2, h1, t2, t1, by rw [decide_eq_decide]; exact eq_comm⟩, q⟩)
  · obtain ⟨dx, dp, ⟨R1, k1⟩, _⟩ := id h1
    exact .inl (.inr (.inr ⟨a, _, _, _, rfl, k1, h2, O.sub _ h2.mem, O.kit _ h2.mem, q H (fun _ _ e => e)⟩))
  · obtain ⟨dx, tp, xs, k1, _⟩ := id h1
    exact .inr (.inr (.inr ⟨a, _, _, _, rfl, k1, h2, OP.sub _ h2.mem, OP.kit _ h2.mem, q H (fun _ _ e => e)⟩))
  · obtain ⟨dx, dp, ⟨R1, k1⟩, _⟩ := id h1
    obtain ⟨dy, tq, ys, k2, _⟩ := id h2
    exact .inr (.inr (.inl ⟨b, _, _, _, rfl, k2, O.ty k1, OP.firstD, OP.kitD, q H (fun _ _ e => e)⟩))
end Sq.N3
namespace Sq.N3
open PySem L2 TL
abbrev sAlike : Stmt := top 48
/-- the == of both classes -/
structure Eqs (P : Program) (w : World) (K : PySem.W.Frag) (mg : Str → Option Value) (base : Heap) (C CP : Addr) : Prop where
  n : ∃ f d, PySem.W.findIn K (.ref C) "__eq__" = some (some (.ref f)) ∧ PySem.W.isFn K (.ref f) = true ∧ FnOk P w K mg base CX0 1 f d ["self", "other"] (spTwo (NestTwo C)) ∧ FnOk P w K mg base CX0 1 f d ["self", "other"] (spEqO C K) ∧ Binds K d ["self", "other"] []
  p : ∃ f d, PySem.W.findIn K (.ref CP) "__eq__" = some (some (.ref f)) ∧ PySem.W.isFn K (.ref f) = true ∧ FnOk P w K mg base CX0 3 f d ["self", "other"] (spTwo (ProgTwo CP C)) ∧ FnOk P w K mg base CX0 3 f d ["self", "other"] (spEqO CP K) ∧ Binds K d ["self", "other"] []
  o : OwnC K C CP
  q : OwnC K CP C
def spAlike (K : PySem.W.Frag) (C CP : Addr) : Sp := fun vs H Q _ => ∃ (x y : V) (due : Bool), vs = [x, y, .bl due] ∧ Alk K C CP H x y due ∧ ∀ H', Same H H' → Q (.bl true) H'
def dFour (a b c d : Bool) : PyData := .list [.bool a, .bool b, .bool c, .bool d]
theorem four_dp {K : PySem.W.Frag} {H : Hp} {t : Addr} {a b c d : Bool} (h : H t = some (.lst [.bl a, .bl b, .bl c, .bl d])) : Dp K H (.ref t) (dFour a b c d) := .lst (SqL.of h) (.cons (.bl _) (.cons (.bl _) (.cons (.bl _) (.cons (.bl _) .nil))))
section
variable {P : Program} {w : World} {K : PySem.W.Frag} {mg : Str → Option Value} {base : Heap} {C CP : Addr}
theorem scAlike : FnScope ["_law_one", "_law_two", "_law_due", "_law_seen"] ["_law_one", "_law_two", "_law_due"] (defScope sAlike) := ⟨rfl, rfl, rfl, by decide +kernel, rfl, by decide +kernel, by decide +kernel⟩
theorem ok_alike {f : Addr} {fd : FuncData} (F : Fun K "_law_alike" "_law_alike" sAlike f fd) (b : Binds K fd ["_law_one", "_law_two", "_law_due"] []) (zr : mg "repr" = none) (Z : Eqs P w K mg base C CP) : FnG P w K mg base 5 f (spAlike K C CP) := by
  obtain ⟨fn, dn, n1, n2, n3, n4, n5⟩ := Z.n
  obtain ⟨fp, dp, p1, p2, p3, p4, p5⟩ := Z.p
  have O := Z.o
  have OP := Z.q
  refine FnG.of F scAlike b (fun vs H Q h => ?_) (fun cdv A outer s H vs Q hg hr h => ?_)
  · obtain ⟨x, y, due, rfl, _⟩ := h
    rfl
  · obtain ⟨x, y, due, rfl, al, q⟩ := h
    have four : 4 ≤ sizeLine := by decide
    have hr2 := hr.mono (show 2 ≤ 4 by decide)
    have hr1 := hr.mono (show 1 ≤ 4 by decide)
    have hr3 := hr.mono (show 3 ≤ 4 by decide)
    refine ⟨_, pss_cons (ps_set (i := 3) scAlike.nd rfl (.inl rfl) (pe_lst
        (pa_cons (pe_cmpR (OpR.both (op_eqAll n1 n2 n3 n4 n5 hr1) (op_eqAll p1 p2 p3 p4 p5 hr3)) (pv 0) (pv 1) (nomark _))
        (pa_cons (pe_cmpR (OpR.both (op_eqAll n1 n2 n3 n4 n5 hr1) (op_eqAll p1 p2 p3 p4 p5 hr3)) (pv 1) (pv 0) (nomark _))
        (pa_cons (pe_cmpR (OpR.both (op_neAll O.ne O.ob n1 n2 n3 n4 n5 hr2) (op_neAll OP.ne OP.ob p1 p2 p3 p4 p5 hr)) (pv 0) (pv 1) (nomark _))
        (pa_cons (pe_cmpR (OpR.both (op_neAll O.ne O.ob n1 n2 n3 n4 n5 hr2) (op_neAll OP.ne OP.ob p1 p2 p3 p4 p5 hr)) (pv 1) (pv 0) (nomark _)) pa_nil))))))
      (pss_one (ps_ret (pe_cmpR op_eq (pe_callB (call_repr hg hr) (by rfl) zr (by decide +kernel) (pa_cons (pv 3) pa_nil)) (pe_callB (call_repr hg hr) (by rfl) zr (by decide +kernel) (pa_cons (pe_lst (pa_cons (pv 2) (pa_cons (pv 2) (pa_cons (pe_not (pv 2)) (pa_cons (pe_not (pv 2)) pa_nil))))) pa_nil)) (nomark _)))), ?_⟩
    refine ⟨_, rfl, _, rfl, ask_alike id O OP al fun H1 e1 => ⟨_, rfl, _, rfl, ask_back id O OP (al.same e1) fun H2 e2 => ?_⟩⟩
    have s2 : Same H H2 := Same.trans e1 e2
    refine ⟨_, rfl, _, rfl, ask_alike (!·) O OP (al.same s2) fun H3 e3 => ?_⟩
    have s3 : Same H H3 := Same.trans s2 e3
    refine ⟨_, rfl, _, rfl, ask_back (!·) O OP (al.same s3) fun H4 e4 => ⟨four, fun D nD => ?_⟩⟩
    have s4 : Same H H4 := Same.trans s3 e4
    have sD := same_new (o := .lst [V.bl (id due), V.bl (id due), V.bl (!due), V.bl (!due)]) nD
    have hD : upd H4 D (.lst [V.bl (id due), V.bl (id due), V.bl (!due), V.bl (!due)]) D = some (.lst [V.bl due, V.bl due, V.bl (!due), V.bl (!due)]) := upd_same
    have sh : (dFour due due (!due) (!due)).showable = true ∧ (dFour due due (!due) (!due)).hasDict = false ∧ (dFour due due (!due) (!due)).depth ≤ 20 ∧ (dFour due due (!due) (!due)).shown.length ≤ sizeLine := by
      cases due <;> refine ⟨by decide, by decide, by decide, ?_⟩ <;> exact Nat.le_trans (show _ ≤ 100 by decide) (by decide)
    obtain ⟨z1, z2, z3, z4⟩ := sh
    refine ⟨_, rfl, D, _, rfl, four_dp hD, z1, z2, z3, z4, ?_⟩
    refine ⟨_, rfl, _, rfl, _, rfl, ?_⟩
    refine ⟨due, rfl, _, rfl, due, rfl, four, fun D2 nD2 => ?_⟩
    have sD2 := same_new (o := .lst [V.bl due, V.bl due, V.bl (!due), V.bl (!due)]) nD2
    have hD2 : upd _ D2 (.lst [V.bl due, V.bl due, V.bl (!due), V.bl (!due)]) D2 = some (.lst [V.bl due, V.bl due, V.bl (!due), V.bl (!due)]) := upd_same (H := upd H4 D (.lst [V.bl (id due), V.bl (id due), V.bl (!due), V.bl (!due)]))
    refine ⟨D2, _, rfl, four_dp hD2, z1, z2, z3, z4, rfl, ?_⟩
    rw [decide_eq_true rfl]
    exact q _ ((s4.trans sD).trans sD2)
end
end Sq.N3
namespace Sq.N3
open PySem L2 TL
abbrev s__law_changed_part : Stmt := top 46
def spChP : Sp := fun vs H Q _ => ∃ (p : Addr) (N : Addr → Prop) (t : Addr) (q : Part), vs = [.ref p, .ref t] ∧ BagAt H p ∧ (∀ a, H a = none → N a) ∧ (∀ a, N a → a ≠ p) ∧ PartH N H t q ∧ PartOk q ∧
  ∀ (t' : Addr) (q' : Part) (H' : Hp), BagAt H' p → Off p H H' → PartH N H' t' q' → PartOk q' → Q (.ref t') H'
theorem iv_sub {d : Nat} (h : d < 2) : V.int (1 - (d : Int)) = iv (1 - d) := by
  unfold iv
  congr 1
  omega
theorem iv_mod (b : Nat) : V.int (((b : Int) + 1) % 18) = iv ((b + 1) % 18) := by
  unfold iv
  congr 1
theorem rev_pairs {α β : Type} {R : α → β → Prop} {xs : List α} {ys : List β} (hl : xs.length = ys.length) (h : ∀ (i : Nat) x y, xs[i]? = some x → ys[i]? = some y → R x y) : ∀ (i : Nat) x y, xs.reverse[i]? = some x → ys.reverse[i]? = some y → R x y := fun i x y hx hy => by
  have li : i < xs.length := by
    have z := (List.getElem?_eq_some_iff.mp hx).1
    rw [List.length_reverse] at z
    exact z
  rw [List.getElem?_reverse li] at hx
  rw [List.getElem?_reverse (by omega), ← hl] at hy
  exact h _ _ _ hx hy
section
variable {P : Program} {w : World} {K : PySem.W.Frag} {mg : Str → Option Value} {base : Heap}
theorem scChP : FnScope ["_law_bag_here", "_law_part_here", "_law_over", "_law_under", "_law_acts", "_law_way", "_law_act_here"] ["_law_bag_here", "_law_part_here"] (defScope s__law_changed_part) := ⟨rfl, rfl, rfl, by decide +kernel, rfl, by decide +kernel, by decide +kernel⟩
theorem ok_chPart {f : Addr} {fd : FuncData} (F : Fun K "_law_changed_part" "_law_changed_part" s__law_changed_part f fd) (T : Bt mg) (KT : Kn P w K mg base "_law_take" 1 ["_law_bag_here", "_law_many"] spDraw) : FnOk P w K mg base CX0 2 f fd ["_law_bag_here", "_law_part_here"] spChP := by
  obtain ⟨fT, dT, mT, kT, bT, GT⟩ := KT
  refine F.ok scChP (fun vs H Q E h => ?_) (fun cdv A outer s H vs Q E hr h => ?_)
  · obtain ⟨p, N, t, q, rfl, _⟩ := h
    rfl
  · obtain ⟨p, N, t, q0, rfl, hp, hN, hNp, hq, ok, qq⟩ := h
    have hr1 := hr
    have three : 3 ≤ sizeLine := by decide
    obtain ⟨o, u, l, ts, n1, n2, n3, n4, h1, h2, h3, h4, h5, h6⟩ := hq
    refine ⟨_, (pss_cons (ps_asg (pv 1) (pg_tup (by rfl) (pgs_cons (pg_name (i := 2) scChP.nd rfl (by first | exact .inl rfl | exact .inr rfl)) (pgs_cons (pg_name (i := 3) scChP.nd rfl (by first | exact .inl rfl | exact .inr rfl)) (pgs_cons (pg_name (i := 4) scChP.nd rfl (by first | exact .inl rfl | exact .inr rfl)) pgs_nil)))))
        (pss_cons (ps_set (i := 5) scChP.nd rfl (by first | exact .inl rfl | exact .inr rfl) (pe_call GT hr1 (by rfl) mT kT bT .nil pass0 (pa_cons (pv 0) (pa_cons pe_int pa_nil))))
        (pss_cons (ps_if (pt_cmpR op_eq (pv 5) pe_int (nomark _))
        (pss_one (ps_ret (pe_tup (pa_cons (pe_tup (pa_cons (pe_ix ix_tup (pv 2) pe_int (fun _ _ => rfl)) (pa_cons (pe_ix ix_tup (pv 2) pe_int (fun _ _ => rfl)) (pa_cons (pe_op op_sub pe_int (pe_ix ix_tup (pv 2) pe_int (fun _ _ => rfl))) pa_nil)))) (pa_cons (pv 3) (pa_cons (pv 4) pa_nil))))))
        pss_nil)
        (pss_cons (ps_if (pt_cmpR op_eq (pv 5) pe_int (nomark _))
        (pss_one (ps_ret (pe_tup (pa_cons (pv 2) (pa_cons (pe_tup (pa_cons (pe_ix ix_tup (pv 3) pe_int (fun _ _ => rfl)) (pa_cons (pe_op op_mod (pe_callTy call_int1 (by rfl) T.int (by decide +kernel) (pa_cons (pe_op op_add (pe_ix ix_tup (pv 3) pe_int (fun _ _ => rfl)) pe_int) pa_nil)) pe_int) (pa_cons (pe_ix ix_tup (pv 3) pe_int (fun _ _ => rfl)) pa_nil)))) (pa_cons (pv 4) pa_nil))))))
        pss_nil)
        (pss_cons (ps_if (pt_cmpR op_eq (pv 5) pe_int (nomark _))
        (pss_one (ps_ret (pe_tup (pa_cons (pv 2) (pa_cons (pv 3) (pa_cons (pe_revL (pv 4)) pa_nil))))))
        pss_nil)
        (pss_cons (ps_if (pt_cmpR op_eq (pv 5) pe_int (nomark _))
        (pss_one (ps_ret (pe_tup (pa_cons (pv 2) (pa_cons (pv 3) (pa_cons (pe_lc (own := [("_law_act_here", 6)]) (g := gName 6) (by rfl) scChP.nd (pi_list (pv 4)) (blkOk_by (own := [("_law_act_here", 6)]) (N := ["_law_bag_here", "_law_part_here", "_law_over", "_law_under", "_law_acts", "_law_way", "_law_act_here"]) (sc := defScope s__law_changed_part) (by decide +kernel))
            (fun _ _ _ _ _ => (pg_name (i := 6) scChP.nd rfl (by first | exact .inl rfl | exact .inr rfl))) (fun _ _ _ _ _ => pts_nil) (fun _ _ _ _ _ => (show PE _ _ (tTup (tCons (tOp (L2.rIxT K) (tVar 6) (tC (.int 0))) (tCons (tOp (L2.rIxT K) (tVar 6) (tC (.int 1))) (tCons (tTup tNil) tNil)))) from (pe_tup (pa_cons (pe_ix ix_tup (pv 6) pe_int (fun _ _ => rfl)) (pa_cons (pe_ix ix_tup (pv 6) pe_int (fun _ _ => rfl)) (pa_cons (pe_tup pa_nil) pa_nil))))))) pa_nil))))))
        pss_nil)
        (pss_cons (ps_if (pt_cmpR op_eq (pv 5) pe_int (nomark _))
        (pss_one (ps_ret (pe_tup (pa_cons (pv 2) (pa_cons (pv 3) (pa_cons (pe_slice sl_list (pv 4) (po_some pe_int) po_none) pa_nil))))))
        pss_nil)
        (pss_one (ps_ret (pe_tup (pa_cons (pv 2) (pa_cons (pv 3) (pa_cons (pe_lc (own := [("_law_act_here", 6)]) (g := gName 6) (by rfl) scChP.nd (pi_list (pv 4)) (blkOk_by (own := [("_law_act_here", 6)]) (N := ["_law_bag_here", "_law_part_here", "_law_over", "_law_under", "_law_acts", "_law_way", "_law_act_here"]) (sc := defScope s__law_changed_part) (by decide +kernel))
            (fun _ _ _ _ _ => (pg_name (i := 6) scChP.nd rfl (by first | exact .inl rfl | exact .inr rfl))) (fun _ _ _ _ _ => pts_nil) (fun _ _ _ _ _ => (show PE _ _ (tTup (tCons (tOp (L2.rIxT K) (tVar 6) (tC (.int 0))) (tCons (tRevL K (tOp (L2.rIxT K) (tVar 6) (tC (.int 1)))) (tCons (tOp (L2.rIxT K) (tVar 6) (tC (.int 2))) tNil)))) from (pe_tup (pa_cons (pe_ix ix_tup (pv 6) pe_int (fun _ _ => rfl)) (pa_cons (pe_revL (pe_ix ix_tup (pv 6) pe_int (fun _ _ => rfl))) (pa_cons (pe_ix ix_tup (pv 6) pe_int (fun _ _ => rfl)) pa_nil))))))) pa_nil))))))))))))), ?_⟩
    refine ⟨_, rfl, t, _, rfl, SqT.of h1, rfl, _, _, rfl, _, _, rfl, _, _, rfl, rfl, ?_⟩
    refine ⟨_, rfl, p, 6, rfl, hp, by decide, by decide, fun r H1 rl hp1 o1 => ?_⟩
    have keep : ∀ b x, N b → H b = some x → H1 b = some x := fun b x nb e => o1 b x (hNp b nb) e
    have newN : ∀ a, H1 a = none → N a := fun a e => hN a (off_none o1 (bag_ne hp1 e) e)
    have k2 := keep _ _ n2 h2
    have k3 := keep _ _ n3 h3
    have k4 := keep _ _ n4 h4
    have k6 : ∀ (i : Nat) (s : Addr) (x : Act3), ts[i]? = some s → q0.acts[i]? = some x → ActH N H1 s x.1 x.2.1 x.2.2 := fun i s x a b => (h6 i s x a b).keep (fun _ z => z) keep
    have fin : ∀ (t' : Addr) (q' : Part) (H' : Hp), Same H1 H' → PartH N H' t' q' → PartOk q' → Q (.ref t') H' := fun t' q' H' s h ok => qq t' q' H' (hp1.ext s) (o1.trans (Same.off s)) h ok
    have lift : ∀ {H' : Hp}, Same H1 H' → ∀ (i : Nat) (s : Addr) (x : Act3), ts[i]? = some s → q0.acts[i]? = some x → ActH N H' s x.1 x.2.1 x.2.2 := fun s i a x h h' => (k6 i a x h h').keep (fun _ z => z) fun b x _ e => s b x e
    refine ⟨_, rfl, rfl, _, rfl, ?_⟩
    refine ite2 (fun _ => ?_) (fun _ => ?_)
    · refine ⟨_, rfl, o, _, 0, _, rfl, rfl, SqT.of k2, rfl, _, rfl, o, _, 1, _, rfl, rfl, SqT.of k2, rfl, _, rfl, o, _, 2, _, rfl, rfl, SqT.of k2, rfl, _, _, rfl, rfl, three, fun t1 nt1 => ?_⟩
      have s1 := same_new (o := .tup [iv q0.o.1, iv q0.o.2.1, V.int (1 - (q0.o.2.2 : Int))]) nt1
      refine ⟨_, rfl, _, rfl, three, fun t2 nt2 => ?_⟩
      have s2 := same_new (o := .tup [.ref t1, .ref u, .ref l]) nt2
      have s12 := s1.trans s2
      have a1 : N t1 := newN t1 nt1
      have a2 : N t2 := newN t2 (by
        cases e : H1 t2 with
        | none => rfl
        | some z => rw [s1 _ _ e] at nt2; cases nt2)
      refine fin t2 ⟨(q0.o.1, q0.o.2.1, 1 - q0.o.2.2), q0.u, q0.acts⟩ _ s12 ⟨t1, u, l, ts, a2, a1, n3, n4, upd_same, ?_, s12 _ _ k3, s12 _ _ k4, h5, lift s12⟩ ⟨ok.o1, ok.o2, ok.u1, ok.u2, ok.al, ok.ok, by show 1 - q0.o.2.2 < 2; omega⟩
      refine s2 _ _ ?_
      rw [upd_same]
      exact congrArg (fun z => some (HO.tup [iv q0.o.1, iv q0.o.2.1, z])) (iv_sub ok.od)
    refine ⟨_, rfl, rfl, _, rfl, ?_⟩
    refine ite2 (fun _ => ?_) (fun _ => ?_)
    · refine ⟨_, rfl, _, rfl, u, _, 0, _, rfl, rfl, SqT.of k3, rfl, _, rfl, u, _, 1, _, rfl, rfl, SqT.of k3, rfl, _, _, rfl, rfl, .inl ⟨_, rfl, _, _, rfl, rfl, (by show (0 : Int) < 18; decide), ?_⟩⟩
      refine ⟨_, rfl, u, _, 2, _, rfl, rfl, SqT.of k3, rfl, three, fun t1 nt1 => ?_⟩
      have s1 := same_new (o := .tup [iv q0.u.1, V.int (((q0.u.2.1 : Int) + 1) % 18), iv q0.u.2.2]) nt1
      refine ⟨_, rfl, three, fun t2 nt2 => ?_⟩
      have s2 := same_new (o := .tup [.ref o, .ref t1, .ref l]) nt2
      have s12 := s1.trans s2
      have a1 : N t1 := newN t1 nt1
      have a2 : N t2 := newN t2 (by
        cases e : H1 t2 with
        | none => rfl
        | some z => rw [s1 _ _ e] at nt2; cases nt2)
      refine fin t2 ⟨q0.o, (q0.u.1, (q0.u.2.1 + 1) % 18, q0.u.2.2), q0.acts⟩ _ s12 ⟨o, t1, l, ts, a2, n2, a1, n4, upd_same, s12 _ _ k2, ?_, s12 _ _ k4, h5, lift s12⟩ ⟨ok.o1, ok.o2, ok.u1, Nat.mod_lt _ (by decide), ok.al, ok.ok, ok.od⟩
      refine s2 _ _ ?_
      rw [upd_same]
      exact congrArg (fun z => some (HO.tup [iv q0.u.1, z, iv q0.u.2.2])) (iv_mod _)
    refine ⟨_, rfl, rfl, _, rfl, ?_⟩
    refine ite2 (fun _ => ?_) (fun _ => ?_)
    · refine ⟨_, rfl, _, rfl, _, rfl, l, _, rfl, SqL.of k4, fun l2 nl2 => ⟨three, fun t2 nt2 => ?_⟩⟩
      have s1 := same_new (o := .lst (ts.map V.ref).reverse) nl2
      have s2 := same_new (o := .tup [.ref o, .ref u, .ref l2]) nt2
      have s12 := s1.trans s2
      have a1 : N l2 := newN l2 nl2
      have a2 : N t2 := newN t2 (by
        cases e : H1 t2 with
        | none => rfl
        | some z => rw [s1 _ _ e] at nt2; cases nt2)
      refine fin t2 ⟨q0.o, q0.u, q0.acts.reverse⟩ _ s12 ⟨o, u, l2, ts.reverse, a2, n2, n3, a1, upd_same, s12 _ _ k2, s12 _ _ k3, s2 _ _ (by rw [upd_same, List.map_reverse]), by rw [List.length_reverse, List.length_reverse, h5], rev_pairs (R := fun s x => ActH N _ s x.1 x.2.1 x.2.2) h5 (lift s12)⟩
        ⟨ok.o1, ok.o2, ok.u1, ok.u2, by show q0.acts.reverse.length ≤ 6; rw [List.length_reverse]; exact ok.al, fun x hx => ok.ok x (List.mem_reverse.mp hx), ok.od⟩
    refine ⟨_, rfl, rfl, _, rfl, ?_⟩
    refine ite2 (fun _ => ?_) (fun _ => ?_)
    · refine ⟨_, rfl, _, rfl, _, rfl, l, rfl, ⟨_, SqL.of k4⟩, fun D nD => ?_⟩
      have ne : ∀ {a : Addr} {x : HO}, H1 a = some x → a ≠ D := fun e z => by rw [z, nD] at e; cases e
      refine lc_list (K := K) (a := l) (xs := ts.map V.ref) (fun i H' => Same H1 H' ∧ ∃ us : List Addr, H' D = some (.lst (us.map V.ref)) ∧ us.length = i ∧ ∀ (j : Nat) (s : Addr) (x : Act3), us[j]? = some s → q0.acts[j]? = some x → ActH (fun a => N a ∧ a ≠ D) H' s x.1 x.2.1 none)
        ⟨same_new nD, [], upd_same, rfl, fun j s x hs _ => by cases hs⟩ (fun i H' _ h => SqL.of (h.1 _ _ k4)) (fun i x H' hx h => ?_) (fun H' h => ?_)
      · obtain ⟨sm, us, hD, hl, hus⟩ := h
        obtain ⟨s, hs, rfl⟩ : ∃ s, ts[i]? = some s ∧ x = .ref s := by
          rw [List.getElem?_map] at hx
          obtain ⟨s, hs, e⟩ := Option.map_eq_some_iff.mp hx
          exact ⟨s, hs, e.symm⟩
        have hi : i < q0.acts.length := by rw [← h5]; exact (List.getElem?_eq_some_iff.mp hs).1
        obtain ⟨la, lu, b1, b2, b3, c1, c2, c3⟩ := k6 i s _ hs (List.getElem?_eq_getElem hi)
        have fresh : ∀ {a : Addr}, H' a = none → N a ∧ a ≠ D := fun {a} e => ⟨newN _ (by
          cases z : H1 a with
          | none => rfl
          | some x => rw [sm _ _ z] at e; cases e), fun z => by rw [z, hD] at e; cases e⟩
        refine ⟨rfl, ?_⟩
        refine ⟨_, rfl, s, _, 0, _, rfl, rfl, SqT.of (sm _ _ c1), rfl, _, rfl, s, _, 1, _, rfl, rfl, SqT.of (sm _ _ c1), rfl, (by show 0 ≤ sizeLine; decide), fun u0 nu0 => ⟨three, fun t1 nt1 => ?_⟩⟩
        have s1 := same_new (o := .tup []) nu0
        have s2 := same_new (o := .tup [iv q0.acts[i].1, .ref la, .ref u0]) nt1
        have all := s1.trans s2
        have f0 := fresh nu0
        have f1 := fresh (a := t1) (by
          cases z : H' t1 with
          | none => rfl
          | some x => rw [s1 _ _ z] at nt1; cases nt1)
        refine ⟨us.map V.ref, all _ _ hD, ?_, fun b x hb => ?_, us ++ [t1], ?_, ?_, fun j s' x' hs' hx' => ?_⟩
        · rw [List.length_map, hl]
          have h7 : 6 < sizeLine := by decide
          have := ok.al
          omega
        · rw [upd_ne (ne hb)]
          exact all _ _ (sm _ _ hb)
        · rw [upd_same, List.map_append]
          rfl
        · rw [List.length_append, hl]
          rfl
        · by_cases hj : j < us.length
          · rw [List.getElem?_append_left hj] at hs'
            refine (hus j s' x' hs' hx').keep (fun _ z => z) fun b x hb e => ?_
            rw [upd_ne hb.2]
            exact all _ _ e
          · rw [List.getElem?_append_right (Nat.le_of_not_lt hj)] at hs'
            have hj0 : j - us.length = 0 := by
              have z := (List.getElem?_eq_some_iff.mp hs').1
              simp at z
              omega
            rw [hj0] at hs'
            cases hs'
            have ji : j = i := by omega
            subst ji
            rw [List.getElem?_eq_getElem hi] at hx'
            cases hx'
            refine ⟨la, u0, f1, ⟨b2, ne c2⟩, f0, ?_, ?_, ?_⟩
            · rw [upd_ne f1.2, upd_same]
            · rw [upd_ne (ne c2)]
              exact all _ _ (sm _ _ c2)
            · rw [upd_ne f0.2]
              exact s2 _ _ upd_same
      · obtain ⟨sm, us, hD, hl, hus⟩ := h
        rw [List.length_map] at hl
        refine ⟨three, fun t2 nt2 => ?_⟩
        have s2 := same_new (o := .tup [.ref o, .ref u, .ref D]) nt2
        have s12 := sm.trans s2
        have a2 : N t2 := newN t2 (by
          cases e : H1 t2 with
          | none => rfl
          | some z => rw [sm _ _ e] at nt2; cases nt2)
        refine fin t2 ⟨q0.o, q0.u, q0.acts.map fun x => (x.1, x.2.1, none)⟩ _ s12 ⟨o, u, D, us, a2, n2, n3, newN D nD, upd_same, s12 _ _ k2, s12 _ _ k3, s2 _ _ hD, by rw [List.length_map, hl, h5], fun j s x hs hx => ?_⟩ ⟨ok.o1, ok.o2, ok.u1, ok.u2, by show (List.map _ q0.acts).length ≤ 6; rw [List.length_map]; exact ok.al, fun x hx => ?_, ok.od⟩
        · rw [List.getElem?_map] at hx
          obtain ⟨y, hy, rfl⟩ := Option.map_eq_some_iff.mp hx
          exact (hus j s y hs hy).keep (fun _ z => z.1) fun b x _ e => s2 b x e
        · obtain ⟨y, hy, rfl⟩ := List.mem_map.mp hx
          have z := ok.ok y hy
          exact ⟨z.w4, z.two, z.more, z.nd, z.lt, fun a b c e => by cases e⟩
    refine ⟨_, rfl, rfl, _, rfl, ?_⟩
    refine ite2 (fun _ => ?_) (fun _ => ?_)
    · refine ⟨_, rfl, _, rfl, _, rfl, _, rfl, l, _, rfl, SqL.of k4, fun l2 nl2 => ⟨three, fun t2 nt2 => ?_⟩⟩
      have ec : cutV (ts.map V.ref) (some 1) none = (ts.drop 1).map V.ref := by
        unfold cutV
        rw [HT.sIx_none]
        have e1 : HT.sIx (ts.map V.ref).length 0 (some 1) = min 1 (ts.map V.ref).length := rfl
        rw [e1, List.take_of_length_le (by rw [List.length_drop]; exact Nat.le_refl _)]
        cases ts with
        | nil => rfl
        | cons a r =>
          rw [Nat.min_eq_left (by simp)]
          rfl
      have s1 := same_new (o := .lst (cutV (ts.map V.ref) (some 1) none)) nl2
      have s2 := same_new (o := .tup [.ref o, .ref u, .ref l2]) nt2
      have s12 := s1.trans s2
      have a1 : N l2 := newN l2 nl2
      have a2 : N t2 := newN t2 (by
        cases e : H1 t2 with
        | none => rfl
        | some z => rw [s1 _ _ e] at nt2; cases nt2)
      refine fin t2 ⟨q0.o, q0.u, q0.acts.drop 1⟩ _ s12 ⟨o, u, l2, ts.drop 1, a2, n2, n3, a1, upd_same, s12 _ _ k2, s12 _ _ k3, s2 _ _ (by rw [upd_same, ec]), by rw [List.length_drop, List.length_drop, h5], fun j s x hs hx => ?_⟩
        ⟨ok.o1, ok.o2, ok.u1, ok.u2, by show (q0.acts.drop 1).length ≤ 6; rw [List.length_drop]; have := ok.al; omega, fun x hx => ok.ok x (List.mem_of_mem_drop hx), ok.od⟩
      rw [List.getElem?_drop] at hs hx
      exact lift s12 _ s x hs hx
    refine ⟨_, rfl, _, rfl, _, rfl, l, rfl, ⟨_, SqL.of k4⟩, fun D nD => ?_⟩
    have ne : ∀ {a : Addr} {x : HO}, H1 a = some x → a ≠ D := fun e z => by rw [z, nD] at e; cases e
    refine lc_list (K := K) (a := l) (xs := ts.map V.ref) (fun i H' => Same H1 H' ∧ ∃ us : List Addr, H' D = some (.lst (us.map V.ref)) ∧ us.length = i ∧ ∀ (j : Nat) (s : Addr) (x : Act3), us[j]? = some s → q0.acts[j]? = some x → ActH (fun a => N a ∧ a ≠ D) H' s x.1 x.2.1.reverse x.2.2)
      ⟨same_new nD, [], upd_same, rfl, fun j s x hs _ => by cases hs⟩ (fun i H' _ h => SqL.of (h.1 _ _ k4)) (fun i x H' hx h => ?_) (fun H' h => ?_)
    · obtain ⟨sm, us, hD, hl, hus⟩ := h
      obtain ⟨s, hs, rfl⟩ : ∃ s, ts[i]? = some s ∧ x = .ref s := by
        rw [List.getElem?_map] at hx
        obtain ⟨s, hs, e⟩ := Option.map_eq_some_iff.mp hx
        exact ⟨s, hs, e.symm⟩
      have hi : i < q0.acts.length := by rw [← h5]; exact (List.getElem?_eq_some_iff.mp hs).1
      obtain ⟨la, lu, b1, b2, b3, c1, c2, c3⟩ := k6 i s _ hs (List.getElem?_eq_getElem hi)
      have fresh : ∀ {a : Addr}, H' a = none → N a ∧ a ≠ D := fun {a} e => ⟨newN _ (by
        cases z : H1 a with
        | none => rfl
        | some x => rw [sm _ _ z] at e; cases e), fun z => by rw [z, hD] at e; cases e⟩
      refine ⟨rfl, ?_⟩
      refine ⟨_, rfl, s, _, 0, _, rfl, rfl, SqT.of (sm _ _ c1), rfl, _, rfl, s, _, 1, _, rfl, rfl, SqT.of (sm _ _ c1), rfl, la, _, rfl, SqL.of (sm _ _ c2), fun u0 nu0 => ⟨_, rfl, s, _, 2, _, rfl, rfl, SqT.of (same_new nu0 _ _ (sm _ _ c1)), rfl, three, fun t1 nt1 => ?_⟩⟩
      have s1 := same_new (o := .lst (q0.acts[i].2.1.map iv).reverse) nu0
      have s2 := same_new (o := .tup [iv q0.acts[i].1, .ref u0, .ref lu]) nt1
      have all := s1.trans s2
      have f0 := fresh nu0
      have f1 := fresh (a := t1) (by
        cases z : H' t1 with
        | none => rfl
        | some x => rw [s1 _ _ z] at nt1; cases nt1)
      refine ⟨us.map V.ref, all _ _ hD, ?_, fun b x hb => ?_, us ++ [t1], ?_, ?_, fun j s' x' hs' hx' => ?_⟩
      · rw [List.length_map, hl]
        have h7 : 6 < sizeLine := by decide
        have := ok.al
        omega
      · rw [upd_ne (ne hb)]
        exact all _ _ (sm _ _ hb)
      · rw [upd_same, List.map_append]
        rfl
      · rw [List.length_append, hl]
        rfl
      · by_cases hj : j < us.length
        · rw [List.getElem?_append_left hj] at hs'
          refine (hus j s' x' hs' hx').keep (fun _ z => z) fun b x hb e => ?_
          rw [upd_ne hb.2]
          exact all _ _ e
        · rw [List.getElem?_append_right (Nat.le_of_not_lt hj)] at hs'
          have hj0 : j - us.length = 0 := by
            have z := (List.getElem?_eq_some_iff.mp hs').1
            simp at z
            omega
          rw [hj0] at hs'
          cases hs'
          have ji : j = i := by omega
          subst ji
          rw [List.getElem?_eq_getElem hi] at hx'
          cases hx'
          refine ⟨u0, lu, f1, f0, ⟨b3, ne c3⟩, ?_, ?_, ?_⟩
          · rw [upd_ne f1.2, upd_same]
          · rw [upd_ne f0.2]
            refine s2 _ _ ?_
            rw [upd_same, List.map_reverse]
          · rw [upd_ne (ne c3)]
            exact all _ _ (sm _ _ c3)
    · obtain ⟨sm, us, hD, hl, hus⟩ := h
      rw [List.length_map] at hl
      refine ⟨three, fun t2 nt2 => ?_⟩
      have s2 := same_new (o := .tup [.ref o, .ref u, .ref D]) nt2
      have s12 := sm.trans s2
      have a2 : N t2 := newN t2 (by
        cases e : H1 t2 with
        | none => rfl
        | some z => rw [sm _ _ e] at nt2; cases nt2)
      refine fin t2 ⟨q0.o, q0.u, q0.acts.map fun x => (x.1, x.2.1.reverse, x.2.2)⟩ _ s12 ⟨o, u, D, us, a2, n2, n3, newN D nD, upd_same, s12 _ _ k2, s12 _ _ k3, s2 _ _ hD, by rw [List.length_map, hl, h5], fun j s x hs hx => ?_⟩ ⟨ok.o1, ok.o2, ok.u1, ok.u2, by show (List.map _ q0.acts).length ≤ 6; rw [List.length_map]; exact ok.al, fun x hx => ?_, ok.od⟩
      · rw [List.getElem?_map] at hx
        obtain ⟨y, hy, rfl⟩ := Option.map_eq_some_iff.mp hx
        exact (hus j s y hs hy).keep (fun _ z => z.1) fun b x _ e => s2 b x e
      · obtain ⟨y, hy, rfl⟩ := List.mem_map.mp hx
        have z := ok.ok y hy
        exact ⟨z.w4, fun e => by rw [List.length_reverse]; exact z.two e, fun e => by rw [List.length_reverse]; exact z.more e, List.Perm.nodup (List.reverse_perm _).symm z.nd, fun a h => z.lt a (List.mem_reverse.mp h), z.gd⟩
end
end Sq.N3
namespace Sq.N3
open PySem L2 TL
abbrev s__law_changed : Stmt := top 47
def spChg : Sp := fun vs H Q _ => ∃ (p : Addr) (N : Addr → Prop) (D : Addr) (qs : List Part), vs = [.ref p, .ref D] ∧ BagAt H p ∧ (∀ a, H a = none → N a) ∧ (∀ a, N a → a ≠ p) ∧ PlanH N H D qs ∧ qs.length ≤ 4 ∧ (∀ q ∈ qs, PartOk q) ∧
  ∀ (D' : Addr) (qs' : List Part) (H' : Hp), BagAt H' p → Off p H H' → PlanH N H' D' qs' → qs'.length ≤ 4 → (∀ q ∈ qs', PartOk q) → Q (.ref D') H'
def Prr {α β : Type} (R : α → β → Prop) (xs : List α) (ys : List β) : Prop := xs.length = ys.length ∧ ∀ (i : Nat) x y, xs[i]? = some x → ys[i]? = some y → R x y
section
variable {α β : Type} {R : α → β → Prop} {xs xs' : List α} {ys ys' : List β}
theorem Prr.rev (h : Prr R xs ys) : Prr R xs.reverse ys.reverse := ⟨by rw [List.length_reverse, List.length_reverse, h.1], rev_pairs h.1 h.2⟩
theorem Prr.drop (h : Prr R xs ys) (k : Nat) : Prr R (xs.drop k) (ys.drop k) := ⟨by rw [List.length_drop, List.length_drop, h.1], fun i x y a b => by
  rw [List.getElem?_drop] at a b
  exact h.2 _ x y a b⟩
theorem Prr.take (h : Prr R xs ys) (k : Nat) : Prr R (xs.take k) (ys.take k) := ⟨by rw [List.length_take, List.length_take, h.1], fun i x y a b => by
  rw [List.getElem?_take] at a b
  split at a
  · rename_i z
    rw [if_pos z] at b
    exact h.2 i x y a b
  · cases a⟩
theorem Prr.app (h : Prr R xs ys) (g : Prr R xs' ys') : Prr R (xs ++ xs') (ys ++ ys') := ⟨by rw [List.length_append, List.length_append, h.1, g.1], fun i x y a b => by
  by_cases hi : i < xs.length
  · rw [List.getElem?_append_left hi] at a
    rw [List.getElem?_append_left (by rw [← h.1]; exact hi)] at b
    exact h.2 i x y a b
  · rw [List.getElem?_append_right (Nat.le_of_not_lt hi)] at a
    rw [List.getElem?_append_right (by rw [← h.1]; exact Nat.le_of_not_lt hi), ← h.1] at b
    exact g.2 _ x y a b⟩
theorem Prr.one {x : α} {y : β} (h : R x y) : Prr R [x] [y] := ⟨rfl, fun i u v a b => by
  cases i with
  | zero => cases a; cases b; exact h
  | succ i => cases a⟩
theorem Prr.imp {S : α → β → Prop} (h : Prr R xs ys) (k : ∀ x y, R x y → S x y) : Prr S xs ys := ⟨h.1, fun i x y a b => k _ _ (h.2 i x y a b)⟩
end
theorem new_both {H : Hp} {p : Addr} {o : HO} (h : H p = none) : Same H (upd H p o) ∧ upd H p o p = some o := ⟨same_new h, upd_same⟩
theorem cut_from (ts : List Addr) (k : Nat) (hk : k ≤ ts.length) : cutV (ts.map V.ref) (some (k : Int)) none = (ts.drop k).map V.ref := by
  unfold cutV
  rw [HT.sIx_none]
  have e1 : HT.sIx (ts.map V.ref).length 0 (some (k : Int)) = k := by
    show (if (k : Int) < 0 then ((k : Int) + ((ts.map V.ref).length : Int)).toNat else min (k : Int).toNat (ts.map V.ref).length) = k
    rw [if_neg (by omega), List.length_map]
    omega
  rw [e1, List.take_of_length_le (by rw [List.length_drop]; exact Nat.le_refl _), List.map_drop]
theorem cut_to (ts : List Addr) (k : Nat) (hk : k ≤ ts.length) : cutV (ts.map V.ref) none (some (k : Int)) = (ts.take k).map V.ref := by
  unfold cutV
  rw [HT.sIx_none]
  have e1 : HT.sIx (ts.map V.ref).length (ts.map V.ref).length (some (k : Int)) = k := by
    show (if (k : Int) < 0 then ((k : Int) + ((ts.map V.ref).length : Int)).toNat else min (k : Int).toNat (ts.map V.ref).length) = k
    rw [if_neg (by omega), List.length_map]
    omega
  rw [e1, List.drop_zero, Nat.sub_zero, List.map_take]
section
variable {P : Program} {w : World} {K : PySem.W.Frag} {mg : Str → Option Value} {base : Heap}
theorem scChg : FnScope ["_law_bag_here", "_law_plan", "_law_way", "_law_at"] ["_law_bag_here", "_law_plan"] (defScope s__law_changed) := ⟨rfl, rfl, rfl, by decide +kernel, rfl, by decide +kernel, by decide +kernel⟩
theorem ok_changed {f : Addr} {fd : FuncData} (F : Fun K "_law_changed" "_law_changed" s__law_changed f fd) (T : Bt mg) (hli : mg "list" = none) (KT : Kn P w K mg base "_law_take" 1 ["_law_bag_here", "_law_many"] spDraw) (KS : Kn P w K mg base "_law_scheme" 4 ["_law_bag_here", "_law_parts", "_law_acts"] spScheme)
    (KC : Kn P w K mg base "_law_changed_part" 2 ["_law_bag_here", "_law_part_here"] spChP) : FnOk P w K mg base CX0 5 f fd ["_law_bag_here", "_law_plan"] spChg := by
  obtain ⟨fT, dT, mT, kT, bT, GT⟩ := KT
  obtain ⟨fS, dS, mS, kS, bS, GS⟩ := KS
  obtain ⟨fC, dC, mC, kC, bC, GC⟩ := KC
  refine F.ok scChg (fun vs H Q E h => ?_) (fun cdv A outer s H vs Q E hr h => ?_)
  · obtain ⟨p, N, D, qs, rfl, _⟩ := h
    rfl
  · obtain ⟨p, N, D, qs, rfl, hp, hN, hNp, ⟨nD, ts, hD, htl, hts⟩, ql, ok, qq⟩ := h
    have hr1 := hr.mono (show 1 ≤ 4 by decide)
    have hr2 := hr.mono (show 2 ≤ 4 by decide)
    have big : 16 ≤ sizeLine := by decide
    refine ⟨_, (pss_cons (ps_set (i := 2) scChg.nd rfl (by first | exact .inl rfl | exact .inr rfl) (pe_call GT hr1 (by rfl) mT kT bT .nil pass0 (pa_cons (pv 0) (pa_cons pe_int pa_nil))))
        (pss_cons (ps_if (pt_cmpR op_eq (pv 2) pe_int (nomark _))
        (pss_one (ps_ret (pe_callTy call_list_of (by rfl) hli (by decide +kernel) (pa_cons (pv 1) pa_nil))))
        pss_nil)
        (pss_cons (ps_if (PW.pt (pw_or (pt_cmpR op_eq (pv 2) pe_int (nomark _)) (pw_or1 (pt_cmpR (op_eqNil hr) (pv 1) (pe_lst pa_nil) (nomark _)))))
        (pss_one (ps_ret (pe_call GS hr (by rfl) mS kS bS .nil pass0 (pa_cons (pv 0) (pa_cons pe_int (pa_cons pe_int pa_nil))))))
        pss_nil)
        (pss_cons (ps_if (pt_cmpR op_eq (pv 2) pe_int (nomark _))
        (pss_one (ps_ret (pe_revL (pv 1))))
        pss_nil)
        (pss_cons (ps_if (pt_cmpR op_eq (pv 2) pe_int (nomark _))
        (pss_one (ps_ret (pe_op op_cat (pe_slice sl_list (pv 1) (po_some pe_int) po_none) (pe_slice sl_list (pv 1) po_none (po_some pe_int)))))
        pss_nil)
        (pss_cons (ps_set (i := 3) scChg.nd rfl (by first | exact .inl rfl | exact .inr rfl) (pe_call GT hr1 (by rfl) mT kT bT .nil pass0 (pa_cons (pv 0) (pa_cons (pe_callB call_len_seq (by rfl) T.len PySem.boot_len (pa_cons (pv 1) pa_nil)) pa_nil))))
        (pss_cons (ps_if (pt_cmpR op_eq (pv 2) pe_int (nomark _))
        (pss_one (ps_ret (pe_op op_cat (pe_op op_cat (pe_slice sl_list (pv 1) po_none (po_some (pv 3))) (pe_lst (pa_cons (pe_ix ix_list (pv 1) (pe_call GT hr1 (by rfl) mT kT bT .nil pass0 (pa_cons (pv 0) (pa_cons (pe_callB call_len_seq (by rfl) T.len PySem.boot_len (pa_cons (pv 1) pa_nil)) pa_nil))) (fun _ _ => rfl)) pa_nil))) (pe_slice sl_list (pv 1) (po_some (pe_op op_add (pv 3) pe_int)) po_none))))
        pss_nil)
        (pss_one (ps_ret (pe_op op_cat (pe_op op_cat (pe_slice sl_list (pv 1) po_none (po_some (pv 3))) (pe_lst (pa_cons (pe_call GC hr2 (by rfl) mC kC bC .nil pass0 (pa_cons (pv 0) (pa_cons (pe_ix ix_list (pv 1) (pv 3) (fun _ _ => rfl)) pa_nil))) pa_nil))) (pe_slice sl_list (pv 1) (po_some (pe_op op_add (pv 3) pe_int)) po_none))))))))))), ?_⟩
    refine ⟨_, rfl, p, 6, rfl, hp, by decide, by decide, fun r H1 rl hp1 o1 => ?_⟩
    have keep : ∀ b x, N b → H b = some x → H1 b = some x := fun b x nb e => o1 b x (hNp b nb) e
    have newN : ∀ a, H1 a = none → N a := fun a e => hN a (off_none o1 (bag_ne hp1 e) e)
    have kD := keep _ _ nD hD
    have pr : Prr (fun s q => PartH N H1 s q) ts qs := ⟨htl, fun i s q a b => (hts i s q a b).keep (fun _ z => z) keep⟩
    have fin : ∀ (D' : Addr) (ts' : List Addr) (qs' : List Part) (H' : Hp), Off p H1 H' → BagAt H' p → N D' → H' D' = some (.lst (ts'.map V.ref)) → Prr (fun s q => PartH N H' s q) ts' qs' → qs'.length ≤ 4 → (∀ q ∈ qs', PartOk q) → Q (.ref D') H' := fun D' ts' qs' H' s hb n e pr l ok =>
      qq D' qs' H' hb (o1.trans s) ⟨n, ts', e, pr.1, pr.2⟩ l ok
    have up : ∀ {H' : Hp}, Off p H1 H' → ∀ s q, PartH N H1 s q → PartH N H' s q := fun o s q h => h.keep (fun _ z => z) fun b x n e => o b x (hNp b n) e
    refine ⟨_, rfl, rfl, _, rfl, ?_⟩
    refine ite2 (fun _ => ?_) (fun _ => ?_)
    · refine ⟨_, rfl, D, _, rfl, .inl (SqL.of kD), fun l nl => ?_⟩
      have s1 := same_new (o := .lst (ts.map V.ref)) nl
      exact fin l ts qs _ (Same.off s1) (hp1.ext s1) (newN l nl) upd_same (pr.imp (up (Same.off s1))) ql ok
    refine ⟨_, rfl, rfl, _, rfl, ?_⟩
    have sch : ∀ (D' : Addr) (qs' : List Part) (H' : Hp), BagAt H' p → Off p H1 H' → PlanH (fun a => H1 a = none) H' D' qs' → qs'.length ≤ 4 → (∀ q ∈ qs', PartOk q) → Q (.ref D') H' := fun D' qs' H' hb s pl l ok => qq D' qs' H' hb (o1.trans s) (pl.keep newN fun b x _ e => e) l ok
    refine ite2 (fun _ => ?_) (fun _ => ?_)
    · refine iteT ?_
      exact ⟨_, rfl, p, 4, 4, rfl, by decide, by decide, by decide, by decide, hp1, fun D' qs' H' hb s pl l ok => sch D' qs' H' hb s pl l ok⟩
    refine ⟨_, rfl, (by show 0 ≤ sizeLine; decide), fun e0 ne0 => ⟨D, e0, ts.map V.ref, rfl, rfl, same_new ne0 _ _ kD, upd_same, _, rfl, ?_⟩⟩
    have s2 := same_new (o := .lst []) ne0
    generalize upd H1 e0 (.lst []) = H2 at s2
    have hp2 := hp1.ext s2
    have kD2 := s2 _ _ kD
    have back2 : ∀ a, H2 a = none → H1 a = none := fun a e => by
      cases z : H1 a with
      | none => rfl
      | some x => rw [s2 _ _ z] at e; cases e
    refine ite2 (fun _ => ?_) (fun hne => ?_)
    · exact ⟨_, rfl, p, 4, 4, rfl, by decide, by decide, by decide, by decide, hp2, fun D' qs' H' hb s pl l ok => sch D' qs' H' hb ((Same.off s2).trans s) (pl.keep back2 fun b x _ e => e) l ok⟩
    have len0 : 0 < ts.length := by
      have z := of_decide_eq_false (show decide ((ts.map V.ref).length = 0) = false by simpa using hne)
      rw [List.length_map] at z
      omega
    have lm : (ts.map V.ref).length = ts.length := List.length_map ..
    have t4 : ts.length ≤ 4 := by rw [htl]; exact ql
    refine ⟨_, rfl, rfl, _, rfl, ?_⟩
    refine ite2 (fun _ => ?_) (fun _ => ?_)
    · refine ⟨_, rfl, D, _, rfl, SqL.of kD2, fun l nl => ?_⟩
      have s3 := s2.trans (same_new (o := .lst (ts.map V.ref).reverse) nl)
      exact fin l ts.reverse qs.reverse _ (Same.off s3) (hp1.ext s3) (newN l (back2 l nl)) (by rw [upd_same, List.map_reverse]) (pr.rev.imp (up (Same.off s3))) (by rw [List.length_reverse]; exact ql) (fun q hq => ok q (List.mem_reverse.mp hq))
    refine ⟨_, rfl, rfl, _, rfl, ?_⟩
    refine ite2 (fun _ => ?_) (fun _ => ?_)
    · refine ⟨_, rfl, _, rfl, D, _, rfl, SqL.of kD2, fun l1 nl1 => ?_⟩
      obtain ⟨s3, h3⟩ := new_both (o := .lst (cutV (ts.map V.ref) (some 1) none)) nl1
      refine ⟨_, rfl, _, rfl, D, _, rfl, SqL.of (s3 _ _ kD2), fun l2 nl2 => ?_⟩
      obtain ⟨s4, h4⟩ := new_both (o := .lst (cutV (ts.map V.ref) none (some 1))) nl2
      refine ⟨l1, l2, _, _, rfl, rfl, s4 _ _ h3, h4, ?_, fun l3 nl3 => ?_⟩
      · have z1 := cutV_length (ts.map V.ref) (some 1) none
        have z2 := cutV_length (ts.map V.ref) none (some 1)
        omega
      · obtain ⟨s5, h5⟩ := new_both (o := .lst (cutV (ts.map V.ref) (some 1) none ++ cutV (ts.map V.ref) none (some 1))) nl3
        have sm := s2.trans (s3.trans (s4.trans s5))
        have fr := back2 l3 (by
          cases z : H2 l3 with
          | none => rfl
          | some x => rw [(s3.trans s4) _ _ z] at nl3; cases nl3)
        refine fin l3 (ts.drop 1 ++ ts.take 1) (qs.drop 1 ++ qs.take 1) _ (Same.off sm) (hp1.ext sm) (newN l3 fr) ?_ (((pr.drop 1).app (pr.take 1)).imp (up (Same.off sm))) (by rw [List.length_append, List.length_drop, List.length_take]; omega) (fun q hq => ?_)
        · rw [h5, List.map_append, ← cut_from ts 1 (by omega), ← cut_to ts 1 (by omega)]
          rfl
        · rcases List.mem_append.mp hq with h | h
          · exact ok q (List.mem_of_mem_drop h)
          · exact ok q (List.mem_of_mem_take h)
    refine ⟨_, rfl, _, rfl, D, _, rfl, .inl (SqL.of kD2), p, (ts.map V.ref).length, rfl, hp2, by omega, by omega, fun j H3 jl hp3 o3 => ?_⟩
    have jt : j < ts.length := by omega
    have o13 : Off p H1 H3 := (Same.off s2).trans o3
    have nDp : D ≠ p := hNp D nD
    have kD3 := o3 D _ nDp kD2
    have fresh3 : ∀ a, H3 a = none → N a := fun a e => newN a (off_none o13 (bag_ne hp3 e) e)
    refine ⟨_, rfl, rfl, _, rfl, ?_⟩
    refine ite2 (fun _ => ?_) (fun _ => ?_)
    · have jj : (j : Int) = ((j : Nat) : Int) := rfl
      refine ⟨_, rfl, _, rfl, _, rfl, D, _, rfl, SqL.of kD3, fun l1 nl1 => ?_⟩
      obtain ⟨s4, h4⟩ := new_both (o := .lst (cutV (ts.map V.ref) none (some (j : Int)))) nl1
      have hp4 := hp3.ext s4
      have l1p := bag_ne hp3 nl1
      have o14 := o13.trans (Same.off s4)
      have kD4 := s4 _ _ kD3
      refine ⟨_, rfl, _, rfl, _, rfl, D, _, rfl, .inl (SqL.of kD4), p, (ts.map V.ref).length, rfl, hp4, by omega, by omega, fun j2 H5 j2l hp5 o5 => ?_⟩
      have kD5 := o5 D _ nDp kD4
      have j2t : j2 < ts.length := by omega
      obtain ⟨sx, hsx⟩ : ∃ sx, ts[j2]? = some sx := ⟨ts[j2], List.getElem?_eq_getElem j2t⟩
      obtain ⟨qx, hqx⟩ : ∃ qx, qs[j2]? = some qx := ⟨qs[j2]'(by omega), List.getElem?_eq_getElem (by omega)⟩
      have okx := ok qx (List.mem_of_getElem? hqx)
      have prx := up (o14.trans o5) _ _ (pr.2 j2 sx qx hsx hqx)
      have fresh5 : ∀ a, H5 a = none → N a := fun a e => newN a (off_none (o14.trans o5) (bag_ne hp5 e) e)
      refine ⟨D, _, _, _, rfl, rfl, SqL.of kD5, atI_nat (by rw [List.getElem?_map, hsx]; rfl), (by show 1 ≤ sizeLine; decide), fun l2 nl2 => ?_⟩
      have l2n := nl2
      obtain ⟨s6, h6⟩ := new_both (o := .lst [V.ref sx]) nl2
      refine ⟨l1, l2, _, _, rfl, rfl, s6 _ _ (o5 l1 _ l1p h4), h6, ?_, fun l3 nl3 => ?_⟩
      · have z1 := cutV_length (ts.map V.ref) none (some (j : Int))
        show _ + 1 ≤ sizeLine
        omega
      obtain ⟨s7, h7⟩ := new_both (o := .lst (cutV (ts.map V.ref) none (some (j : Int)) ++ [V.ref sx])) nl3
      have kD7 := s7 _ _ (s6 _ _ kD5)
      refine ⟨_, rfl, _, rfl, _, _, rfl, rfl, _, rfl, D, _, rfl, SqL.of kD7, fun l4 nl4 => ?_⟩
      obtain ⟨s8, h8⟩ := new_both (o := .lst (cutV (ts.map V.ref) (some ((j : Int) + 1)) none)) nl4
      refine ⟨l3, l4, _, _, rfl, rfl, s8 _ _ h7, h8, ?_, fun l5 nl5 => ?_⟩
      · have z1 := cutV_length (ts.map V.ref) none (some (j : Int))
        have z2 := cutV_length (ts.map V.ref) (some ((j : Int) + 1)) none
        rw [List.length_append]
        show _ + 1 + _ ≤ sizeLine
        omega
      obtain ⟨s9, h9⟩ := new_both (o := .lst (cutV (ts.map V.ref) none (some (j : Int)) ++ [V.ref sx] ++ cutV (ts.map V.ref) (some ((j : Int) + 1)) none)) nl5
      have s59 := s6.trans (s7.trans (s8.trans s9))
      have o19 := (o14.trans o5).trans (Same.off s59)
      have n5 : N l5 := fresh5 l5 (by
        cases z : H5 l5 with
        | none => rfl
        | some x => rw [((s6.trans s7).trans s8) _ _ z] at nl5; cases nl5)
      refine fin l5 (ts.take j ++ [sx] ++ ts.drop (j + 1)) (qs.take j ++ [qx] ++ qs.drop (j + 1)) _ o19 (hp5.ext s59) n5 ?_ ((((pr.take j).imp (up o19)).app (.one (prx.keep (fun _ z => z) fun b x _ e => s59 b x e))).app ((pr.drop (j + 1)).imp (up o19))) ?_ (fun q hq => ?_)
      · rw [h9, List.map_append, List.map_append, ← cut_to ts j (by omega), ← cut_from ts (j + 1) (by omega)]
        rfl
      · rw [List.length_append, List.length_append, List.length_take, List.length_drop]
        show min j qs.length + 1 + (qs.length - (j + 1)) ≤ 4
        omega
      · rcases List.mem_append.mp hq with h | h
        · rcases List.mem_append.mp h with h | h
          · exact ok q (List.mem_of_mem_take h)
          · rw [List.mem_singleton.mp h]
            exact okx
        · exact ok q (List.mem_of_mem_drop h)
    · have jj : (j : Int) = ((j : Nat) : Int) := rfl
      refine ⟨_, rfl, _, rfl, _, rfl, D, _, rfl, SqL.of kD3, fun l1 nl1 => ?_⟩
      obtain ⟨s4, h4⟩ := new_both (o := .lst (cutV (ts.map V.ref) none (some (j : Int)))) nl1
      have hp4 := hp3.ext s4
      have l1p := bag_ne hp3 nl1
      have o14 := o13.trans (Same.off s4)
      have kD4 := s4 _ _ kD3
      obtain ⟨sy, hsy⟩ : ∃ sy, ts[j]? = some sy := ⟨ts[j], List.getElem?_eq_getElem jt⟩
      obtain ⟨qy, hqy⟩ : ∃ qy, qs[j]? = some qy := ⟨qs[j]'(by omega), List.getElem?_eq_getElem (by omega)⟩
      refine ⟨_, rfl, _, rfl, _, rfl, D, _, _, _, rfl, rfl, SqL.of kD4, atI_nat (by rw [List.getElem?_map, hsy]; rfl), ?_⟩
      refine ⟨p, N, sy, qy, rfl, hp4, fun a e => newN a (off_none o14 (bag_ne hp4 e) e), hNp, up o14 _ _ (pr.2 j sy qy hsy hqy), ok qy (List.mem_of_getElem? hqy), fun sx qx H5 hp5 o5 prx okx => ?_⟩
      have kD5 := o5 D _ nDp kD4
      have fresh5 : ∀ a, H5 a = none → N a := fun a e => newN a (off_none (o14.trans o5) (bag_ne hp5 e) e)
      refine ⟨(by show 1 ≤ sizeLine; decide), fun l2 nl2 => ?_⟩
      have l2n := nl2
      obtain ⟨s6, h6⟩ := new_both (o := .lst [V.ref sx]) nl2
      refine ⟨l1, l2, _, _, rfl, rfl, s6 _ _ (o5 l1 _ l1p h4), h6, ?_, fun l3 nl3 => ?_⟩
      · have z1 := cutV_length (ts.map V.ref) none (some (j : Int))
        show _ + 1 ≤ sizeLine
        omega
      obtain ⟨s7, h7⟩ := new_both (o := .lst (cutV (ts.map V.ref) none (some (j : Int)) ++ [V.ref sx])) nl3
      have kD7 := s7 _ _ (s6 _ _ kD5)
      refine ⟨_, rfl, _, rfl, _, _, rfl, rfl, _, rfl, D, _, rfl, SqL.of kD7, fun l4 nl4 => ?_⟩
      obtain ⟨s8, h8⟩ := new_both (o := .lst (cutV (ts.map V.ref) (some ((j : Int) + 1)) none)) nl4
      refine ⟨l3, l4, _, _, rfl, rfl, s8 _ _ h7, h8, ?_, fun l5 nl5 => ?_⟩
      · have z1 := cutV_length (ts.map V.ref) none (some (j : Int))
        have z2 := cutV_length (ts.map V.ref) (some ((j : Int) + 1)) none
        rw [List.length_append]
        show _ + 1 + _ ≤ sizeLine
        omega
      obtain ⟨s9, h9⟩ := new_both (o := .lst (cutV (ts.map V.ref) none (some (j : Int)) ++ [V.ref sx] ++ cutV (ts.map V.ref) (some ((j : Int) + 1)) none)) nl5
      have s59 := s6.trans (s7.trans (s8.trans s9))
      have o19 := (o14.trans o5).trans (Same.off s59)
      have n5 : N l5 := fresh5 l5 (by
        cases z : H5 l5 with
        | none => rfl
        | some x => rw [((s6.trans s7).trans s8) _ _ z] at nl5; cases nl5)
      refine fin l5 (ts.take j ++ [sx] ++ ts.drop (j + 1)) (qs.take j ++ [qx] ++ qs.drop (j + 1)) _ o19 (hp5.ext s59) n5 ?_ ((((pr.take j).imp (up o19)).app (.one (prx.keep (fun _ z => z) fun b x _ e => s59 b x e))).app ((pr.drop (j + 1)).imp (up o19))) ?_ (fun q hq => ?_)
      · rw [h9, List.map_append, List.map_append, ← cut_to ts j (by omega), ← cut_from ts (j + 1) (by omega)]
        rfl
      · rw [List.length_append, List.length_append, List.length_take, List.length_drop]
        show min j qs.length + 1 + (qs.length - (j + 1)) ≤ 4
        omega
      · rcases List.mem_append.mp hq with h | h
        · rcases List.mem_append.mp h with h | h
          · exact ok q (List.mem_of_mem_take h)
          · rw [List.mem_singleton.mp h]
            exact okx
        · exact ok q (List.mem_of_mem_drop h)
end
end Sq.N3
namespace Sq
open PySem L2 PySem.Spec PyProof.Rows
/-! ### str(o) by a class's own __str__ -/
section
variable {prog : Program} {w : World}
theorem meets_strO (a : Addr) : MeetsIn prog w (Builtin.«str.__new__» ⟨[.type "str", .ref a], []⟩)
    (fun A R s => wpAny (model prog w) A.in1 (Builtin.Str.strOf (.ref a)) (fun r s' => R (.ok (.ret r)) s') (fun e s' => R (.error e) s') s) :=
  MeetsIn.of_wp fun A R s h => by
    rw [PySem.str_new_tree (.ref a)]
    refine wpAny_bind (wpAny_pure ?_)
    refine wpAny_bind (wpAny_of_eq isSubtype_str_str ?_)
    exact wpAny_bind (wpAny_mono h (fun r s' h' => wpAny_pure ⟨_, rfl, h'⟩) fun _ _ e => e)
end
section
variable {X : Cx} {k : Nat} {f C : Addr} {sp : Sp}
theorem call_strO (hs : PySem.W.findIn X.K (.ref C) "__str__" = some (some (.ref f))) (hf : PySem.W.isFn X.K (.ref f) = true) (F : FnR X.prog X.w X.K X.mg X.base CX0 k f sp) (hr : Room (k + 2) X.A) :
    CallR X (.type "str") (fun xs H Q => ∃ a dx fs, xs = [.ref a] ∧ H a = some (.ins C dx fs) ∧ sp [.ref a] H (fun v H' => ∃ z, v = .str z ∧ Q (.str z) H') E0) := by
  intro pins s σ H xs us Q I r h
  obtain ⟨a, dx, fs, rfl, ha, q⟩ := h
  obtain ⟨u, rfl, r1⟩ := vals1 r
  cases r1
  obtain ⟨mA, J, _⟩ := ins_get I.hok ha
  obtain ⟨od, J, _⟩ := J.look
  have hu : X.A.in1.in1.units < cLine := hr.in1.in1.units0
  refine callType_newIn PySem.F.called_str (by decide) (PySem.F.typeCall_str_1 _) (PySem.F.newCall_str_1 _) (fun obj => PySem.F.args_object_init_2 obj _) PySem.F.entry_str_new (meets_strO a) ?_
  show wpAny (model X.prog X.w) X.A.in1.in1 (Builtin.Str.strOf (.ref a)) _ _ s
  unfold Builtin.Str.strOf
  refine wpAny_bind (wpAny_cRoomFor hu ?_)
  refine wpAny_bind (PySem.W.special_fn I.kIn J hs (beq_iff_eq.mp hf) (wpAny_mono (run_below F hr.in1.in1 rfl I (rel1 a) q) (fun v s' hv => ?_) fun _ _ z => z))
  obtain ⟨y, H', I', ry, z, ey, q'⟩ := hv
  subst ey
  obtain ⟨t, rfl⟩ := ry
  refine wpAny_bind (wpAny_pure ?_)
  exact wpAny_pure ⟨PySem.typeIs_str _ _ _, ⟨.str z, H', I', ⟨_, rfl⟩, q'⟩⟩
end
end Sq
namespace Sq
open PySem L2 PySem.Spec PyProof.Rows
/-! ### repr(o) by a class's own __repr__ -/
section
variable {X : Cx} {k : Nat} {f C : Addr} {sp : Sp}
theorem call_reprO (hs : PySem.W.findIn X.K (.ref C) "__repr__" = some (some (.ref f))) (hf : PySem.W.isFn X.K (.ref f) = true) (G : FnR X.prog X.w X.K X.mg X.base CX0 k f sp) (hr : Room (k + 1) X.A) :
    CallR X (.builtin "repr") (fun xs H Q => ∃ a dx fs, xs = [.ref a] ∧ H a = some (.ins C dx fs) ∧ sp [.ref a] H (fun v H' => ∃ z, v = .str z ∧ Q (.str z) H') E0) := by
  intro pins s σ H xs us Q I r h
  obtain ⟨a, dx, fs, rfl, ha, q⟩ := h
  obtain ⟨u, rfl, r1⟩ := vals1 r
  cases r1
  obtain ⟨_, J, _⟩ := ins_get I.hok ha
  obtain ⟨_, J, _⟩ := J.look
  obtain ⟨_, fr⟩ := I.fr
  refine PySem.W.repr_K hr.in1.units0 fr I.ok.mod.kin J hs hf (wpAny_mono (run_below G hr.in1 rfl I (rel1 a) q) (fun v s' hv => ?_) fun _ _ e => e)
  obtain ⟨y, H', I', ry, z, ey, q'⟩ := hv
  subst ey
  obtain ⟨t, rfl⟩ := ry
  exact ⟨.str z, H', I', ⟨_, rfl⟩, q'⟩
end
end Sq
namespace Sq.N3
open PySem L2 TL
abbrev sPRepr : Stmt := inClass (top 26) 7
def spPRepr (CP C : Addr) : Sp := fun vs H Q _ => ∃ (a : Addr) (ns : List NestD), vs = [.ref a] ∧ ProgAt CP C H a ns ∧ ns.length ≤ 4 ∧ (∀ n ∈ ns, n.2.2.length ≤ 6) ∧ ∀ z H', Same H H' → z.length ≤ 200 → Q (.str z) H'
theorem small_log {n : Nat} (h : n ≤ 1000) : ((n : Nat) : Int).natAbs.log2 < 1920 := by
  by_cases h0 : n = 0
  · subst h0
    decide
  · rw [Int.natAbs_natCast, Nat.log2_lt h0]
    have h4 : (1000 : Nat) < 2 ^ 1920 := by decide +kernel
    omega
theorem small_len {n : Nat} (h : n ≤ 1000) : (Str.ofString (toString ((n : Nat) : Int))).length ≤ 5 := PyProof.Rows.toString_length_le (Int.natCast_nonneg _) (by decide) (by omega)
theorem sum_small : ∀ {l : List NestD}, (∀ n ∈ l, n.2.2.length ≤ 6) → ∃ k : Nat, (l.map fun n => ((n.2.2.length : Nat) : Int)).sum = (k : Int) ∧ k ≤ 6 * l.length
  | [], _ => ⟨0, rfl, Nat.le_refl _⟩
  | n :: l, h => by
    obtain ⟨k, e, hk⟩ := sum_small fun m hm => h m (List.mem_cons_of_mem _ hm)
    refine ⟨n.2.2.length + k, ?_, ?_⟩
    · rw [List.map_cons, List.sum_cons, e]
      omega
    · have := h n (List.mem_cons_self ..)
      rw [List.length_cons]
      omega
section
variable {P : Program} {w : World} {K : PySem.W.Frag} {mg : Str → Option Value} {base : Heap} {C CP : Addr}
theorem scPRepr : FnScope ["self", "nest"] ["self"] (defScope sPRepr) := ⟨rfl, rfl, rfl, by decide +kernel, rfl, by decide +kernel, by decide +kernel⟩
theorem ok_prepr {f : Addr} {fd : FuncData} (F : Fun K "__repr__" "Program.__repr__" sPRepr f fd) (N : Pc K CP) (T : Bt mg) (hsum : mg "sum" = none) (NK : NestK P w K mg base C) : FnOk P w K mg base CX0 3 f fd ["self"] (spPRepr CP C) := by
  obtain ⟨fl, l1, l2, GL⟩ := NK.len
  refine F.ok scPRepr (fun vs H Q E h => ?_) (fun cdv A outer s H vs Q E hr h => ?_)
  · obtain ⟨a, ns, rfl, _⟩ := h
    rfl
  · obtain ⟨a, ns, rfl, ha, l4, d6, q⟩ := h
    obtain ⟨dx, tp, xs, h1, h2, h3, h4⟩ := ha
    have big : 10000 ≤ sizeLine := by decide
    refine ⟨_, pss_one (ps_ret (pe_joined (.cons pe_str (.cons (pe_fmt (pe_callB call_len_seq (by rfl) T.len PySem.boot_len (pa_cons (pe_fld (pv 0) rfl) pa_nil))) (.cons pe_str (.cons (pe_fmt (pe_callB (cr_sum (by rfl)) (by rfl) hsum (by decide +kernel) (pa_cons
      (pe_lc (own := [("nest", 1)]) (g := gName 1) (by rfl) scPRepr.nd (pi_tup (pe_fld (pv 0) rfl)) (blkOk_by (own := [("nest", 1)]) (N := ["self", "nest"]) (sc := defScope sPRepr) (by decide +kernel))
      (fun _ _ _ _ _ => pg_name (i := 1) scPRepr.nd rfl (Or.inl rfl)) (fun _ _ _ _ _ => pts_nil) (fun _ _ _ _ _ => pe_callB (call_lenO l1 l2 GL hr) (by rfl) T.len PySem.boot_len (pa_cons (pv 1) pa_nil))) pa_nil))) (.cons pe_str .nil))))))), ?_⟩
    have la : ∀ x y : Str, (x ++ y).length = x.length + y.length := PySem.strLen_append
    have c1 : ("Program of " : Str).length ≤ 20 := by decide +kernel
    have c2 : (" nests, " : Str).length ≤ 20 := by decide +kernel
    have c3 : (" deeds" : Str).length ≤ 20 := by decide +kernel
    have c0 : (Str.empty : Str).length = 0 := rfl
    have n1 : (xs.map V.ref).length ≤ 1000 := by rw [List.length_map]; omega
    have w1 := small_len n1
    have w0 : (Str.empty ++ ("Program of " : Str)).length ≤ 20 := by rw [la, c0]; omega
    refine ⟨_, rfl, Nat.le_trans w0 (by omega), ?_⟩
    refine ⟨_, rfl, a, CP, dx, _, _, rfl, h1, N.cl, N.nN, putN tp, tp, _, rfl, .inr (SqT.of h2), .inr ⟨_, rfl, small_log n1, _, rfl, ?_, ?_⟩⟩
    · rw [la]
      omega
    refine ⟨_, rfl, ?_, ?_⟩
    · rw [la, la]
      omega
    refine ⟨_, rfl, a, CP, dx, _, _, rfl, h1, N.cl, N.nN, putN tp, tp, rfl, ⟨_, SqT.of h2⟩, fun D hD => ?_⟩
    refine lc_tup (K := K) (a := tp) (xs := xs.map V.ref) (fun i H' => Same H H' ∧ H' D = some (.lst (((ns.take i).map fun n => ((n.2.2.length : Nat) : Int)).map V.int))) ⟨same_new hD, upd_same⟩ (fun i H' _ h => (SqT.of h2).ext h.1) (fun i x H' hi h => ?_) (fun H' h => ?_)
    · obtain ⟨sm, hL⟩ := h
      refine ⟨rfl, ?_⟩
      obtain ⟨b, hb, rfl⟩ : ∃ b, xs[i]? = some b ∧ x = .ref b := by
        rw [List.getElem?_map] at hi
        obtain ⟨b, hb, e⟩ := Option.map_eq_some_iff.mp hi
        exact ⟨b, hb, e.symm⟩
      have hil : i < ns.length := by rw [← h3]; exact (List.getElem?_eq_some_iff.mp hb).1
      have hgi : ns[i]? = some ns[i] := List.getElem?_eq_getElem hil
      have at_b := (h4 i b _ hb hgi).ext sm
      obtain ⟨bx, bd, ⟨R9, b1⟩, _⟩ := id at_b
      have small := d6 _ (List.getElem_mem hil)
      refine ⟨_, rfl, b, bx, _, rfl, b1, b, _, _, _, rfl, at_b, _, rfl, Int.natCast_nonneg _, by omega, _, hL, ?_, fun c o hc => ?_, ?_⟩
      · rw [List.length_map, List.length_map, List.length_take]
        omega
      · rw [upd_ne (fun e => by rw [e, hD] at hc; cases hc)]
        exact sm c o hc
      · rw [upd_same, List.take_add_one, hgi, List.map_append, List.map_append]
        rfl
    · obtain ⟨sm, hL⟩ := h
      rw [List.length_map, h3, List.take_length] at hL
      obtain ⟨k, ek, hk⟩ := sum_small d6
      refine ⟨D, _, rfl, SqL.of hL, .inr ⟨_, rfl, ?_, _, rfl, ?_, ?_⟩⟩
      · rw [ek]
        exact small_log (by omega)
      · rw [ek, la, la, la]
        have w2 := small_len (n := k) (by omega)
        omega
      · refine ⟨_, rfl, ?_, ?_⟩
        · rw [ek, la, la, la, la]
          have w2 := small_len (n := k) (by omega)
          omega
        · refine q _ _ sm ?_
          rw [ek, la, la, la, la]
          have w2 := small_len (n := k) (by omega)
          omega
end
end Sq.N3
namespace Sq.N3
open PySem L2 TL
abbrev sPair : Stmt := top 49
structure ProgY (P : Program) (w : World) (K : PySem.W.Frag) (mg : Str → Option Value) (base : Heap) (CP C : Addr) : Prop where
  str : ∃ f, PySem.W.findIn K (.ref CP) "__str__" = some (some (.ref f)) ∧ PySem.W.isFn K (.ref f) = true ∧ FnR P w K mg base CX0 4 f (spPStr CP C)
  len : ∃ f, PySem.W.findIn K (.ref CP) "__len__" = some (some (.ref f)) ∧ PySem.W.isFn K (.ref f) = true ∧ FnR P w K mg base CX0 1 f (spPLen CP C)
  rep : ∃ f, PySem.W.findIn K (.ref CP) "__repr__" = some (some (.ref f)) ∧ PySem.W.isFn K (.ref f) = true ∧ FnR P w K mg base CX0 3 f (spPRepr CP C)
def spPair : Sp := fun vs H Q _ => ∃ p : Addr, vs = [.ref p] ∧ BagAt H p ∧ ∀ H', BagAt H' p → Off p H H' → Q (.bl true) H'
theorem due_prog {ns ms : List NestD} (h : ∀ n ∈ ns, NestT n) (g : ∀ n ∈ ms, NestT n) : decide (V.str (progT ns) = V.str (progT ms)) = decide (ns = ms) := by
  rw [decide_eq_decide]
  constructor
  · intro e
    have z := congrArg nestsOf (V.str.inj e)
    rw [prog_nests h, prog_nests g] at z
    exact z
  · intro e
    rw [e]
theorem ref_ix {xs : List Addr} {i : Nat} {x : Addr} (h : xs[i]? = some x) : atI (xs.map V.ref) ((i : Nat) : Int) = some (.ref x) := atI_nat (by rw [List.getElem?_map, h]; rfl)
theorem due_nest {n m : NestD} (h : NestT n) (g : NestT m) : decide (V.str (progT [n]) = V.str (progT [m])) = decide (n = m) := by
  rw [due_prog (fun x hx => by rw [List.mem_singleton.mp hx]; exact h) (fun x hx => by rw [List.mem_singleton.mp hx]; exact g), decide_eq_decide]
  exact ⟨fun e => (List.cons.inj e).1, fun e => by rw [e]⟩
section
variable {P : Program} {w : World} {K : PySem.W.Frag} {mg : Str → Option Value} {base : Heap} {C CP fA : Addr}
theorem scPair : FnScope ["_law_bag_here", "_law_plan", "_law_twin", "_law_one", "_law_two", "_law_k", "_law_others", "_law_thing"] ["_law_bag_here"] (defScope sPair) := ⟨rfl, rfl, rfl, by decide +kernel, rfl, by decide +kernel, by decide +kernel⟩
theorem ok_pair {f : Addr} {fd : FuncData} (F : Fun K "_law_pair_right" "_law_pair_right" sPair f fd) (b : Binds K fd ["_law_bag_here"] []) (T : Bt mg) (hre : mg "repr" = none) (hst : mg "str" = none) (hmin : mg "min" = none) (hall : mg "all" = none) (PK : ProgK P w K mg base CP C) (PY : ProgY P w K mg base CP C)
    (KS : Kn P w K mg base "_law_scheme" 4 ["_law_bag_here", "_law_parts", "_law_acts"] spScheme) (KC : Kn P w K mg base "_law_changed" 5 ["_law_bag_here", "_law_plan"] spChg) (KP : Kn P w K mg base "_law_page" 3 ["_law_plan"] spPage)
    (KB : Kn P w K mg base "_law_built" 7 ["_law_plan"] (spBuilt CP C)) (KM : Kn P w K mg base "_law_made" 4 ["_law_nests"] (spMadeP CP C)) (GA : FnG P w K mg base 5 fA (spAlike K C CP)) (kA : PySem.W.keepIn K (.ref fA) = true) (mA : mg "_law_alike" = some (.ref fA)) : FnG P w K mg base 8 f spPair := by
  obtain ⟨fS, dS, mS, kS, bS, GS⟩ := KS
  obtain ⟨fC, dC, mC, kC, bC, GC⟩ := KC
  obtain ⟨fP, dP, mP, kP, bP, GP⟩ := KP
  obtain ⟨fB, dB, mB, kB, bB, GB⟩ := KB
  obtain ⟨fM, dM, mM, kM, bM, GM⟩ := KM
  obtain ⟨p4, g4, d4, P4, G4, B4⟩ := PK.p1
  obtain ⟨mc, rp, rg, CR1, CM, GRd⟩ := PK.read
  obtain ⟨ft, ht1, ht2, GT⟩ := PY.str
  obtain ⟨fl, hl1, hl2, GL⟩ := PY.len
  obtain ⟨fr, hp1, hp2, GR⟩ := PY.rep
  refine FnG.of F scPair b (fun vs H Q h => ?_) (fun cdv A outer s H vs Q hg hr h => ?_)
  · obtain ⟨p, rfl, _⟩ := h
    rfl
  · obtain ⟨p, rfl, hp, q⟩ := h
    have hr7 : Room 7 _ := hr
    have hr6 := hr.mono (show 6 ≤ 7 by decide)
    have hr5 := hr.mono (show 5 ≤ 7 by decide)
    have hr4 := hr.mono (show 4 ≤ 7 by decide)
    have hr3 := hr.mono (show 3 ≤ 7 by decide)
    have hr2 := hr.mono (show 2 ≤ 7 by decide)
    have hr1 := hr.mono (show 2 ≤ 7 by decide)
    refine ⟨_, (pss_cons (ps_set (i := 1) scPair.nd rfl (.inl rfl) (pe_call GS hr4 (by rfl) mS kS bS .nil pass0 (pa_cons (pv 0) (pa_cons pe_int (pa_cons pe_int pa_nil)))))
        (pss_cons (ps_set (i := 2) scPair.nd rfl (.inl rfl) (pe_call GC hr5 (by rfl) mC kC bC .nil pass0 (pa_cons (pv 0) (pa_cons (pv 1) pa_nil))))
        (pss_cons (ps_asg (pe_tup (pa_cons (pe_call GB hr7 (by rfl) mB kB bB .nil pass0 (pa_cons (pv 1) pa_nil)) (pa_cons (ClX.pe_cmeth (pe_glob (v := .ref CP) (by rfl) PK.mP rfl) CR1 CM GRd hr7 pass0 (pa_cons (pe_call GP hr3 (by rfl) mP kP bP .nil pass0 (pa_cons (pv 2) pa_nil)) pa_nil)) pa_nil))) (pg_tup (by rfl) (pgs_cons (pg_name (i := 3) scPair.nd rfl (by first | exact .inl rfl | exact .inr rfl)) (pgs_cons (pg_name (i := 4) scPair.nd rfl (by first | exact .inl rfl | exact .inr rfl)) pgs_nil))))
        (pss_cons (ps_if (pt_not (pt_val (pe_callG GA hg hr5 (by rfl) mA kA (pa_cons (pv 3) (pa_cons (pv 4) (pa_cons (pe_cmpR op_eq (pe_call GP hr3 (by rfl) mP kP bP .nil pass0 (pa_cons (pv 1) pa_nil)) (pe_call GP hr3 (by rfl) mP kP bP .nil pass0 (pa_cons (pv 2) pa_nil)) (nomark _)) pa_nil)))))) (pss_one (ps_ret pe_bl)) pss_nil)
        (pss_cons (ps_for PassesOwn.never rfl (pi_range1 (by rfl) T.range (pa_cons (pe_callB (call_min2 rfl) (by rfl) hmin (by decide +kernel) (pa_cons (pe_callB call_len_seq (by rfl) T.len PySem.boot_len (pa_cons (pv 1) pa_nil)) (pa_cons (pe_callB call_len_seq (by rfl) T.len PySem.boot_len (pa_cons (pv 2) pa_nil)) pa_nil))) pa_nil)) (pg_name (i := 5) scPair.nd rfl (.inl rfl))
        (pss_cons (ps_if (pt_not (pt_val (pe_callG GA hg hr5 (by rfl) mA kA (pa_cons (pe_ix ix_tup (pe_prop (pv 3) PK.pc.cl P4 G4 hr1 B4 .nil pass0 rfl) (pv 5) (fun _ _ => rfl)) (pa_cons (pe_ix ix_tup (pe_prop (pv 4) PK.pc.cl P4 G4 hr1 B4 .nil pass0 rfl) (pv 5) (fun _ _ => rfl)) (pa_cons (pe_cmpR op_eq (pe_call GP hr3 (by rfl) mP kP bP .nil pass0 (pa_cons (pe_lst (pa_cons (pe_ix ix_list (pv 1) (pv 5) (fun _ _ => rfl)) pa_nil)) pa_nil)) (pe_call GP hr3 (by rfl) mP kP bP .nil pass0 (pa_cons (pe_lst (pa_cons (pe_ix ix_list (pv 2) (pv 5) (fun _ _ => rfl)) pa_nil)) pa_nil)) (nomark _)) pa_nil)))))) (pss_one (ps_ret pe_bl)) pss_nil)
        (pss_one (ps_if (pt_not (pt_val (pe_callG GA hg hr5 (by rfl) mA kA (pa_cons (pe_ix ix_tup (pe_prop (pv 3) PK.pc.cl P4 G4 hr1 B4 .nil pass0 rfl) (pv 5) (fun _ _ => rfl)) (pa_cons (pe_call GM hr4 (by rfl) mM kM bM .nil pass0 (pa_cons (pe_lst (pa_cons (pe_ix ix_tup (pe_prop (pv 3) PK.pc.cl P4 G4 hr1 B4 .nil pass0 rfl) (pv 5) (fun _ _ => rfl)) pa_nil)) pa_nil)) (pa_cons pe_bl pa_nil)))))) (pss_one (ps_ret pe_bl)) pss_nil))))
        (pss_cons (ps_set (i := 6) scPair.nd rfl (.inl rfl) (pe_lst (pa_cons (pe_callTy (call_strO ht1 ht2 GT hr6) (by rfl) hst (by decide +kernel) (pa_cons (pv 3) pa_nil)) (pa_cons (pe_prop (pv 3) PK.pc.cl P4 G4 hr1 B4 .nil pass0 rfl) (pa_cons (pe_lst (pa_cons (pv 3) pa_nil)) (pa_cons pe_non (pa_cons (pe_callB (call_lenO hl1 hl2 GL hr2) (by rfl) T.len PySem.boot_len (pa_cons (pv 3) pa_nil)) (pa_cons (pe_callB (call_reprO hp1 hp2 GR hr4) (by rfl) hre (by decide +kernel) (pa_cons (pv 3) pa_nil)) (pa_cons pe_bl pa_nil)))))))))
        (pss_one (ps_ret (pe_callB (cr_all (by rfl)) (by rfl) hall (by decide +kernel) (pa_cons (pe_lc (own := [("_law_thing", 7)]) (g := gName 7) (by rfl) scPair.nd (pi_list (pv 6)) (blkOk_by (own := [("_law_thing", 7)]) (N := ["_law_bag_here", "_law_plan", "_law_twin", "_law_one", "_law_two", "_law_k", "_law_others", "_law_thing"]) (sc := defScope sPair) (by decide +kernel)) (fun _ _ _ _ _ => pg_name (i := 7) scPair.nd rfl (Or.inl rfl)) (fun _ _ _ _ _ => pts_nil) (fun _ _ _ _ _ => (pe_callG GA hg hr5 (by rfl) mA kA (pa_cons (pv 3) (pa_cons (pv 7) (pa_cons pe_bl pa_nil)))))) pa_nil)))))))))), ?_⟩
    refine ⟨_, rfl, p, 4, 4, rfl, by decide, by decide, by decide, by decide, hp, fun D qs H1 hb1 o1 pl ql ok => ?_⟩
    have nNp : ∀ a, H a = none → a ≠ p := fun a e => bag_ne hp e
    have NN0 : ∀ a, H1 a = none → H a = none := fun a e => off_none o1 (bag_ne hb1 e) e
    refine ⟨_, rfl, _, rfl, p, (fun a => H a = none), D, qs, rfl, hb1, NN0, nNp, pl, ql, ok, fun D2 qs2 H2 hb2 o2 pl2 ql2 ok2 => ?_⟩
    have pl1 := pl.keep (fun _ h => h) (fun b x nb e => o2 b x (nNp b nb) e)
    obtain ⟨ns, ens⟩ : ∃ ns, qs.map Part.nest = ns := ⟨_, rfl⟩
    obtain ⟨ms, ems⟩ : ∃ ms, qs2.map Part.nest = ms := ⟨_, rfl⟩
    have NT : ∀ n ∈ ns, NestT n := fun n hn => by
      rw [← ens] at hn
      obtain ⟨x, hx, rfl⟩ := List.mem_map.mp hn
      exact (ok x hx).nest
    have MT : ∀ n ∈ ms, NestT n := fun n hn => by
      rw [← ems] at hn
      obtain ⟨x, hx, rfl⟩ := List.mem_map.mp hn
      exact (ok2 x hx).nest
    have nl : ns.length = qs.length := by rw [← ens, List.length_map]
    have ml : ms.length = qs2.length := by rw [← ems, List.length_map]
    refine ⟨_, rfl, _, D, qs, rfl, pl1, ok, ql, fun M H3 s3 pm => ?_⟩
    have pl3 := pl1.keep (fun _ h => h) (fun b x _ e => s3 b x e)
    have pl32 := pl2.keep (fun _ h => h) (fun b x _ e => s3 b x e)
    refine ⟨rfl, _, rfl, _, D2, qs2, rfl, pl32, ok2, by omega, fun H4 s4 => ?_⟩
    rw [ens] at pm
    rw [ems]
    refine ⟨progT ms, rfl, prog_ok MT (by omega), prog_right MT (by omega), fun A1 H5 s5 pa => ⟨by show 2 ≤ sizeLine; decide, fun t5 nt5 => ⟨t5, _, rfl, SqT.of upd_same, rfl, _, _, rfl, _, _, rfl, rfl, ?_⟩⟩⟩
    rw [prog_nests MT] at pa
    have e5 := same_new (o := .tup [.ref M, .ref A1]) nt5
    have r3 := s4.trans (s5.trans e5)
    have pm6 := pm.ext r3
    have pa6 := pa.ext e5
    have plB := pl3.keep (fun _ h => h) (fun b x _ e => r3 b x e)
    have plB2 := pl32.keep (fun _ h => h) (fun b x _ e => r3 b x e)
    have hb6 := (hb2.ext s3).ext r3
    have o6 : Off p H _ := (o1.trans o2).trans (Same.off (s3.trans r3))
    generalize upd H5 t5 (.tup [.ref M, .ref A1]) = HB at e5 r3 pm6 pa6 plB plB2 hb6 o6
    refine ⟨_, rfl, _, rfl, _, rfl, _, D, qs, rfl, plB, ok, by omega, fun H6 s6 => ⟨_, rfl, _, D2, qs2, rfl, plB2.keep (fun _ h => h) (fun b x _ e => s6 b x e), ok2, by omega, fun H7 s7 => ⟨rfl, ?_⟩⟩⟩
    rw [ens, ems]
    have s67 := s6.trans s7
    refine ⟨_, _, _, rfl, .inr (.inl ⟨M, A1, ns, ms, rfl, rfl, pm6.ext s67, pa6.ext s67, NT, MT, due_prog NT MT⟩), fun H8 s8 => ⟨_, rfl, ?_⟩⟩
    refine iteF ?_
    have s68 := s67.trans s8
    have pm8 := pm6.ext s68
    have pa8 := pa6.ext s68
    obtain ⟨nD, ts, hD, tl1, hts⟩ := plB.keep (fun _ h => h) (fun b x _ e => s68 b x e)
    obtain ⟨nD2, ts2, hD2, tl2, hts2⟩ := plB2.keep (fun _ h => h) (fun b x _ e => s68 b x e)
    have hb8 := hb6.ext s68
    have o8 := o6.trans (Same.off s68)
    have new8 : ∀ a, H8 a = none → H a = none := fun a e => off_none o8 (bag_ne hb8 e) e
    obtain ⟨mx, tm, xm, m1, m2, m3, m4⟩ := id pm8
    obtain ⟨ax, ta, xa, a1, a2, a3, a4⟩ := id pa8
    refine ⟨_, rfl, D, _, rfl, .inl (SqL.of hD), _, rfl, D2, _, rfl, .inl (SqL.of hD2), _, _, rfl, _, rfl, ?_⟩
    rw [List.length_map, List.length_map, tl1, tl2]
    have mn0 : ∃ k : Nat, (if ((qs2.length : Nat) : Int) < ((qs.length : Nat) : Int) then ((qs2.length : Nat) : Int) else ((qs.length : Nat) : Int)) = (k : Int) ∧ k ≤ qs.length ∧ k ≤ qs2.length := by
      split
      · exact ⟨qs2.length, rfl, by omega, Nat.le_refl _⟩
      · exact ⟨qs.length, rfl, Nat.le_refl _, by omega⟩
    obtain ⟨kk, ek, kq, kq2⟩ := mn0
    rw [ek]
    refine ⟨by omega, by omega, for_range (lo := 0) (fun i σ H' => (∃ v5 v6 v7, σ = [some (.ref p), some (.ref D), some (.ref D2), some (.ref M), some (.ref A1), v5, v6, v7]) ∧ Same H8 H') ⟨⟨_, _, _, rfl⟩, Same.refl _⟩ (fun i σ H' hi h => ?_) (fun σ H' h => ?_)⟩
    · obtain ⟨⟨v5, v6, v7, rfl⟩, sm⟩ := h
      rw [Int.zero_add]
      have hik : i < kk := by omega
      obtain ⟨qx, hqi⟩ : ∃ z, qs[i]? = some z := ⟨_, List.getElem?_eq_getElem (show i < qs.length by omega)⟩
      obtain ⟨qy, hq2i⟩ : ∃ z, qs2[i]? = some z := ⟨_, List.getElem?_eq_getElem (show i < qs2.length by omega)⟩
      have okq := ok _ (List.mem_of_getElem? hqi)
      have okq2 := ok2 _ (List.mem_of_getElem? hq2i)
      have hni : ns[i]? = some qx.nest := by rw [← ens, List.getElem?_map, hqi]; rfl
      have hmi : ms[i]? = some qy.nest := by rw [← ems, List.getElem?_map, hq2i]; rfl
      obtain ⟨tx, hti⟩ : ∃ z, ts[i]? = some z := ⟨_, List.getElem?_eq_getElem (show i < ts.length by omega)⟩
      obtain ⟨ty, ht2i⟩ : ∃ z, ts2[i]? = some z := ⟨_, List.getElem?_eq_getElem (show i < ts2.length by omega)⟩
      obtain ⟨x, hxm⟩ : ∃ z, xm[i]? = some z := ⟨_, List.getElem?_eq_getElem (show i < xm.length by omega)⟩
      obtain ⟨y, hxa⟩ : ∃ z, xa[i]? = some z := ⟨_, List.getElem?_eq_getElem (show i < xa.length by omega)⟩
      have nx := m4 i _ _ hxm hni
      have ny := a4 i _ _ hxa hmi
      have px := hts i _ _ hti hqi
      have py := hts2 i _ _ ht2i hq2i
      have one : 1 ≤ sizeLine := by decide
      refine ⟨_, rfl, M, _, _, rfl, sm _ _ m1, M, _, _, .ref tm, rfl, sm _ _ m1, putN tm, _, rfl, tm, _, _, _, rfl, rfl, SqT.of (sm _ _ m2), ref_ix hxm, ?_⟩
      refine ⟨_, rfl, A1, _, _, rfl, sm _ _ a1, A1, _, _, .ref ta, rfl, sm _ _ a1, putN ta, _, rfl, ta, _, _, _, rfl, rfl, SqT.of (sm _ _ a2), ref_ix hxa, ?_⟩
      refine ⟨_, rfl, _, rfl, D, _, _, _, rfl, rfl, SqL.of (sm _ _ hD), ref_ix hti, one, fun L1 nL1 => ?_⟩
      have f1 := same_new (o := .lst [.ref tx]) nL1
      have newL : ∀ {Hx : Hp} {a : Addr}, Same H8 Hx → Hx a = none → H a = none := fun {Hx a} s e => new8 a (by
        cases z : H8 a with
        | none => rfl
        | some o => rw [s _ _ z] at e; cases e)
      refine ⟨_, L1, [qx], rfl, ⟨newL sm nL1, [tx], upd_same, rfl, fun j s z a b => by
        cases j with
        | zero => cases a; cases b; exact px.keep (fun _ h => h) (fun b x _ e => (sm.trans f1) b x e)
        | succ j => cases a⟩, fun z hz => by rw [List.mem_singleton.mp hz]; exact okq, by show 1 ≤ 5; omega, fun H9 s9 => ?_⟩
      have sm9 := (sm.trans f1).trans s9
      refine ⟨_, rfl, _, rfl, D2, _, _, _, rfl, rfl, SqL.of (sm9 _ _ hD2), ref_ix ht2i, one, fun L2 nL2 => ?_⟩
      have f2 := same_new (o := .lst [.ref ty]) nL2
      refine ⟨_, L2, [qy], rfl, ⟨newL sm9 nL2, [ty], upd_same, rfl, fun j s z a b => by
        cases j with
        | zero => cases a; cases b; exact py.keep (fun _ h => h) (fun b x _ e => (sm9.trans f2) b x e)
        | succ j => cases a⟩, fun z hz => by rw [List.mem_singleton.mp hz]; exact okq2, by show 1 ≤ 5; omega, fun Ha sa => ⟨rfl, ?_⟩⟩
      have sma := (sm9.trans f2).trans sa
      refine ⟨_, _, _, rfl, .inl ⟨x, y, qx.nest, qy.nest, rfl, rfl, nx.ext sma, ny.ext sma, okq.nest, okq2.nest, due_nest okq.nest okq2.nest⟩, fun Hb sb => ⟨_, rfl, ?_⟩⟩
      refine iteF ?_
      have smb := sma.trans sb
      refine ⟨_, rfl, M, _, _, rfl, smb _ _ m1, M, _, _, .ref tm, rfl, smb _ _ m1, putN tm, _, rfl, tm, _, _, _, rfl, rfl, SqT.of (smb _ _ m2), ref_ix hxm, ?_⟩
      refine ⟨_, rfl, M, _, _, rfl, smb _ _ m1, M, _, _, .ref tm, rfl, smb _ _ m1, putN tm, _, rfl, tm, _, _, _, rfl, rfl, SqT.of (smb _ _ m2), ref_ix hxm, one, fun L3 nL3 => ?_⟩
      have f3 := same_new (o := .lst [.ref x]) nL3
      have smc := smb.trans f3
      refine ⟨L3, [x], [qx.nest], rfl, upd_same, ⟨rfl, fun j s z a b => by
        cases j with
        | zero => cases a; cases b; exact nx.ext smc
        | succ j => cases a⟩, by show 1 ≤ 4; omega, fun Pm Hd sd pmd => ?_⟩
      have smd := smc.trans sd
      refine ⟨_, _, _, rfl, .inr (.inr (.inr (.inr ⟨rfl, x, qx.nest, Pm, [qx.nest], rfl, nx.ext smd, rfl, pmd⟩))), fun He se => ⟨_, rfl, ?_⟩⟩
      refine iteF ?_
      exact ⟨⟨_, _, _, rfl⟩, smd.trans se⟩
    · obtain ⟨⟨v5, v6, v7, rfl⟩, sm⟩ := h
      have one : 1 ≤ sizeLine := by decide
      have d6 : ∀ n ∈ ns, n.2.2.length ≤ 6 := fun n hn => by
        rw [← ens] at hn
        obtain ⟨z, hz, rfl⟩ := List.mem_map.mp hn
        show (z.acts.map _).length ≤ 6
        rw [List.length_map]
        exact (ok z hz).al
      refine ⟨_, rfl, M, _, _, rfl, sm _ _ m1, M, ns, rfl, pm8.ext sm, NT, by omega, fun H9 s9 => ⟨_, rfl, ?_⟩⟩
      have sm9 := sm.trans s9
      refine ⟨_, rfl, M, _, _, rfl, sm9 _ _ m1, M, _, _, .ref tm, rfl, sm9 _ _ m1, putN tm, ?_⟩
      refine ⟨_, rfl, one, fun L4 nL4 => ?_⟩
      have f4 := same_new (o := .lst [.ref M]) nL4
      have h4 : upd H9 L4 (.lst [.ref M]) L4 = some (.lst [.ref M]) := upd_same
      have sma := sm9.trans f4
      refine ⟨_, rfl, M, _, _, rfl, sma _ _ m1, M, ns, rfl, pm8.ext sma, _, rfl, Int.natCast_nonneg _, by omega, ?_⟩
      refine ⟨_, rfl, M, _, _, rfl, sma _ _ m1, M, ns, rfl, pm8.ext sma, by omega, d6, fun z Hb sb zl => ⟨_, rfl, ?_⟩⟩
      have smb := sma.trans sb
      refine ⟨by show 7 ≤ sizeLine; decide, fun L5 nL5 => ?_⟩
      obtain ⟨f5, h5⟩ := new_both (o := .lst [V.str (progT ns), V.ref tm, V.ref L4, V.non, V.int (ns.length : Int), V.str z, V.bl true]) nL5
      refine ⟨_, rfl, L5, rfl, ⟨_, SqL.of h5⟩, fun D5 nD5 => ?_⟩
      have smc := smb.trans f5
      have plain : ∀ (v : V), v ∈ [V.str (progT ns), V.ref tm, V.ref L4, V.non, V.int (ns.length : Int), V.str z, V.bl true] → ∀ Hx : Hp, Same (upd Hb L5 (.lst [V.str (progT ns), V.ref tm, V.ref L4, V.non, V.int (ns.length : Int), V.str z, V.bl true])) Hx → ∃ T, Plain Hx v T := fun v hv Hx sx => by
        simp only [List.mem_cons, List.not_mem_nil, or_false] at hv
        rcases hv with rfl | rfl | rfl | rfl | rfl | rfl | rfl
        · exact ⟨_, .str _⟩
        · exact ⟨_, .tup ((smc.trans sx) _ _ m2)⟩
        · exact ⟨_, .lst (sx _ _ (f5 _ _ (sb _ _ h4)))⟩
        · exact ⟨_, .non⟩
        · exact ⟨_, .int _⟩
        · exact ⟨_, .str _⟩
        · exact ⟨_, .bl _⟩
      generalize hxs : [V.str (progT ns), V.ref tm, V.ref L4, V.non, V.int (ns.length : Int), V.str z, V.bl true] = things at *
      have l7 : things.length = 7 := by rw [← hxs]; rfl
      refine lc_list (K := K) (a := L5) (xs := things) (fun j H' => Same (upd Hb L5 (.lst things)) H' ∧ ∃ bs : List Bool, H' D5 = some (.lst (bs.map V.bl)) ∧ bs.all id = true ∧ bs.length = j)
        ⟨same_new nD5, [], upd_same, rfl, rfl⟩ (fun j H' _ h => SqL.of (h.1 _ _ h5)) (fun j v H' hj h => ?_) (fun H' h => ?_)
      · obtain ⟨sx, bs, hD5, hall5, hlen⟩ := h
        refine ⟨rfl, ?_⟩
        obtain ⟨TT, pv⟩ := plain v (List.mem_of_getElem? hj) _ sx
        have hj7 : j < 7 := by
          have z := (List.getElem?_eq_some_iff.mp hj).1
          omega
        refine ⟨_, rfl, _, rfl, _, _, _, rfl, .inr (.inr (.inr (.inl ⟨rfl, M, ns, TT, rfl, pm8.ext (smc.trans sx), pv⟩))), fun Hd sd => ⟨bs.map V.bl, sd _ _ hD5, ?_, fun c o hc => ?_, bs ++ [true], ?_, ?_, ?_⟩⟩
        · rw [List.length_map, hlen]
          have h6 : 7 ≤ sizeLine := by decide
          omega
        · rw [upd_ne (fun e => by rw [e, nD5] at hc; cases hc)]
          exact sd c o (sx c o hc)
        · rw [upd_same, List.map_append]
          all_goals rfl
        · rw [List.all_append, hall5]
          rfl
        · rw [List.length_append, hlen]
          rfl
      · obtain ⟨sx, bs, hD5, hall5, _⟩ := h
        refine ⟨D5, bs, rfl, SqL.of hD5, ?_⟩
        rw [hall5]
        have fin := smc.trans sx
        exact q _ (hb8.ext fin) (o8.trans (Same.off fin))
end
end Sq.N3
namespace Sq.N3
open PySem L2 TL
abbrev sLaw : Stmt := top 50
def spLaw (K : PySem.W.Frag) : Sp := fun vs H Q _ => ∃ (a : Addr) (ns : List Int), vs = [.ref a] ∧ SqL K H a (ns.map V.int) ∧ ns.length ≤ 63 ∧ ∀ H', Q (.bl true) H'
theorem hc (L : Int) (hL : 0 ≤ L) : (-(2 ^ 62) ≤ (if (if (5 : Int) < L then 5 else L) > 2 then (if (5 : Int) < L then 5 else L) else 2) ∧ (if (if (5 : Int) < L then 5 else L) > 2 then (if (5 : Int) < L then 5 else L) else 2) < 2 ^ 62) ∧
    (if (if (5 : Int) < L then 5 else L) > 2 then (if (5 : Int) < L then 5 else L) else 2).toNat ≤ 6 := by
  split <;> split <;> refine ⟨⟨?_, ?_⟩, ?_⟩ <;> omega
abbrev nA : NestD := ("0 to n", "0 to i", [])
abbrev nB : NestD := ("0 to n", "0 to i", ["swap i,j j,i"])
abbrev nC : NestD := ("0 to n down", "0 to i", [])
theorem tA : NestT nA := by
  have h := nestT_of (a := 1) (b := 4) (a2 := 1) (b2 := 13) 0 0 (ds := []) (by decide) (by decide) (by decide) (by decide) (by decide) fun d hd => absurd hd List.not_mem_nil
  rw [show rowOf 1 4 0 = "0 to n" by decide +kernel, show rowOf 1 13 0 = "0 to i" by decide +kernel] at h
  exact h
theorem tC' : NestT nC := by
  have h := nestT_of (a := 1) (b := 4) (a2 := 1) (b2 := 13) 1 0 (ds := []) (by decide) (by decide) (by decide) (by decide) (by decide) fun d hd => absurd hd List.not_mem_nil
  rw [show rowOf 1 4 1 = "0 to n down" by decide +kernel, show rowOf 1 13 0 = "0 to i" by decide +kernel] at h
  exact h
theorem tB : NestT nB := by
  have h := nestT_of (a := 1) (b := 4) (a2 := 1) (b2 := 13) 0 0 (ds := [actS 0 [0, 1] none]) (by decide) (by decide) (by decide) (by decide) (by decide) fun d hd => by
    rw [List.mem_singleton.mp hd]
    exact act_deed ⟨by decide, fun _ => by decide, fun e => absurd e (by decide), by decide, by decide, fun a b c e => by cases e⟩
  rw [show rowOf 1 4 0 = "0 to n" by decide +kernel, show rowOf 1 13 0 = "0 to i" by decide +kernel, show actS 0 [0, 1] none = "swap i,j j,i" by decide +kernel] at h
  exact h
theorem nm_q {i : Nat} {v : V} {σ : L2.St} {H : Hp} {Q : L2.St → Hp → Prop} (h : Q (σ.set i (some v)) H) : gName i v σ H Q := h
theorem sq_ {t u : TS} {D : Ends} {σ : L2.St} {H : Hp} (h : t { D with nx := u D } σ H) : tSeq t u D σ H := h
theorem st_of {t : TS} {D : Ends} {σ : L2.St} {H : Hp} (J : L2.St → Hp → Prop) (h : ∀ D' : Ends, (∀ σ' H', J σ' H' → D'.nx σ' H') → t D' σ H) (k : ∀ σ' H', J σ' H' → D.nx σ' H') : t D σ H := h D k
section
variable {P : Program} {w : World} {K : PySem.W.Frag} {mg : Str → Option Value} {base : Heap} {C CP fp fA fR : Addr}
theorem scLaw : FnScope ["_law_script", "_law_some", "_law_k", "_law_thing", "_law_m", "_law_bag_here", "_law_turn"] ["_law_script"] (defScope sLaw) := ⟨rfl, rfl, rfl, by decide +kernel, rfl, by decide +kernel, by decide +kernel⟩
theorem ok_law {f : Addr} {fd : FuncData} (F : Fun K "law" "law" sLaw f fd) (b : Binds K fd ["_law_script"] []) (T : Bt mg) (hmax : mg "max" = none) (hmin : mg "min" = none) (hall : mg "all" = none)
    (NK : NestK P w K mg base C) (PK : ProgK P w K mg base CP C) (mkp : Mk K CP fp) (GI : FnR P w K mg base CX0 2 fp (spPMade CP C))
    (KB : Kn P w K mg base "_law_bag" 1 ["_law_number_here"] spBag) (KU : Kn P w K mg base "_law_number" 1 ["_law_script", "_law_k"] (spNumber K))
    (GA : FnG P w K mg base 5 fA (spAlike K C CP)) (kA : PySem.W.keepIn K (.ref fA) = true) (mA : mg "_law_alike" = some (.ref fA)) (GR : FnG P w K mg base 8 fR spPair) (kR : PySem.W.keepIn K (.ref fR) = true) (mR : mg "_law_pair_right" = some (.ref fR)) : FnG P w K mg base 9 f (spLaw K) := by
  obtain ⟨fB, dB, mB, kB, bB, GB⟩ := KB
  obtain ⟨fU, dU, mU, kU, bU, GU⟩ := KU
  obtain ⟨fi, mk, GRn⟩ := NK.mks
  have mN := NK.mN
  obtain ⟨p1, g1, d1, P1, G1, B1⟩ := NK.p1
  obtain ⟨p3, g3, d3, P3, G3, B3⟩ := NK.p3
  refine FnG.of F scLaw b (fun vs H Q h => ?_) (fun cdv A outer s H vs Q hg hr h => ?_)
  · obtain ⟨a, ns, rfl, _⟩ := h
    rfl
  · obtain ⟨a, ns, rfl, hS, hl, q⟩ := h
    have hr5 := hr.mono (show 5 ≤ 8 by decide)
    have hr3 := hr.mono (show 3 ≤ 8 by decide)
    have hr2 := hr.mono (show 2 ≤ 8 by decide)
    have hr1 := hr.mono (show 1 ≤ 8 by decide)
    refine ⟨_, (pss_cons (ps_set (i := 1) scLaw.nd rfl (by first | exact .inl rfl | exact .inr rfl) (pe_lst (pa_cons (StX.pe_makeR mk GRn hr5 (by rfl) mN pass0 (pa_cons pe_str (pa_cons pe_str pa_nil))) (pa_cons (StX.pe_makeR mk GRn hr5 (by rfl) mN pass0 (pa_cons pe_str (pa_cons pe_str (pa_cons pe_str pa_nil)))) (pa_cons (StX.pe_makeR mk GRn hr5 (by rfl) mN pass0 (pa_cons pe_str (pa_cons pe_str pa_nil))) pa_nil)))))
        (pss_cons (ps_for PassesOwn.never rfl (pi_range1 (by rfl) T.range (pa_cons pe_int pa_nil)) (pg_name (i := 2) scLaw.nd rfl (by first | exact .inl rfl | exact .inr rfl))
        (pss_cons (ps_for PassesOwn.never rfl (pi_list (pe_lst (pa_cons (pe_prop (pe_ix ix_list (pv 1) (pv 2) (fun _ _ => rfl)) NK.nc.cl P1 G1 hr2 B1 .nil pass0 rfl) (pa_cons (pe_prop (pe_ix ix_list (pv 1) (pv 2) (fun _ _ => rfl)) NK.nc.cl P3 G3 hr2 B3 .nil pass0 rfl) (pa_cons (pe_tup (pa_cons pe_str (pa_cons pe_str (pa_cons (pe_tup pa_nil) pa_nil)))) (pa_cons pe_non (pa_cons pe_int (pa_cons pe_bl (pa_cons (pv 1) pa_nil))))))))) (pg_name (i := 3) scLaw.nd rfl (by first | exact .inl rfl | exact .inr rfl))
        (pss_one (ps_if (pt_not (pt_val (pe_callG GA hg hr5 (by rfl) mA kA (pa_cons (pe_ix ix_list (pv 1) (pv 2) (fun _ _ => rfl)) (pa_cons (pv 3) (pa_cons pe_bl pa_nil)))))) (pss_one (ps_ret pe_bl)) pss_nil)))
        (pss_one (ps_if (pt_not (pt_val (pe_callB (cr_all (by rfl)) (by rfl) hall (by decide +kernel) (pa_cons (pe_lc (own := [("_law_m", 4)]) (g := gName 4) (by rfl) scLaw.nd (pi_range1 (by rfl) T.range (pa_cons pe_int pa_nil)) (blkOk_by (own := [("_law_m", 4)]) (N := ["_law_script", "_law_some", "_law_k", "_law_thing", "_law_m", "_law_bag_here", "_law_turn"]) (sc := defScope sLaw) (by decide +kernel)) (fun _ _ _ _ _ => pg_name (i := 4) scLaw.nd rfl (Or.inl rfl)) (fun _ _ _ _ _ => pts_nil) (fun _ _ _ _ _ => (show PE _ _ (tCallG (spAlike K C CP) (tCons (tOp (rIxL K) (tVar 1) (tVar 2)) (tCons (tOp (rIxL K) (tVar 1) (tVar 4)) (tCons (tOp rEq (tVar 2) (tVar 4)) tNil)))) from (pe_callG GA hg hr5 (by rfl) mA kA (pa_cons (pe_ix ix_list (pv 1) (pv 2) (fun _ _ => rfl)) (pa_cons (pe_ix ix_list (pv 1) (pv 4) (fun _ _ => rfl)) (pa_cons (pe_cmpR op_eq (pv 2) (pv 4) (nomark _)) pa_nil))))))) pa_nil)))) (pss_one (ps_ret pe_bl)) pss_nil))))
        (pss_cons (ps_if (PW.pt (pw_or (pt_not (pt_val (pe_callG GA hg hr5 (by rfl) mA kA (pa_cons (pe_makeR0 mkp GI hr3 (by rfl) PK.mP pass0) (pa_cons pe_str (pa_cons pe_bl pa_nil)))))) (pw_or1 (pt_not (pt_val (pe_callG GA hg hr5 (by rfl) mA kA (pa_cons (pe_makeR0 mkp GI hr3 (by rfl) PK.mP pass0) (pa_cons (pe_tup pa_nil) (pa_cons pe_bl pa_nil))))))))) (pss_one (ps_ret pe_bl)) pss_nil)
        (pss_cons (ps_for PassesOwn.never rfl (pi_range1 (by rfl) T.range (pa_cons (pe_callB (call_max2 rfl) (by rfl) hmax (by decide +kernel) (pa_cons pe_int (pa_cons (pe_callB (call_min2 rfl) (by rfl) hmin (by decide +kernel) (pa_cons (pe_callB call_len_seq (by rfl) T.len PySem.boot_len (pa_cons (pv 0) pa_nil)) (pa_cons pe_int pa_nil))) pa_nil))) pa_nil)) (pg_name (i := 2) scLaw.nd rfl (by first | exact .inl rfl | exact .inr rfl))
        (pss_cons (ps_set (i := 5) scLaw.nd rfl (by first | exact .inl rfl | exact .inr rfl) (pe_call GB hr1 (by rfl) mB kB bB .nil pass0 (pa_cons (pe_call GU hr1 (by rfl) mU kU bU .nil pass0 (pa_cons (pv 0) (pa_cons (pv 2) pa_nil))) pa_nil)))
        (pss_one (ps_if (pt_not (pt_val (pe_callB (cr_all (by rfl)) (by rfl) hall (by decide +kernel) (pa_cons (pe_lc (own := [("_law_turn", 6)]) (g := gName 6) (by rfl) scLaw.nd (pi_range1 (by rfl) T.range (pa_cons pe_int pa_nil)) (blkOk_by (own := [("_law_turn", 6)]) (N := ["_law_script", "_law_some", "_law_k", "_law_thing", "_law_m", "_law_bag_here", "_law_turn"]) (sc := defScope sLaw) (by decide +kernel)) (fun _ _ _ _ _ => pg_name (i := 6) scLaw.nd rfl (Or.inl rfl)) (fun _ _ _ _ _ => pts_nil) (fun _ _ _ _ _ => (pe_callG GR hg hr (by rfl) mR kR (pa_cons (pv 5) pa_nil)))) pa_nil)))) (pss_one (ps_ret pe_bl)) pss_nil))))
        (pss_one (ps_ret pe_bl)))))), ?_⟩
    refine fun x0 dx0 nx0 ndx0 _ => made_deeds (K := K) (n := nA) nx0 ndx0 tA.ok fun H1 s1 a1 => ?_
    refine fun x1 dx1 nx1 ndx1 _ => made_deeds (K := K) (n := nB) nx1 ndx1 tB.ok fun H2 s2 a2 => ?_
    refine fun x2 dx2 nx2 ndx2 _ => made_deeds (K := K) (n := nC) nx2 ndx2 tC'.ok fun H3 s3 a3 => ?_
    refine ⟨by show 3 ≤ sizeLine; decide, fun L0 nL0 => ?_⟩
    obtain ⟨s4, hL⟩ := new_both (o := .lst [V.ref x0, V.ref x1, V.ref x2]) nL0
    have s14 := s2.trans (s3.trans s4)
    have all3 : ∀ (i : Nat) (x : Addr) (n : NestD), [x0, x1, x2][i]? = some x → [nA, nB, nC][i]? = some n → NestIs C (upd H3 L0 (.lst [V.ref x0, V.ref x1, V.ref x2])) x n ∧ NestT n := fun i x n hx hn => by
      match i, hx, hn with
      | 0, hx, hn => cases hx; cases hn; exact ⟨a1.ext s14, tA⟩
      | 1, hx, hn => cases hx; cases hn; exact ⟨a2.ext (s3.trans s4), tB⟩
      | 2, hx, hn => cases hx; cases hn; exact ⟨a3.ext s4, tC'⟩
    have s04 := s1.trans s14
    have hS4 := hS.ext s04
    have at3 : ∀ i, i < 3 → ∃ x n, [x0, x1, x2][i]? = some x ∧ [nA, nB, nC][i]? = some n := fun i hi => ⟨_, _, List.getElem?_eq_getElem (show i < [x0, x1, x2].length from hi), List.getElem?_eq_getElem (show i < [nA, nB, nC].length from hi)⟩
    have due3 : ∀ (i j : Nat) (n m : NestD), [nA, nB, nC][i]? = some n → [nA, nB, nC][j]? = some m → decide (V.int (i : Int) = V.int (j : Int)) = decide (n = m) := fun i j n m hn hm => by
      match i, j, hn, hm with
      | 0, 0, hn, hm => cases hn; cases hm; decide +kernel
      | 0, 1, hn, hm => cases hn; cases hm; decide +kernel
      | 0, 2, hn, hm => cases hn; cases hm; decide +kernel
      | 1, 0, hn, hm => cases hn; cases hm; decide +kernel
      | 1, 1, hn, hm => cases hn; cases hm; decide +kernel
      | 1, 2, hn, hm => cases hn; cases hm; decide +kernel
      | 2, 0, hn, hm => cases hn; cases hm; decide +kernel
      | 2, 1, hn, hm => cases hn; cases hm; decide +kernel
      | 2, 2, hn, hm => cases hn; cases hm; decide +kernel
    generalize upd H3 L0 (.lst [V.ref x0, V.ref x1, V.ref x2]) = H4 at s4 hL all3 s04 hS4 s14
    refine ⟨3, rfl, by decide, by decide, ?_⟩
    refine for_range (n := 3) (lo := 0) (fun _ σ H' => (∃ v2 v3 v4 v5 v6, σ = [some (.ref a), some (.ref L0), v2, v3, v4, v5, v6]) ∧ Same H4 H') ⟨⟨_, _, _, _, _, rfl⟩, Same.refl _⟩ (fun i σ H' hi h => ?_) (fun σ H' h => ?_)
    · obtain ⟨⟨v2, v3, v4, v5, v6, rfl⟩, sm⟩ := h
      rw [Int.zero_add]
      obtain ⟨x, n, hx, hn⟩ := at3 i hi
      obtain ⟨nx, nt⟩ := all3 i x n hx hn
      have hLm : H4 L0 = some (.lst ([x0, x1, x2].map V.ref)) := hL
      refine nm_q (sq_ (st_of (fun σ H' => (∃ v3 v4 v5 v6, σ = [some (.ref a), some (.ref L0), some (.int (i : Int)), v3, v4, v5, v6]) ∧ Same H4 H') (fun D' nx' => ?_) fun σ5 H5 h5 => ?_))
      · obtain ⟨dx, dp, ⟨R9, e1⟩, e2⟩ := nx.ext sm
        refine ⟨_, rfl, _, rfl, L0, _, _, _, rfl, rfl, SqL.of (sm _ _ hLm), ref_ix hx, x, _, _, rfl, e1, x, _, _, .str n.1, rfl, e1, nfl_outer _ _ _ _, ?_⟩
        refine ⟨_, rfl, _, rfl, L0, _, _, _, rfl, rfl, SqL.of (sm _ _ hLm), ref_ix hx, x, _, _, rfl, e1, x, _, _, .ref dp, rfl, e1, nfl_deeds _ _ _ _, ?_⟩
        refine ⟨by show 0 ≤ sizeLine; decide, fun t0 nt0 => ⟨by show 3 ≤ sizeLine; decide, fun t1 nt1 => ⟨_, rfl, by show 7 ≤ sizeLine; decide, fun L1 nL1 => ?_⟩⟩⟩
        obtain ⟨f0, k0⟩ := new_both (o := .tup []) nt0
        obtain ⟨f1, k1⟩ := new_both (o := .tup [.str "0 to n", .str "0 to i", .ref t0]) nt1
        obtain ⟨f2, k2⟩ := new_both (o := .lst [V.str n.1, V.ref dp, V.ref t1, V.non, V.int 0, V.bl false, V.ref L0]) nL1
        refine ⟨L1, rfl, ⟨_, SqL.of k2⟩, ?_⟩
        have f := f0.trans (f1.trans f2)
        have smf := sm.trans f
        generalize upd _ L1 (.lst [V.str n.1, V.ref dp, V.ref t1, V.non, V.int 0, V.bl false, V.ref L0]) = HL at f2 k2 f smf
        refine for_list (K := K) (a := L1) (xs := [V.str n.1, V.ref dp, V.ref t1, V.non, V.int 0, V.bl false, V.ref L0]) (fun _ σ H' => (∃ v3 v4 v5 v6, σ = [some (.ref a), some (.ref L0), some (.int (i : Int)), v3, v4, v5, v6]) ∧ Same HL H') ⟨⟨_, _, _, _, rfl⟩, Same.refl _⟩ (fun j σ H' _ h => SqL.of (h.2 _ _ k2)) (fun j v σ H' hj h => ?_) (fun σ H' h => nx' _ _ ⟨h.1, smf.trans h.2⟩)
        obtain ⟨⟨v3, v4, v5, v6, rfl⟩, sx⟩ := h
        have big := smf.trans sx
        have plain : ∃ T, Plain H' v T := by
          have hv := List.mem_of_getElem? hj
          simp only [List.mem_cons, List.not_mem_nil, or_false] at hv
          rcases hv with rfl | rfl | rfl | rfl | rfl | rfl | rfl
          · exact ⟨_, .str _⟩
          · exact ⟨_, .tup (sx _ _ (f _ _ e2))⟩
          · exact ⟨_, .tup (sx _ _ (f2 _ _ k1))⟩
          · exact ⟨_, .non⟩
          · exact ⟨_, .int _⟩
          · exact ⟨_, .bl _⟩
          · exact ⟨_, .lst (big _ _ hL)⟩
        obtain ⟨TT, pv⟩ := plain
        refine ⟨_, rfl, _, rfl, L0, _, _, _, rfl, rfl, SqL.of (big _ _ hLm), ref_ix hx, _, rfl, _, _, _, rfl, .inr (.inr (.inl ⟨rfl, x, n, TT, rfl, nx.ext big, pv⟩)), fun Hd sd => ⟨_, rfl, ?_⟩⟩
        refine iteF ?_
        exact ⟨⟨_, _, _, _, rfl⟩, sx.trans sd⟩
      · obtain ⟨⟨v3, v4, v5, v6, rfl⟩, sm5⟩ := h5
        refine ⟨3, rfl, by decide, by decide, fun D nD => ?_⟩
        refine lc_range (lo := 0) (n := 3) (fun j H' => Same H5 H' ∧ ∃ bs : List Bool, H' D = some (.lst (bs.map V.bl)) ∧ bs.all id = true ∧ bs.length = j)
          ⟨same_new nD, [], upd_same, rfl, rfl⟩ (fun j H' hj h => ?_) (fun H' h => ?_)
        · obtain ⟨s6, bs, hD, hall', hlen⟩ := h
          refine ⟨rfl, ?_⟩
          rw [Int.zero_add]
          obtain ⟨y, m, hy, hm⟩ := at3 j hj
          obtain ⟨ny, mt⟩ := all3 j y m hy hm
          have big := sm5.trans s6
          refine ⟨_, rfl, _, rfl, L0, _, _, _, rfl, rfl, SqL.of (big _ _ hLm), ref_ix hx, _, rfl, _, rfl, L0, _, _, _, rfl, rfl, SqL.of (big _ _ hLm), ref_ix hy, _, rfl, _, rfl, rfl, ?_⟩
          refine ⟨_, _, _, rfl, .inl ⟨x, y, n, m, rfl, rfl, nx.ext big, ny.ext big, nt, mt, due3 i j n m hn hm⟩, fun Hd sd => ⟨bs.map V.bl, sd _ _ hD, ?_, fun c o hc => ?_, bs ++ [true], ?_, ?_, ?_⟩⟩
          · rw [List.length_map, hlen]
            exact Nat.lt_of_lt_of_le hj (by decide)
          · rw [upd_ne (fun e => by rw [e, nD] at hc; cases hc)]
            exact sd c o (s6 c o hc)
          · rw [upd_same, List.map_append]
            all_goals rfl
          · rw [List.all_append, hall']
            rfl
          · rw [List.length_append, hlen]
            rfl
        · obtain ⟨s6, bs, hD, hall', _⟩ := h
          refine ⟨D, bs, rfl, SqL.of hD, _, rfl, ?_⟩
          rw [hall']
          refine iteF ?_
          exact ⟨⟨_, _, _, _, _, rfl⟩, sm5.trans s6⟩
    · obtain ⟨⟨v2, v3, v4, v5, v6, rfl⟩, sm⟩ := h
      refine fun X0 dX nX ndX _ => made_prog (C := C) (xs := []) nX ndX (Nat.zero_le _) (fun y hy => absurd hy List.not_mem_nil) fun H6 tp s6 hx0 ht => ?_
      have pz : ProgAt CP C H6 X0 [] := ⟨dX, tp, [], hx0, ht, rfl, fun i y n h1 _ => by cases h1⟩
      refine ⟨_, _, _, rfl, .inr (.inr (.inr (.inl ⟨rfl, X0, [], "str", rfl, pz, .str _⟩))), fun H7 s7 => ⟨_, rfl, ?_⟩⟩
      refine fun X1 dX1 nX1 ndX1 _ => made_prog (C := C) (xs := []) nX1 ndX1 (Nat.zero_le _) (fun y hy => absurd hy List.not_mem_nil) fun H8 tp1 s8 hx1 ht1 => ?_
      refine ⟨by show 0 ≤ sizeLine; decide, fun t9 nt9 => ?_⟩
      obtain ⟨f9, k9⟩ := new_both (o := .tup []) nt9
      have pz1 : ProgAt CP C H8 X1 [] := ⟨dX1, tp1, [], hx1, ht1, rfl, fun i y n h1 _ => by cases h1⟩
      refine ⟨_, _, _, rfl, .inr (.inr (.inr (.inl ⟨rfl, X1, [], "tuple", rfl, pz1.ext f9, .tup k9⟩))), fun HA sA => ⟨_, rfl, ?_⟩⟩
      refine iteF ?_
      have tA : Same H HA := s04.trans (sm.trans (s6.trans (s7.trans (s8.trans (f9.trans sA)))))
      refine ⟨_, rfl, a, _, rfl, .inl (hS.ext tA), _, _, rfl, _, _, rfl, ?_⟩
      rw [List.length_map]
      obtain ⟨hc1, hc2⟩ := hc (ns.length : Int) (Int.natCast_nonneg _)
      refine ⟨_, rfl, hc1.1, hc1.2, for_range (lo := 0) (fun _ σ H' => (∃ v1 v2 v3 v4 v5 v6, σ = [some (.ref a), v1, v2, v3, v4, v5, v6]) ∧ Same H H') ⟨⟨_, _, _, _, _, _, rfl⟩, tA⟩ (fun i σ H0 hi h => ?_) (fun σ H0 h => ?_)⟩
      · obtain ⟨⟨v1, v2, v3, v4, v5, v6, rfl⟩, sm⟩ := h
        rw [Int.zero_add]
        refine ⟨_, rfl, _, rfl, a, ns, i, rfl, SqL.ext hS sm, hl, by omega, fun n H1 s1 => ⟨n, rfl, fun pb bm bd nb => ?_⟩⟩
        have s2 : Same H (upd H1 pb (.lst [.int bm, .int bd, .int 0])) := (sm.trans s1).trans (same_new nb)
        refine ⟨4, rfl, by decide, by decide, fun D2 nD2 => ?_⟩
        have nDp : D2 ≠ pb := fun e => by rw [e, upd_same] at nD2; cases nD2
        have hnb : H pb = none := (sm.trans s1).free nb
        have hnD : H D2 = none := s2.free nD2
        refine lc_range (lo := 0) (n := 4) (fun j H' => Same H H' ∧ BagAt H' pb ∧ ∃ bs : List Bool, H' D2 = some (.lst (bs.map V.bl)) ∧ bs.all id = true ∧ bs.length = j)
          ⟨s2.trans (same_new nD2), ⟨_, _, _, same_new nD2 _ _ upd_same⟩, [], upd_same, rfl, rfl⟩ (fun j H' hj h => ?_) (fun H' h => ?_)
        · obtain ⟨s3, hb, bs, hD, hall', hlen⟩ := h
          refine ⟨rfl, ?_⟩
          refine ⟨_, rfl, pb, rfl, hb, fun H3 hb3 o3 => ⟨bs.map V.bl, o3 D2 _ nDp hD, ?_, ?_, ?_, bs ++ [true], ?_, ?_, ?_⟩⟩
          · rw [List.length_map, hlen]
            exact Nat.lt_of_lt_of_le hj (by decide)
          · intro c o hx
            rw [upd_ne (fun e => by rw [e, hnD] at hx; cases hx)]
            exact o3 c o (fun e => by rw [e, hnb] at hx; cases hx) (s3 c o hx)
          · obtain ⟨x1, x2, x3, hx⟩ := hb3
            exact ⟨x1, x2, x3, by rw [upd_ne nDp.symm]; exact hx⟩
          · rw [upd_same, List.map_append]
            all_goals rfl
          · rw [List.all_append, hall']
            rfl
          · rw [List.length_append, hlen]
            rfl
        · obtain ⟨s3, _, bs, hD, hall', _⟩ := h
          refine ⟨D2, bs, rfl, SqL.of hD, _, rfl, ?_⟩
          rw [hall']
          refine iteF ?_
          exact ⟨⟨_, _, _, _, _, _, rfl⟩, s3⟩
      · exact q _
end
end Sq.N3
namespace Sq.N3
open PySem L2 TL
/-! ### what the top leaves, and the end -/
theorem all_mk {P : Program} {w : World} {K : PySem.W.Frag} {h : Heap} {mg : Str → Option Value} {fa : Addr}
    {tB : Addr} {esB : Array DictEntry} {epB : Nat}
    {tC : Addr} {esC : Array DictEntry} {epC : Nat}
    {tP : Addr} {esP : Array DictEntry} {epP : Nat}
    {tN : Addr} {esN : Array DictEntry} {epN : Nat}
    {tS : Addr} {doS : Option Addr} {itS : Array Value} {nmS : Nat} {soS : Array (Option Value)}
    {tR : Addr} {esR : Array DictEntry} {epR : Nat}
    {uM : Tok}
    {frl : Addr} {ocrl kVrl dcrl pmrl cdrl ctrl : Value} {odrl anrl : Option Addr} {slrl : Array (Option Value)}
    {fro : Addr} {ocro kVro dcro pmro cdro ctro : Value} {odro anro : Option Addr} {slro : Array (Option Value)}
    {ffw : Addr} {ocfw kVfw dcfw pmfw cdfw ctfw : Value} {odfw anfw : Option Addr} {slfw : Array (Option Value)}
    {frc : Addr} {ocrc kVrc dcrc pmrc cdrc ctrc : Value} {odrc anrc : Option Addr} {slrc : Array (Option Value)}
    {frd : Addr} {ocrd kVrd dcrd pmrd cdrd ctrd : Value} {odrd anrd : Option Addr} {slrd : Array (Option Value)}
    {C : Addr}
    {fm1 : Addr} {ocm1 kVm1 dcm1 pmm1 cdm1 ctm1 : Value} {odm1 anm1 : Option Addr} {slm1 : Array (Option Value)}
    {fm2 : Addr} {ocm2 kVm2 dcm2 pmm2 cdm2 ctm2 : Value} {odm2 anm2 : Option Addr} {slm2 : Array (Option Value)}
    {fm3 : Addr} {ocm3 kVm3 dcm3 pmm3 cdm3 ctm3 : Value} {odm3 anm3 : Option Addr} {slm3 : Array (Option Value)}
    {fm4 : Addr} {ocm4 kVm4 dcm4 pmm4 cdm4 ctm4 : Value} {odm4 anm4 : Option Addr} {slm4 : Array (Option Value)}
    {fg1 pg1 : Addr} {rsg1 : List Value} {ocg1 kVg1 dcg1 pmg1 cdg1 ctg1 : Value} {odg1 ang1 : Option Addr} {slg1 : Array (Option Value)}
    {fg2 pg2 : Addr} {rsg2 : List Value} {ocg2 kVg2 dcg2 pmg2 cdg2 ctg2 : Value} {odg2 ang2 : Option Addr} {slg2 : Array (Option Value)}
    {fg3 pg3 : Addr} {rsg3 : List Value} {ocg3 kVg3 dcg3 pmg3 cdg3 ctg3 : Value} {odg3 ang3 : Option Addr} {slg3 : Array (Option Value)}
    {CP : Addr}
    {fm5 : Addr} {ocm5 kVm5 dcm5 pmm5 cdm5 ctm5 : Value} {odm5 anm5 : Option Addr} {slm5 : Array (Option Value)}
    {fg4 pg4 : Addr} {rsg4 : List Value} {ocg4 kVg4 dcg4 pmg4 cdg4 ctg4 : Value} {odg4 ang4 : Option Addr} {slg4 : Array (Option Value)}
    {fcm pcm : Addr} {rscm : List Value} {occm kVcm dccm pmcm cdcm ctcm : Value} {odcm ancm : Option Addr} {slcm : Array (Option Value)}
    {uo : Tok}
    {ui : Tok}
    {u4 : Tok}
    {fbh : Addr} {ocbh kVbh dcbh pmbh cdbh ctbh : Value} {odbh anbh : Option Addr} {slbh : Array (Option Value)}
    {frb : Addr} {ocrb kVrb dcrb pmrb cdrb ctrb : Value} {odrb anrb : Option Addr} {slrb : Array (Option Value)}
    {fno : Addr} {ocno kVno dcno pmno cdno ctno : Value} {odno anno : Option Addr} {slno : Array (Option Value)}
    {fm6 : Addr} {ocm6 kVm6 dcm6 pmm6 cdm6 ctm6 : Value} {odm6 anm6 : Option Addr} {slm6 : Array (Option Value)}
    {fm7 : Addr} {ocm7 kVm7 dcm7 pmm7 cdm7 ctm7 : Value} {odm7 anm7 : Option Addr} {slm7 : Array (Option Value)}
    {fm8 : Addr} {ocm8 kVm8 dcm8 pmm8 cdm8 ctm8 : Value} {odm8 anm8 : Option Addr} {slm8 : Array (Option Value)}
    {fnt : Addr} {ocnt kVnt dcnt pmnt cdnt ctnt : Value} {odnt annt : Option Addr} {slnt : Array (Option Value)}
    {fm9 : Addr} {ocm9 kVm9 dcm9 pmm9 cdm9 ctm9 : Value} {odm9 anm9 : Option Addr} {slm9 : Array (Option Value)}
    {fU : Addr} {ocU kVU dcU pmU cdU ctU : Value} {odU anU : Option Addr} {slU : Array (Option Value)}
    {fB : Addr} {ocB kVB dcB pmB cdB ctB : Value} {odB anB : Option Addr} {slB : Array (Option Value)}
    {fT : Addr} {ocT kVT dcT pmT cdT ctT : Value} {odT anT : Option Addr} {slT : Array (Option Value)}
    {fE : Addr} {ocE kVE dcE pmE cdE ctE : Value} {odE anE : Option Addr} {slE : Array (Option Value)}
    {fW : Addr} {ocW kVW dcW pmW cdW ctW : Value} {odW anW : Option Addr} {slW : Array (Option Value)}
    {fQ : Addr} {ocQ kVQ dcQ pmQ cdQ ctQ : Value} {odQ anQ : Option Addr} {slQ : Array (Option Value)}
    {fpg9 : Addr} {ocpg9 kVpg9 dcpg9 pmpg9 cdpg9 ctpg9 : Value} {odpg9 anpg9 : Option Addr} {slpg9 : Array (Option Value)}
    {fV : Addr} {ocV kVV dcV pmV cdV ctV : Value} {odV anV : Option Addr} {slV : Array (Option Value)}
    {fY : Addr} {ocY kVY dcY pmY cdY ctY : Value} {odY anY : Option Addr} {slY : Array (Option Value)}
    {fpr : Addr} {ocpr kVpr dcpr pmpr cdpr ctpr : Value} {odpr anpr : Option Addr} {slpr : Array (Option Value)}
    {fsc9 : Addr} {ocsc9 kVsc9 dcsc9 pmsc9 cdsc9 ctsc9 : Value} {odsc9 ansc9 : Option Addr} {slsc9 : Array (Option Value)}
    {fM : Addr} {ocM kVM dcM pmM cdM ctM : Value} {odM anM : Option Addr} {slM : Array (Option Value)}
    {fmd : Addr} {ocmd kVmd dcmd pmmd cdmd ctmd : Value} {odmd anmd : Option Addr} {slmd : Array (Option Value)}
    {fbu : Addr} {ocbu kVbu dcbu pmbu cdbu ctbu : Value} {odbu anbu : Option Addr} {slbu : Array (Option Value)}
    {fch : Addr} {occh kVch dcch pmch cdch ctch : Value} {odch anch : Option Addr} {slch : Array (Option Value)}
    {fcg : Addr} {occg kVcg dccg pmcg cdcg ctcg : Value} {odcg ancg : Option Addr} {slcg : Array (Option Value)}
    {fal : Addr} {ocal kVal dcal pmal cdal ctal : Value} {odal anal : Option Addr} {slal : Array (Option Value)}
    {fA : Addr} {ocA kVA dcA pmA cdA ctA : Value} {odA anA : Option Addr} {slA : Array (Option Value)}
    {fL : Addr} {ocL kVL dcL pmL cdL ctL : Value} {odL anL : Option Addr} {slL : Array (Option Value)}
    (X : K.In h) (G : h.Ns mainGlobals mg) (hfa : mg "law" = some (.ref fa))
    (dB : PySem.W.nsIn K mainGlobals "BOUNDS" = some (some (.ref tB)))
    (jB : K.lookup tB = some ⟨.type "dict", none, .dict esB epB, #[]⟩)
    (yB : (tB == sysModules) = false)
    (xB : PySem.W.KeysLit w.params esB.toList)
    (vB : esB.toList.map (fun e => (strW e.key, tupW K e.val)) = btab.map (fun q => (some q.1, some [q.2.1, q.2.2.1, q.2.2.2])))
    (dC : PySem.W.nsIn K mainGlobals "PLACE_COUNTS" = some (some (.ref tC)))
    (jC : K.lookup tC = some ⟨.type "dict", none, .dict esC epC, #[]⟩)
    (yC : (tC == sysModules) = false)
    (xC : PySem.W.KeysLit w.params esC.toList)
    (vC : esC.toList.map (fun e => (strW e.key, tupW K e.val)) = ctab.map (fun q => (some q.1, some [q.2.1, q.2.2])))
    (dP : PySem.W.nsIn K mainGlobals "PLACE_INDEXES" = some (some (.ref tP)))
    (jP : K.lookup tP = some ⟨.type "dict", none, .dict esP epP, #[]⟩)
    (yP : (tP == sysModules) = false)
    (xP : PySem.W.KeysLit w.params esP.toList)
    (vP : esP.toList.map (fun e => (strW e.key, intW e.val)) = ptab.map (fun q => (some q.1, some q.2)))
    (dN : PySem.W.nsIn K mainGlobals "NUMBERS" = some (some (.ref tN)))
    (jN : K.lookup tN = some ⟨.type "dict", none, .dict esN epN, #[]⟩)
    (yN : (tN == sysModules) = false)
    (xN : PySem.W.KeysLit w.params esN.toList)
    (vN : esN.toList.map (fun e => (strW e.key, intW e.val)) = ntab.map (fun q => (some q.1, some q.2)))
    (dS : PySem.W.nsIn K mainGlobals "COMPARISONS" = some (some (.ref tS)))
    (jS : K.lookup tS = some ⟨.type "tuple", doS, .seq itS nmS, soS⟩)
    (vS : Vals (cmps.map V.str) itS.toList)
    (hS : itS.size ≤ sizeLine)
    (dR : PySem.W.nsIn K mainGlobals "ORDERS" = some (some (.ref tR)))
    (jR : K.lookup tR = some ⟨.type "dict", none, .dict esR epR, #[]⟩)
    (vR : esR.toList.map (fun e => tupW K e.key) = okeys.map some)
    (xR : esR.toList.map (·.hash) = okeys.map thash)
    (yR : ∃ q0 q1 q2 q3 : Addr, esR.toList.map (·.val) = [.ref q0, .ref q1, .ref q2, .ref q3])
    (dM : PySem.W.nsIn K mainGlobals "MOST_DEEDS" = some (some (.int 6 uM)))
    (arl : PySem.W.nsIn K mainGlobals "read_loop" = some (some (.ref frl)))
    (lrl : K.lookup frl = some ⟨ocrl, odrl, .func (PySem.W.fnOf "read_loop" "read_loop" (defArgs s_read_loop) (defBody s_read_loop) (defScope s_read_loop) .none kVrl dcrl pmrl anrl cdrl ctrl), slrl⟩)
    (crl : PySem.W.codeIn K cdrl "read_loop" = true)
    (krl : PySem.W.keepIn K (.ref frl) = true)
    (aro : PySem.W.nsIn K mainGlobals "read_outer_loop" = some (some (.ref fro)))
    (lro : K.lookup fro = some ⟨ocro, odro, .func (PySem.W.fnOf "read_outer_loop" "read_outer_loop" (defArgs s_read_outer_loop) (defBody s_read_outer_loop) (defScope s_read_outer_loop) .none kVro dcro pmro anro cdro ctro), slro⟩)
    (cro : PySem.W.codeIn K cdro "read_outer_loop" = true)
    (kro : PySem.W.keepIn K (.ref fro) = true)
    (afw : PySem.W.nsIn K mainGlobals "first_wrong" = some (some (.ref ffw)))
    (lfw : K.lookup ffw = some ⟨ocfw, odfw, .func (PySem.W.fnOf "first_wrong" "first_wrong" (defArgs s_first_wrong) (defBody s_first_wrong) (defScope s_first_wrong) .none kVfw dcfw pmfw anfw cdfw ctfw), slfw⟩)
    (cfw : PySem.W.codeIn K cdfw "first_wrong" = true)
    (kfw : PySem.W.keepIn K (.ref ffw) = true)
    (arc : PySem.W.nsIn K mainGlobals "read_condition" = some (some (.ref frc)))
    (lrc : K.lookup frc = some ⟨ocrc, odrc, .func (PySem.W.fnOf "read_condition" "read_condition" (defArgs s_read_condition) (defBody s_read_condition) (defScope s_read_condition) .none kVrc dcrc pmrc anrc cdrc ctrc), slrc⟩)
    (crc : PySem.W.codeIn K cdrc "read_condition" = true)
    (krc : PySem.W.keepIn K (.ref frc) = true)
    (ard : PySem.W.nsIn K mainGlobals "read_deed" = some (some (.ref frd)))
    (lrd : K.lookup frd = some ⟨ocrd, odrd, .func (PySem.W.fnOf "read_deed" "read_deed" (defArgs s_read_deed) (defBody s_read_deed) (defScope s_read_deed) .none kVrd dcrd pmrd anrd cdrd ctrd), slrd⟩)
    (crd : PySem.W.codeIn K cdrd "read_deed" = true)
    (krd : PySem.W.keepIn K (.ref frd) = true)
    (aC : PySem.W.nsIn K mainGlobals "Nest" = some (some (.ref C)))
    (am1 : PySem.W.findIn K (.ref C) "__init__" = some (some (.ref fm1)))
    (im1 : PySem.W.isFn K (.ref fm1) = true)
    (lm1 : K.lookup fm1 = some ⟨ocm1, odm1, .func (PySem.W.fnOf "__init__" "Nest.__init__" (defArgs s_NInit) (defBody s_NInit) (defScope s_NInit) .none kVm1 dcm1 pmm1 anm1 cdm1 ctm1), slm1⟩)
    (cm1 : PySem.W.codeIn K cdm1 "Nest.__init__" = true)
    (km1 : PySem.W.keepIn K (.ref fm1) = true)
    (am2 : PySem.W.findIn K (.ref C) "__len__" = some (some (.ref fm2)))
    (im2 : PySem.W.isFn K (.ref fm2) = true)
    (lm2 : K.lookup fm2 = some ⟨ocm2, odm2, .func (PySem.W.fnOf "__len__" "Nest.__len__" (defArgs sNLen) (defBody sNLen) (defScope sNLen) .none kVm2 dcm2 pmm2 anm2 cdm2 ctm2), slm2⟩)
    (cm2 : PySem.W.codeIn K cdm2 "Nest.__len__" = true)
    (km2 : PySem.W.keepIn K (.ref fm2) = true)
    (am3 : PySem.W.findIn K (.ref C) "__bool__" = some (some (.ref fm3)))
    (im3 : PySem.W.isFn K (.ref fm3) = true)
    (lm3 : K.lookup fm3 = some ⟨ocm3, odm3, .func (PySem.W.fnOf "__bool__" "Nest.__bool__" (defArgs sNBool) (defBody sNBool) (defScope sNBool) .none kVm3 dcm3 pmm3 anm3 cdm3 ctm3), slm3⟩)
    (cm3 : PySem.W.codeIn K cdm3 "Nest.__bool__" = true)
    (km3 : PySem.W.keepIn K (.ref fm3) = true)
    (am4 : PySem.W.findIn K (.ref C) "__eq__" = some (some (.ref fm4)))
    (im4 : PySem.W.isFn K (.ref fm4) = true)
    (lm4 : K.lookup fm4 = some ⟨ocm4, odm4, .func (PySem.W.fnOf "__eq__" "Nest.__eq__" (defArgs sNEq) (defBody sNEq) (defScope sNEq) .none kVm4 dcm4 pmm4 anm4 cdm4 ctm4), slm4⟩)
    (cm4 : PySem.W.codeIn K cdm4 "Nest.__eq__" = true)
    (km4 : PySem.W.keepIn K (.ref fm4) = true)
    (ag1 : PySem.W.findIn K (.ref C) "outer" = some (some (.ref pg1)))
    (sg1 : PySem.W.specialIn K (.ref pg1) "__get__" = some (some (.builtin "property.__get__")))
    (tg1 : PySem.W.takesIn K (.ref pg1) = some true)
    (rg1 : PySem.W.recIn K pg1 "property" = some (.ref fg1 :: rsg1))
    (lg1 : K.lookup fg1 = some ⟨ocg1, odg1, .func (PySem.W.fnOf "outer" "Nest.outer" (defArgs sNOuter) (defBody sNOuter) (defScope sNOuter) .none kVg1 dcg1 pmg1 ang1 cdg1 ctg1), slg1⟩)
    (cg1 : PySem.W.codeIn K cdg1 "Nest.outer" = true)
    (kg1 : PySem.W.keepIn K (.ref fg1) = true)
    (ag2 : PySem.W.findIn K (.ref C) "inner" = some (some (.ref pg2)))
    (sg2 : PySem.W.specialIn K (.ref pg2) "__get__" = some (some (.builtin "property.__get__")))
    (tg2 : PySem.W.takesIn K (.ref pg2) = some true)
    (rg2 : PySem.W.recIn K pg2 "property" = some (.ref fg2 :: rsg2))
    (lg2 : K.lookup fg2 = some ⟨ocg2, odg2, .func (PySem.W.fnOf "inner" "Nest.inner" (defArgs sNInner) (defBody sNInner) (defScope sNInner) .none kVg2 dcg2 pmg2 ang2 cdg2 ctg2), slg2⟩)
    (cg2 : PySem.W.codeIn K cdg2 "Nest.inner" = true)
    (kg2 : PySem.W.keepIn K (.ref fg2) = true)
    (ag3 : PySem.W.findIn K (.ref C) "deeds" = some (some (.ref pg3)))
    (sg3 : PySem.W.specialIn K (.ref pg3) "__get__" = some (some (.builtin "property.__get__")))
    (tg3 : PySem.W.takesIn K (.ref pg3) = some true)
    (rg3 : PySem.W.recIn K pg3 "property" = some (.ref fg3 :: rsg3))
    (lg3 : K.lookup fg3 = some ⟨ocg3, odg3, .func (PySem.W.fnOf "deeds" "Nest.deeds" (defArgs sNDeeds) (defBody sNDeeds) (defScope sNDeeds) .none kVg3 dcg3 pmg3 ang3 cdg3 ctg3), slg3⟩)
    (cg3 : PySem.W.codeIn K cdg3 "Nest.deeds" = true)
    (kg3 : PySem.W.keepIn K (.ref fg3) = true)
    (pg : PySem.W.plainGet K C Str.empty = true)
    (hd : PySem.W.hasDictIn K C = true)
    (po : PySem.W.plainOver K C = true)
    (sa : PySem.W.findIn K (.ref C) "__setattr__" = some (some (.builtin "object.__setattr__")))
    (mk : PySem.W.makesIn K C = true)
    (kc : PySem.W.keepIn K (.ref C) = true)
    (nO : PySem.W.findIn K (.ref C) "_outer" = some none)
    (nI : PySem.W.findIn K (.ref C) "_inner" = some none)
    (nD : PySem.W.findIn K (.ref C) "_deeds" = some none)
    (nB : PySem.W.findIn K (.ref C) "bounds" = some none)
    (nR : PySem.W.findIn K (.ref C) "orders" = some none)
    (nP : PySem.W.findIn K (.ref C) "plans" = some none)
    (q1 : PySem.W.findIn K (.ref C) "__class__" = some (some (.builtin "object.__class__")))
    (q2 : PySem.W.specialIn K (.builtin "object.__class__") "__get__" = some (some (.builtin "getset_descriptor.__get__")))
    (q3 : PySem.W.takesIn K (.builtin "object.__class__") = some true)
    (q4 : PySem.W.mroIn K C (.type "object") = some true)
    (ne : PySem.W.findIn K (.ref C) "__ne__" = some (some (.builtin "object.__ne__")))
    (ob : PySem.W.subIn K (.ref C) (.type "object") = some true)
    (aCP : PySem.W.nsIn K mainGlobals "Program" = some (some (.ref CP)))
    (am5 : PySem.W.findIn K (.ref CP) "__init__" = some (some (.ref fm5)))
    (im5 : PySem.W.isFn K (.ref fm5) = true)
    (lm5 : K.lookup fm5 = some ⟨ocm5, odm5, .func (PySem.W.fnOf "__init__" "Program.__init__" (defArgs sPInit) (defBody sPInit) (defScope sPInit) .none kVm5 dcm5 pmm5 anm5 cdm5 ctm5), slm5⟩)
    (cm5 : PySem.W.codeIn K cdm5 "Program.__init__" = true)
    (km5 : PySem.W.keepIn K (.ref fm5) = true)
    (ag4 : PySem.W.findIn K (.ref CP) "nests" = some (some (.ref pg4)))
    (sg4 : PySem.W.specialIn K (.ref pg4) "__get__" = some (some (.builtin "property.__get__")))
    (tg4 : PySem.W.takesIn K (.ref pg4) = some true)
    (rg4 : PySem.W.recIn K pg4 "property" = some (.ref fg4 :: rsg4))
    (lg4 : K.lookup fg4 = some ⟨ocg4, odg4, .func (PySem.W.fnOf "nests" "Program.nests" (defArgs sPNests) (defBody sPNests) (defScope sPNests) .none kVg4 dcg4 pmg4 ang4 cdg4 ctg4), slg4⟩)
    (cg4 : PySem.W.codeIn K cdg4 "Program.nests" = true)
    (kg4 : PySem.W.keepIn K (.ref fg4) = true)
    (e1 : PySem.W.readsIn K CP (.type "type") = true)
    (e2 : PySem.W.specialIn K (.ref CP) "__getattribute__" = some (some (.builtin "type.__getattribute__")))
    (e3 : PySem.W.findCls K (.ref CP) (.type "type") "read" = some (.get (.builtin "classmethod.__get__") (.ref pcm) .none (.ref CP)))
    (e4 : PySem.W.recIn K pcm "classmethod" = some (.ref fcm :: rscm))
    (e5 : PySem.W.fnIn K fcm = true)
    (lcm : K.lookup fcm = some ⟨occm, odcm, .func (PySem.W.fnOf "read" "Program.read" (defArgs sPRead) (defBody sPRead) (defScope sPRead) .none kVcm dccm pmcm ancm cdcm ctcm), slcm⟩)
    (ccm : PySem.W.codeIn K cdcm "Program.read" = true)
    (kcm : PySem.W.keepIn K (.ref fcm) = true)
    (pgq : PySem.W.plainGet K CP Str.empty = true)
    (hdq : PySem.W.hasDictIn K CP = true)
    (poq : PySem.W.plainOver K CP = true)
    (saq : PySem.W.findIn K (.ref CP) "__setattr__" = some (some (.builtin "object.__setattr__")))
    (mkq : PySem.W.makesIn K CP = true)
    (kcq : PySem.W.keepIn K (.ref CP) = true)
    (nNq : PySem.W.findIn K (.ref CP) "_nests" = some none)
    (dOS : PySem.W.nsIn K mainGlobals "OUTER_START" = some (some (.str ofrom uo)))
    (dIS : PySem.W.nsIn K mainGlobals "INNER_START" = some (some (.str jfrom ui)))
    (dMN : PySem.W.nsIn K mainGlobals "MOST_NESTS" = some (some (.int 4 u4)))
    (abh : PySem.W.nsIn K mainGlobals "behind" = some (some (.ref fbh)))
    (lbh : K.lookup fbh = some ⟨ocbh, odbh, .func (PySem.W.fnOf "behind" "behind" (defArgs sBehind) (defBody sBehind) (defScope sBehind) .none kVbh dcbh pmbh anbh cdbh ctbh), slbh⟩)
    (cbh : PySem.W.codeIn K cdbh "behind" = true)
    (kbh : PySem.W.keepIn K (.ref fbh) = true)
    (arb : PySem.W.nsIn K mainGlobals "rows_by_nest" = some (some (.ref frb)))
    (lrb : K.lookup frb = some ⟨ocrb, odrb, .func (PySem.W.fnOf "rows_by_nest" "rows_by_nest" (defArgs sRowsBy) (defBody sRowsBy) (defScope sRowsBy) .none kVrb dcrb pmrb anrb cdrb ctrb), slrb⟩)
    (crb : PySem.W.codeIn K cdrb "rows_by_nest" = true)
    (krb : PySem.W.keepIn K (.ref frb) = true)
    (ano : PySem.W.nsIn K mainGlobals "nest_of_rows" = some (some (.ref fno)))
    (lno : K.lookup fno = some ⟨ocno, odno, .func (PySem.W.fnOf "nest_of_rows" "nest_of_rows" (defArgs sNestOf) (defBody sNestOf) (defScope sNestOf) .none kVno dcno pmno anno cdno ctno), slno⟩)
    (cno : PySem.W.codeIn K cdno "nest_of_rows" = true)
    (kno : PySem.W.keepIn K (.ref fno) = true)
    (am6 : PySem.W.findIn K (.ref CP) "__str__" = some (some (.ref fm6)))
    (im6 : PySem.W.isFn K (.ref fm6) = true)
    (lm6 : K.lookup fm6 = some ⟨ocm6, odm6, .func (PySem.W.fnOf "__str__" "Program.__str__" (defArgs sPStr) (defBody sPStr) (defScope sPStr) .none kVm6 dcm6 pmm6 anm6 cdm6 ctm6), slm6⟩)
    (cm6 : PySem.W.codeIn K cdm6 "Program.__str__" = true)
    (km6 : PySem.W.keepIn K (.ref fm6) = true)
    (am7 : PySem.W.findIn K (.ref CP) "__len__" = some (some (.ref fm7)))
    (im7 : PySem.W.isFn K (.ref fm7) = true)
    (lm7 : K.lookup fm7 = some ⟨ocm7, odm7, .func (PySem.W.fnOf "__len__" "Program.__len__" (defArgs sPLen) (defBody sPLen) (defScope sPLen) .none kVm7 dcm7 pmm7 anm7 cdm7 ctm7), slm7⟩)
    (cm7 : PySem.W.codeIn K cdm7 "Program.__len__" = true)
    (km7 : PySem.W.keepIn K (.ref fm7) = true)
    (am8 : PySem.W.findIn K (.ref CP) "__eq__" = some (some (.ref fm8)))
    (im8 : PySem.W.isFn K (.ref fm8) = true)
    (lm8 : K.lookup fm8 = some ⟨ocm8, odm8, .func (PySem.W.fnOf "__eq__" "Program.__eq__" (defArgs sPEq) (defBody sPEq) (defScope sPEq) .none kVm8 dcm8 pmm8 anm8 cdm8 ctm8), slm8⟩)
    (cm8 : PySem.W.codeIn K cdm8 "Program.__eq__" = true)
    (km8 : PySem.W.keepIn K (.ref fm8) = true)
    (ne2 : PySem.W.findIn K (.ref CP) "__ne__" = some (some (.builtin "object.__ne__")))
    (ob2 : PySem.W.subIn K (.ref CP) (.type "object") = some true)
    (q5 : PySem.W.findIn K (.ref CP) "__class__" = some (some (.builtin "object.__class__")))
    (q6 : PySem.W.mroIn K CP (.type "object") = some true)
    (ant : PySem.W.nsIn K mainGlobals "nest_text" = some (some (.ref fnt)))
    (lnt : K.lookup fnt = some ⟨ocnt, odnt, .func (PySem.W.fnOf "nest_text" "nest_text" (defArgs sNestText) (defBody sNestText) (defScope sNestText) .none kVnt dcnt pmnt annt cdnt ctnt), slnt⟩)
    (cnt : PySem.W.codeIn K cdnt "nest_text" = true)
    (knt : PySem.W.keepIn K (.ref fnt) = true)
    (am9 : PySem.W.findIn K (.ref CP) "__repr__" = some (some (.ref fm9)))
    (im9 : PySem.W.isFn K (.ref fm9) = true)
    (lm9 : K.lookup fm9 = some ⟨ocm9, odm9, .func (PySem.W.fnOf "__repr__" "Program.__repr__" (defArgs sPRepr) (defBody sPRepr) (defScope sPRepr) .none kVm9 dcm9 pmm9 anm9 cdm9 ctm9), slm9⟩)
    (cm9 : PySem.W.codeIn K cdm9 "Program.__repr__" = true)
    (km9 : PySem.W.keepIn K (.ref fm9) = true)
    (w1N : PySem.W.notFirst K C (.type "NoneType") = true)
    (w1b : PySem.W.notFirst K C (.type "bool") = true)
    (w1i : PySem.W.notFirst K C (.type "int") = true)
    (w1s : PySem.W.notFirst K C (.type "str") = true)
    (w1l : PySem.W.notFirst K C (.type "list") = true)
    (w1t : PySem.W.notFirst K C (.type "tuple") = true)
    (w1D : PySem.W.notFirst K C (.ref CP) = true)
    (u1N : PySem.W.subIn K (.ref C) (.type "NoneType") = some false)
    (u1b : PySem.W.subIn K (.ref C) (.type "bool") = some false)
    (u1i : PySem.W.subIn K (.ref C) (.type "int") = some false)
    (u1s : PySem.W.subIn K (.ref C) (.type "str") = some false)
    (u1l : PySem.W.subIn K (.ref C) (.type "list") = some false)
    (u1t : PySem.W.subIn K (.ref C) (.type "tuple") = some false)
    (y1N : PySem.W.kitOne K (.type "NoneType") (.ref C) = some false)
    (y1b : PySem.W.kitOne K (.type "bool") (.ref C) = some false)
    (y1i : PySem.W.kitOne K (.type "int") (.ref C) = some false)
    (y1s : PySem.W.kitOne K (.type "str") (.ref C) = some false)
    (y1l : PySem.W.kitOne K (.type "list") (.ref C) = some false)
    (y1t : PySem.W.kitOne K (.type "tuple") (.ref C) = some false)
    (y1D : PySem.W.kitOne K (.ref CP) (.ref C) = some false)
    (w2N : PySem.W.notFirst K CP (.type "NoneType") = true)
    (w2b : PySem.W.notFirst K CP (.type "bool") = true)
    (w2i : PySem.W.notFirst K CP (.type "int") = true)
    (w2s : PySem.W.notFirst K CP (.type "str") = true)
    (w2l : PySem.W.notFirst K CP (.type "list") = true)
    (w2t : PySem.W.notFirst K CP (.type "tuple") = true)
    (w2D : PySem.W.notFirst K CP (.ref C) = true)
    (u2N : PySem.W.subIn K (.ref CP) (.type "NoneType") = some false)
    (u2b : PySem.W.subIn K (.ref CP) (.type "bool") = some false)
    (u2i : PySem.W.subIn K (.ref CP) (.type "int") = some false)
    (u2s : PySem.W.subIn K (.ref CP) (.type "str") = some false)
    (u2l : PySem.W.subIn K (.ref CP) (.type "list") = some false)
    (u2t : PySem.W.subIn K (.ref CP) (.type "tuple") = some false)
    (y2N : PySem.W.kitOne K (.type "NoneType") (.ref CP) = some false)
    (y2b : PySem.W.kitOne K (.type "bool") (.ref CP) = some false)
    (y2i : PySem.W.kitOne K (.type "int") (.ref CP) = some false)
    (y2s : PySem.W.kitOne K (.type "str") (.ref CP) = some false)
    (y2l : PySem.W.kitOne K (.type "list") (.ref CP) = some false)
    (y2t : PySem.W.kitOne K (.type "tuple") (.ref CP) = some false)
    (y2D : PySem.W.kitOne K (.ref C) (.ref CP) = some false)
    (aU : PySem.W.nsIn K mainGlobals "_law_number" = some (some (.ref fU)))
    (lU : K.lookup fU = some ⟨ocU, odU, .func (PySem.W.fnOf "_law_number" "_law_number" (defArgs sNumber) (defBody sNumber) (defScope sNumber) .none kVU dcU pmU anU cdU ctU), slU⟩)
    (cU : PySem.W.codeIn K cdU "_law_number" = true)
    (kU : PySem.W.keepIn K (.ref fU) = true)
    (aB : PySem.W.nsIn K mainGlobals "_law_bag" = some (some (.ref fB)))
    (lB : K.lookup fB = some ⟨ocB, odB, .func (PySem.W.fnOf "_law_bag" "_law_bag" (defArgs sBag) (defBody sBag) (defScope sBag) .none kVB dcB pmB anB cdB ctB), slB⟩)
    (cB : PySem.W.codeIn K cdB "_law_bag" = true)
    (kB : PySem.W.keepIn K (.ref fB) = true)
    (aT : PySem.W.nsIn K mainGlobals "_law_take" = some (some (.ref fT)))
    (lT : K.lookup fT = some ⟨ocT, odT, .func (PySem.W.fnOf "_law_take" "_law_take" (defArgs sTake) (defBody sTake) (defScope sTake) .none kVT dcT pmT anT cdT ctT), slT⟩)
    (cT : PySem.W.codeIn K cdT "_law_take" = true)
    (kT : PySem.W.keepIn K (.ref fT) = true)
    (aE : PySem.W.nsIn K mainGlobals "_law_edge_row" = some (some (.ref fE)))
    (lE : K.lookup fE = some ⟨ocE, odE, .func (PySem.W.fnOf "_law_edge_row" "_law_edge_row" (defArgs sEdge) (defBody sEdge) (defScope sEdge) .none kVE dcE pmE anE cdE ctE), slE⟩)
    (cE : PySem.W.codeIn K cdE "_law_edge_row" = true)
    (kE : PySem.W.keepIn K (.ref fE) = true)
    (aW : PySem.W.nsIn K mainGlobals "_law_walk_row" = some (some (.ref fW)))
    (lW : K.lookup fW = some ⟨ocW, odW, .func (PySem.W.fnOf "_law_walk_row" "_law_walk_row" (defArgs sWalkRow) (defBody sWalkRow) (defScope sWalkRow) .none kVW dcW pmW anW cdW ctW), slW⟩)
    (cW : PySem.W.codeIn K cdW "_law_walk_row" = true)
    (kW : PySem.W.keepIn K (.ref fW) = true)
    (aQ : PySem.W.nsIn K mainGlobals "_law_act_row" = some (some (.ref fQ)))
    (lQ : K.lookup fQ = some ⟨ocQ, odQ, .func (PySem.W.fnOf "_law_act_row" "_law_act_row" (defArgs sActRow) (defBody sActRow) (defScope sActRow) .none kVQ dcQ pmQ anQ cdQ ctQ), slQ⟩)
    (cQ : PySem.W.codeIn K cdQ "_law_act_row" = true)
    (kQ : PySem.W.keepIn K (.ref fQ) = true)
    (apg9 : PySem.W.nsIn K mainGlobals "_law_page" = some (some (.ref fpg9)))
    (lpg9 : K.lookup fpg9 = some ⟨ocpg9, odpg9, .func (PySem.W.fnOf "_law_page" "_law_page" (defArgs sPage) (defBody sPage) (defScope sPage) .none kVpg9 dcpg9 pmpg9 anpg9 cdpg9 ctpg9), slpg9⟩)
    (cpg9 : PySem.W.codeIn K cdpg9 "_law_page" = true)
    (kpg9 : PySem.W.keepIn K (.ref fpg9) = true)
    (aV : PySem.W.nsIn K mainGlobals "_law_walk" = some (some (.ref fV)))
    (lV : K.lookup fV = some ⟨ocV, odV, .func (PySem.W.fnOf "_law_walk" "_law_walk" (defArgs sWalk) (defBody sWalk) (defScope sWalk) .none kVV dcV pmV anV cdV ctV), slV⟩)
    (cV : PySem.W.codeIn K cdV "_law_walk" = true)
    (kV : PySem.W.keepIn K (.ref fV) = true)
    (aY : PySem.W.nsIn K mainGlobals "_law_act" = some (some (.ref fY)))
    (lY : K.lookup fY = some ⟨ocY, odY, .func (PySem.W.fnOf "_law_act" "_law_act" (defArgs sAct) (defBody sAct) (defScope sAct) .none kVY dcY pmY anY cdY ctY), slY⟩)
    (cY : PySem.W.codeIn K cdY "_law_act" = true)
    (kY : PySem.W.keepIn K (.ref fY) = true)
    (apr : PySem.W.nsIn K mainGlobals "_law_part" = some (some (.ref fpr)))
    (lpr : K.lookup fpr = some ⟨ocpr, odpr, .func (PySem.W.fnOf "_law_part" "_law_part" (defArgs sPart) (defBody sPart) (defScope sPart) .none kVpr dcpr pmpr anpr cdpr ctpr), slpr⟩)
    (cpr : PySem.W.codeIn K cdpr "_law_part" = true)
    (kpr : PySem.W.keepIn K (.ref fpr) = true)
    (asc9 : PySem.W.nsIn K mainGlobals "_law_scheme" = some (some (.ref fsc9)))
    (lsc9 : K.lookup fsc9 = some ⟨ocsc9, odsc9, .func (PySem.W.fnOf "_law_scheme" "_law_scheme" (defArgs sScheme) (defBody sScheme) (defScope sScheme) .none kVsc9 dcsc9 pmsc9 ansc9 cdsc9 ctsc9), slsc9⟩)
    (csc9 : PySem.W.codeIn K cdsc9 "_law_scheme" = true)
    (ksc9 : PySem.W.keepIn K (.ref fsc9) = true)
    (aM : PySem.W.nsIn K mainGlobals "_law_made_nest" = some (some (.ref fM)))
    (lM : K.lookup fM = some ⟨ocM, odM, .func (PySem.W.fnOf "_law_made_nest" "_law_made_nest" (defArgs sMadeN) (defBody sMadeN) (defScope sMadeN) .none kVM dcM pmM anM cdM ctM), slM⟩)
    (cM : PySem.W.codeIn K cdM "_law_made_nest" = true)
    (kM : PySem.W.keepIn K (.ref fM) = true)
    (amd : PySem.W.nsIn K mainGlobals "_law_made" = some (some (.ref fmd)))
    (lmd : K.lookup fmd = some ⟨ocmd, odmd, .func (PySem.W.fnOf "_law_made" "_law_made" (defArgs sMade) (defBody sMade) (defScope sMade) .none kVmd dcmd pmmd anmd cdmd ctmd), slmd⟩)
    (cmd : PySem.W.codeIn K cdmd "_law_made" = true)
    (kmd : PySem.W.keepIn K (.ref fmd) = true)
    (abu : PySem.W.nsIn K mainGlobals "_law_built" = some (some (.ref fbu)))
    (lbu : K.lookup fbu = some ⟨ocbu, odbu, .func (PySem.W.fnOf "_law_built" "_law_built" (defArgs sBuilt) (defBody sBuilt) (defScope sBuilt) .none kVbu dcbu pmbu anbu cdbu ctbu), slbu⟩)
    (cbu : PySem.W.codeIn K cdbu "_law_built" = true)
    (kbu : PySem.W.keepIn K (.ref fbu) = true)
    (ach : PySem.W.nsIn K mainGlobals "_law_changed_part" = some (some (.ref fch)))
    (lch : K.lookup fch = some ⟨occh, odch, .func (PySem.W.fnOf "_law_changed_part" "_law_changed_part" (defArgs s__law_changed_part) (defBody s__law_changed_part) (defScope s__law_changed_part) .none kVch dcch pmch anch cdch ctch), slch⟩)
    (cch : PySem.W.codeIn K cdch "_law_changed_part" = true)
    (kch : PySem.W.keepIn K (.ref fch) = true)
    (acg : PySem.W.nsIn K mainGlobals "_law_changed" = some (some (.ref fcg)))
    (lcg : K.lookup fcg = some ⟨occg, odcg, .func (PySem.W.fnOf "_law_changed" "_law_changed" (defArgs s__law_changed) (defBody s__law_changed) (defScope s__law_changed) .none kVcg dccg pmcg ancg cdcg ctcg), slcg⟩)
    (ccg : PySem.W.codeIn K cdcg "_law_changed" = true)
    (kcg : PySem.W.keepIn K (.ref fcg) = true)
    (aal : PySem.W.nsIn K mainGlobals "_law_alike" = some (some (.ref fal)))
    (lal : K.lookup fal = some ⟨ocal, odal, .func (PySem.W.fnOf "_law_alike" "_law_alike" (defArgs sAlike) (defBody sAlike) (defScope sAlike) .none kVal dcal pmal anal cdal ctal), slal⟩)
    (cal : PySem.W.codeIn K cdal "_law_alike" = true)
    (kal : PySem.W.keepIn K (.ref fal) = true)
    (aA : PySem.W.nsIn K mainGlobals "_law_pair_right" = some (some (.ref fA)))
    (lA : K.lookup fA = some ⟨ocA, odA, .func (PySem.W.fnOf "_law_pair_right" "_law_pair_right" (defArgs sPair) (defBody sPair) (defScope sPair) .none kVA dcA pmA anA cdA ctA), slA⟩)
    (cA : PySem.W.codeIn K cdA "_law_pair_right" = true)
    (kA : PySem.W.keepIn K (.ref fA) = true)
    (aL : PySem.W.nsIn K mainGlobals "law" = some (some (.ref fL)))
    (lL : K.lookup fL = some ⟨ocL, odL, .func (PySem.W.fnOf "law" "law" (defArgs sLaw) (defBody sLaw) (defScope sLaw) .none kVL dcL pmL anL cdL ctL), slL⟩)
    (cL : PySem.W.codeIn K cdL "law" = true)
    (kL : PySem.W.keepIn K (.ref fL) = true)
    (z_len : PySem.W.nsIn K mainGlobals "len" = some none)
    (z_int : PySem.W.nsIn K mainGlobals "int" = some none)
    (z_abs : PySem.W.nsIn K mainGlobals "abs" = some none)
    (z_divmod : PySem.W.nsIn K mainGlobals "divmod" = some none)
    (z_range : PySem.W.nsIn K mainGlobals "range" = some none)
    (z_isinstance : PySem.W.nsIn K mainGlobals "isinstance" = some none)
    (z_bool : PySem.W.nsIn K mainGlobals "bool" = some none)
    (z_tuple : PySem.W.nsIn K mainGlobals "tuple" = some none)
    (z_str : PySem.W.nsIn K mainGlobals "str" = some none)
    (z_list : PySem.W.nsIn K mainGlobals "list" = some none)
    (z_min : PySem.W.nsIn K mainGlobals "min" = some none)
    (z_max : PySem.W.nsIn K mainGlobals "max" = some none)
    (z_all : PySem.W.nsIn K mainGlobals "all" = some none)
    (z_any : PySem.W.nsIn K mainGlobals "any" = some none)
    (z_sum : PySem.W.nsIn K mainGlobals "sum" = some none)
    (z_sorted : PySem.W.nsIn K mainGlobals "sorted" = some none)
    (z_enumerate : PySem.W.nsIn K mainGlobals "enumerate" = some none)
    (z_set : PySem.W.nsIn K mainGlobals "set" = some none)
    (z_repr : PySem.W.nsIn K mainGlobals "repr" = some none) :
    ∀ base : Heap, FnG P w K mg base 9 fa (spLaw K) := by
  intro base
  have e := hfa.symm.trans (PySem.W.mg_of X G aL)
  cases e
  have T0 : Sq.Bt mg := ⟨(PySem.W.mg_none_of X G z_len), (PySem.W.mg_none_of X G z_int), (PySem.W.mg_none_of X G z_abs), (PySem.W.mg_none_of X G z_divmod), (PySem.W.mg_none_of X G z_range), (PySem.W.mg_none_of X G z_isinstance), (PySem.W.mg_none_of X G z_bool), (PySem.W.mg_none_of X G z_tuple), (PySem.W.mg_none_of X G z_str), (PySem.W.mg_none_of X G z_list), (PySem.W.mg_none_of X G z_min), (PySem.W.mg_none_of X G z_max), (PySem.W.mg_none_of X G z_all), (PySem.W.mg_none_of X G z_any), (PySem.W.mg_none_of X G z_sum), (PySem.W.mg_none_of X G z_sorted), (PySem.W.mg_none_of X G z_enumerate)⟩
  have DB := BndD.of jB xB yB vB
  have DC := CntD.of jC xC yC vC
  have DP := intD_of jP xP yP vP
  have DN := intD_of jN xN yN vN
  have DS : ∀ H, SqT K H tS (cmps.map V.str) := fun H => .inr ⟨_, itS, nmS, jS, rfl, rfl, hS, vS⟩
  have DR : OrdD P w K tR := OrdD.of jR vR xR yR
  have Frl := fun_mk (st := s_read_loop) lrl crl krl
  have brl := Frl.binds (ps := ["value"]) fun _ _ _ _ _ _ us hl => match us, hl with | [_], _ => rfl
  have Brl : FB P w K mg base "read_loop" 1 ["value"] (spReadL K (obs ++ ibs)) := ⟨frl, _, ok_read_loop (P := P) (w := w) (base := base) Frl T0 (PySem.W.mg_of X G dB) DB, (PySem.W.mg_of X G arl), krl, brl⟩
  have Fro := fun_mk (st := s_read_outer_loop) lro cro kro
  have bro := Fro.binds (ps := ["value"]) fun _ _ _ _ _ _ us hl => match us, hl with | [_], _ => rfl
  have Bro : FB P w K mg base "read_outer_loop" 2 ["value"] (spReadL K obs) := ⟨fro, _, ok_read_outer_loop (P := P) (w := w) (base := base) Fro T0 Brl, (PySem.W.mg_of X G aro), kro, bro⟩
  have Ffw := fun_mk (st := s_first_wrong) lfw cfw kfw
  have bfw := Ffw.binds (ps := ["rights", "most"]) fun _ _ _ _ _ _ us hl => match us, hl with | [_, _], _ => rfl
  have Bfw : FB P w K mg base "first_wrong" 1 ["rights", "most"] (spFirst K) := ⟨ffw, _, ok_first_wrong (P := P) (w := w) (base := base) Ffw T0 , (PySem.W.mg_of X G afw), kfw, bfw⟩
  have Frc := fun_mk (st := s_read_condition) lrc crc krc
  have brc := Frc.binds (ps := ["words"]) fun _ _ _ _ _ _ us hl => match us, hl with | [_], _ => rfl
  have Brc : FB P w K mg base "read_condition" 1 ["words"] (spReadC K) := ⟨frc, _, ok_read_condition (P := P) (w := w) (base := base) Frc T0 (PySem.W.mg_of X G dN) DN (PySem.W.mg_of X G dS) DS, (PySem.W.mg_of X G arc), krc, brc⟩
  have Frd := fun_mk (st := s_read_deed) lrd crd krd
  have brd := Frd.binds (ps := ["value"]) fun _ _ _ _ _ _ us hl => match us, hl with | [_], _ => rfl
  have Brd : FB P w K mg base "read_deed" 2 ["value"] (spReadD K) := ⟨frd, _, ok_read_deed (P := P) (w := w) (base := base) Frd T0 (PySem.W.mg_of X G dC) DC (PySem.W.mg_of X G dP) DP (PySem.W.mg_none_of X G z_set) Brc, (PySem.W.mg_of X G ard), krd, brd⟩
  have Fm1 := fun_mk (st := s_NInit) lm1 cm1 km1
  have Fm2 := fun_mk (st := sNLen) lm2 cm2 km2
  have bm2 := Fm2.binds (ps := ["self"]) fun _ _ _ _ _ _ us hl => match us, hl with | [_], _ => rfl
  have Fm3 := fun_mk (st := sNBool) lm3 cm3 km3
  have bm3 := Fm3.binds (ps := ["self"]) fun _ _ _ _ _ _ us hl => match us, hl with | [_], _ => rfl
  have Fm4 := fun_mk (st := sNEq) lm4 cm4 km4
  have bm4 := Fm4.binds (ps := ["self", "other"]) fun _ _ _ _ _ _ us hl => match us, hl with | [_, _], _ => rfl
  have Fg1 := fun_mk (st := sNOuter) lg1 cg1 kg1
  have bg1 := Fg1.binds (ps := ["self"]) fun _ _ _ _ _ _ us hl => match us, hl with | [_], _ => rfl
  have Fg2 := fun_mk (st := sNInner) lg2 cg2 kg2
  have bg2 := Fg2.binds (ps := ["self"]) fun _ _ _ _ _ _ us hl => match us, hl with | [_], _ => rfl
  have Fg3 := fun_mk (st := sNDeeds) lg3 cg3 kg3
  have bg3 := Fg3.binds (ps := ["self"]) fun _ _ _ _ _ _ us hl => match us, hl with | [_], _ => rfl
  have Nc' : Nc K C := ⟨⟨pg, hd, po, sa⟩, nO, nI, nD, nB, nR, nP⟩
  have GR := ok_initR Fm1 Nc' T0 Bro Brl Brd Bfw (PySem.W.mg_of X G dM) (PySem.W.mg_of X G dR) DR
  have Is' : Isn K C := ⟨q1, q2, q3, q4⟩
  have mk1 : Mk K C fm1 := ⟨mk, am1, im1, kc⟩
  have NK : NestK P w K mg base C :=
    { nc := Nc', isn := Is', mN := PySem.W.mg_of X G aC, mks := ⟨fm1, mk1, GR⟩,
      p1 := ⟨pg1, fg1, _, ⟨ag1, sg1, tg1, _, rg1⟩, ok_get1 Fg1 Nc', bg1⟩, p2 := ⟨pg2, fg2, _, ⟨ag2, sg2, tg2, _, rg2⟩, ok_get2 Fg2 Nc', bg2⟩, p3 := ⟨pg3, fg3, _, ⟨ag3, sg3, tg3, _, rg3⟩, ok_get3 Fg3 Nc', bg3⟩,
      len := ⟨fm2, am2, im2, Sq.FnOk.asR (ok_nlen Fm2 Nc' T0) bm2⟩, bool := ⟨fm3, am3, im3, Sq.FnOk.asR (ok_nbool Fm3) bm3⟩, eq := ⟨fm4, am4, im4, Sq.FnOk.asR (ok_neq Fm4 Nc' Is' (PySem.W.mg_of X G aC) T0) bm4⟩ }
  have Fm5 := fun_mk (st := sPInit) lm5 cm5 km5
  have Fg4 := fun_mk (st := sPNests) lg4 cg4 kg4
  have bg4 := Fg4.binds (ps := ["self"]) fun _ _ _ _ _ _ us hl => match us, hl with | [_], _ => rfl
  have Fcm := fun_mk (st := sPRead) lcm ccm kcm
  have bcm := Fcm.binds (ps := ["cls", "text"]) fun _ _ _ _ _ _ us hl => match us, hl with | [_, _], _ => rfl
  have Fbh := fun_mk (st := sBehind) lbh cbh kbh
  have bbh := Fbh.binds (ps := ["start", "row"]) fun _ _ _ _ _ _ us hl => match us, hl with | [_, _], _ => rfl
  have Frb := fun_mk (st := sRowsBy) lrb crb krb
  have brb := Frb.binds (ps := ["text"]) fun _ _ _ _ _ _ us hl => match us, hl with | [_], _ => rfl
  have Fno := fun_mk (st := sNestOf) lno cno kno
  have bno := Fno.binds (ps := ["rows"]) fun _ _ _ _ _ _ us hl => match us, hl with | [_], _ => rfl
  have T : Bt mg := ⟨(PySem.W.mg_none_of X G z_len), (PySem.W.mg_none_of X G z_int), (PySem.W.mg_none_of X G z_abs), (PySem.W.mg_none_of X G z_divmod), (PySem.W.mg_none_of X G z_range)⟩
  have Kc : Ck K mg := ⟨(PySem.W.mg_none_of X G z_isinstance), (PySem.W.mg_none_of X G z_str)⟩
  have Pc' : Pc K CP := ⟨⟨pgq, hdq, poq, saq⟩, nNq⟩
  have mk2' : Mk K CP fm5 := ⟨mkq, am5, im5, kcq⟩
  have KF : Kn P w K mg base "first_wrong" 1 ["rights", "most"] (spFirst K) := let ⟨f, fd, G, hm, kk, b⟩ := Bfw.ex; ⟨f, fd, hm, kk, b, G⟩
  have Gbh := ok_behind (P := P) (w := w) (K := K) (mg := mg) (base := base) Fbh
  have Grb := ok_rowsBy (P := P) (w := w) (K := K) (base := base) Frb (PySem.W.mg_of X G dOS)
  have R : Rd1 P w K mg base := ⟨⟨fbh, _, (PySem.W.mg_of X G abh), kbh, bbh, Gbh⟩, ⟨frb, _, (PySem.W.mg_of X G arb), krb, brb, Grb⟩, ⟨_, PySem.W.mg_of X G dOS⟩, ⟨_, PySem.W.mg_of X G dIS⟩, ⟨_, PySem.W.mg_of X G dMN⟩⟩
  have Gno := ok_nestOf Fno T R (PySem.W.mg_of X G aC) mk1 GR
  have Gm5 := ok_pinitR Fm5 Pc' Nc'.cl Is' (PySem.W.mg_of X G aC) Kc R KF
  have Gcm := ok_pread Fcm R Kc ⟨fno, _, (PySem.W.mg_of X G ano), kno, bno, Gno⟩ mk2' Gm5
  have PK : ProgK P w K mg base CP C := ⟨Pc', PySem.W.mg_of X G aCP, ⟨_, pcm, fcm, ⟨e1, e2⟩, ⟨e3, ⟨_, e4⟩, e5⟩, Sq.FnOk.asR Gcm bcm⟩, ⟨pg4, fg4, _, ⟨ag4, sg4, tg4, _, rg4⟩, ok_pnests Fg4 Pc', bg4⟩⟩
  have Fm6 := fun_mk (st := sPStr) lm6 cm6 km6
  have bm6 := Fm6.binds (ps := ["self"]) fun _ _ _ _ _ _ us hl => match us, hl with | [_], _ => rfl
  have Fm7 := fun_mk (st := sPLen) lm7 cm7 km7
  have bm7 := Fm7.binds (ps := ["self"]) fun _ _ _ _ _ _ us hl => match us, hl with | [_], _ => rfl
  have Fm8 := fun_mk (st := sPEq) lm8 cm8 km8
  have bm8 := Fm8.binds (ps := ["self", "other"]) fun _ _ _ _ _ _ us hl => match us, hl with | [_, _], _ => rfl
  have Fnt := fun_mk (st := sNestText) lnt cnt knt
  have bnt := Fnt.binds (ps := ["nest"]) fun _ _ _ _ _ _ us hl => match us, hl with | [_], _ => rfl
  have Gnt := ok_nestText Fnt R NK
  have Gm6 := ok_pstr Fm6 Pc' ⟨fnt, _, (PySem.W.mg_of X G ant), knt, bnt, Gnt⟩
  have Gm7 := ok_plen (P := P) (w := w) (K := K) (mg := mg) (base := base) (C := C) Fm7 Pc' T
  have Gm4 := ok_neq (P := P) (w := w) (base := base) Fm4 Nc' Is' (PySem.W.mg_of X G aC) T0
  have Gm8 := ok_peq Fm8 Pc' ⟨q5, q2, q3, q6⟩ (PySem.W.mg_of X G aCP) Kc Gm4 am4 im4 bm4
  have Fm9 := fun_mk (st := sPRepr) lm9 cm9 km9
  have bm9 := Fm9.binds (ps := ["self"]) fun _ _ _ _ _ _ us hl => match us, hl with | [_], _ => rfl
  have FU := fun_mk (st := sNumber) lU cU kU
  have bU := FU.binds (ps := ["_law_script", "_law_k"]) fun _ _ _ _ _ _ us hl => match us, hl with | [_, _], _ => rfl
  have FB := fun_mk (st := sBag) lB cB kB
  have bB := FB.binds (ps := ["_law_number_here"]) fun _ _ _ _ _ _ us hl => match us, hl with | [_], _ => rfl
  have FT := fun_mk (st := sTake) lT cT kT
  have bT := FT.binds (ps := ["_law_bag_here", "_law_many"]) fun _ _ _ _ _ _ us hl => match us, hl with | [_, _], _ => rfl
  have FE := fun_mk (st := sEdge) lE cE kE
  have bE := FE.binds (ps := ["_law_bound"]) fun _ _ _ _ _ _ us hl => match us, hl with | [_], _ => rfl
  have FW := fun_mk (st := sWalkRow) lW cW kW
  have bW := FW.binds (ps := ["_law_walk_here"]) fun _ _ _ _ _ _ us hl => match us, hl with | [_], _ => rfl
  have FQ := fun_mk (st := sActRow) lQ cQ kQ
  have bQ := FQ.binds (ps := ["_law_act_here"]) fun _ _ _ _ _ _ us hl => match us, hl with | [_], _ => rfl
  have Fpg9 := fun_mk (st := sPage) lpg9 cpg9 kpg9
  have bpg9 := Fpg9.binds (ps := ["_law_plan"]) fun _ _ _ _ _ _ us hl => match us, hl with | [_], _ => rfl
  have FV := fun_mk (st := sWalk) lV cV kV
  have bV := FV.binds (ps := ["_law_bag_here", "_law_deep"]) fun _ _ _ _ _ _ us hl => match us, hl with | [_, _], _ => rfl
  have FY := fun_mk (st := sAct) lY cY kY
  have bY := FY.binds (ps := ["_law_bag_here"]) fun _ _ _ _ _ _ us hl => match us, hl with | [_], _ => rfl
  have Fpr := fun_mk (st := sPart) lpr cpr kpr
  have bpr := Fpr.binds (ps := ["_law_bag_here", "_law_most"]) fun _ _ _ _ _ _ us hl => match us, hl with | [_, _], _ => rfl
  have Fsc9 := fun_mk (st := sScheme) lsc9 csc9 ksc9
  have bsc9 := Fsc9.binds (ps := ["_law_bag_here", "_law_parts", "_law_acts"]) fun _ _ _ _ _ _ us hl => match us, hl with | [_, _, _], _ => rfl
  have FM := fun_mk (st := sMadeN) lM cM kM
  have bM := FM.binds (ps := ["_law_over", "_law_under", "_law_deeds"]) fun _ _ _ _ _ _ us hl => match us, hl with | [_, _, _], _ => rfl
  have Fmd := fun_mk (st := sMade) lmd cmd kmd
  have bmd := Fmd.binds (ps := ["_law_nests"]) fun _ _ _ _ _ _ us hl => match us, hl with | [_], _ => rfl
  have Fbu := fun_mk (st := sBuilt) lbu cbu kbu
  have bbu := Fbu.binds (ps := ["_law_plan"]) fun _ _ _ _ _ _ us hl => match us, hl with | [_], _ => rfl
  have Fch := fun_mk (st := s__law_changed_part) lch cch kch
  have bch := Fch.binds (ps := ["_law_bag_here", "_law_part_here"]) fun _ _ _ _ _ _ us hl => match us, hl with | [_, _], _ => rfl
  have Fcg := fun_mk (st := s__law_changed) lcg ccg kcg
  have bcg := Fcg.binds (ps := ["_law_bag_here", "_law_plan"]) fun _ _ _ _ _ _ us hl => match us, hl with | [_, _], _ => rfl
  have Fal := fun_mk (st := sAlike) lal cal kal
  have bal := Fal.binds (ps := ["_law_one", "_law_two", "_law_due"]) fun _ _ _ _ _ _ us hl => match us, hl with | [_, _, _], _ => rfl
  have FA := fun_mk (st := sPair) lA cA kA
  have bA := FA.binds (ps := ["_law_bag_here"]) fun _ _ _ _ _ _ us hl => match us, hl with | [_], _ => rfl
  have FL := fun_mk (st := sLaw) lL cL kL
  have bL := FL.binds (ps := ["_law_script"]) fun _ _ _ _ _ _ us hl => match us, hl with | [_], _ => rfl
  have Gm9 := ok_prepr (P := P) (w := w) (base := base) Fm9 Pc' T (PySem.W.mg_none_of X G z_sum) NK
  have PY : ProgY P w K mg base CP C := ⟨⟨fm6, am6, im6, Sq.FnOk.asR Gm6 bm6⟩, ⟨fm7, am7, im7, Sq.FnOk.asR Gm7 bm7⟩, ⟨fm9, am9, im9, Sq.FnOk.asR Gm9 bm9⟩⟩
  have six : ∀ {p : String → Prop}, p "NoneType" → p "bool" → p "int" → p "str" → p "list" → p "tuple" → ∀ T ∈ sixT, p T := fun a b c d e f T h => by
    simp only [sixT, List.mem_cons, List.not_mem_nil, or_false] at h
    rcases h with rfl | rfl | rfl | rfl | rfl | rfl
    · exact a
    · exact b
    · exact c
    · exact d
    · exact e
    · exact f
  have O1 : OwnC K C CP := ⟨Nc'.cl, Is', ne, ob, six (p := fun T => PySem.W.notFirst K C (.type T) = true) w1N w1b w1i w1s w1l w1t, w1D, six (p := fun T => PySem.W.subIn K (.ref C) (.type T) = some false) u1N u1b u1i u1s u1l u1t, six (p := fun T => PySem.W.kitOne K (.type T) (.ref C) = some false) y1N y1b y1i y1s y1l y1t, y1D⟩
  have O2 : OwnC K CP C := ⟨Pc'.cl, ⟨q5, q2, q3, q6⟩, ne2, ob2, six (p := fun T => PySem.W.notFirst K CP (.type T) = true) w2N w2b w2i w2s w2l w2t, w2D, six (p := fun T => PySem.W.subIn K (.ref CP) (.type T) = some false) u2N u2b u2i u2s u2l u2t, six (p := fun T => PySem.W.kitOne K (.type T) (.ref CP) = some false) y2N y2b y2i y2s y2l y2t, y2D⟩
  have Z : Eqs P w K mg base C CP := ⟨⟨fm4, _, am4, im4, ok_neq2 Gm4, ok_neqO Fm4 Nc' (PySem.W.mg_of X G aC) Kc, bm4⟩, ⟨fm8, _, am8, im8, ok_peq2 Fm8 Pc' ⟨q5, q2, q3, q6⟩ (PySem.W.mg_of X G aCP) Kc Gm4 am4 im4 bm4, ok_peqO Fm8 Pc' (PySem.W.mg_of X G aCP) Kc Gm4 am4 im4 bm4, bm8⟩, O1, O2⟩
  have GT := Sq.N3.FnOk.draw (ok_take (P := P) (w := w) (K := K) (base := base) FT T)
  have GE := ok_edge (P := P) (w := w) (K := K) (base := base) FE T
  have GW := ok_walkrow FW GE bE kE (PySem.W.mg_of X G aE)
  have GQ := ok_actRow (P := P) (w := w) (K := K) (mg := mg) (base := base) FQ
  have GV := ok_walk FV T ⟨fT, _, (PySem.W.mg_of X G aT), kT, bT, GT⟩
  have GY := ok_act FY T (PySem.W.mg_none_of X G z_list) ⟨fT, _, (PySem.W.mg_of X G aT), kT, bT, GT⟩
  have Gpr := ok_part Fpr T ⟨fT, _, (PySem.W.mg_of X G aT), kT, bT, GT⟩ ⟨fY, _, (PySem.W.mg_of X G aY), kY, bY, GY⟩ ⟨fV, _, (PySem.W.mg_of X G aV), kV, bV, GV⟩
  have Gsc := ok_scheme Fsc9 T ⟨fT, _, (PySem.W.mg_of X G aT), kT, bT, GT⟩ ⟨fpr, _, (PySem.W.mg_of X G apr), kpr, bpr, Gpr⟩
  have Gpg := ok_page Fpg9 ⟨fQ, _, (PySem.W.mg_of X G aQ), kQ, bQ, GQ⟩ ⟨fW, _, (PySem.W.mg_of X G aW), kW, bW, GW⟩
  have GM := ok_madeN FM T (PySem.W.mg_none_of X G z_list) NK
  have Gmd := ok_made Fmd T (PySem.W.mg_of X G aCP) mk2' Gm5
  have Gbu := ok_built Fbu T ⟨fQ, _, (PySem.W.mg_of X G aQ), kQ, bQ, GQ⟩ ⟨fW, _, (PySem.W.mg_of X G aW), kW, bW, GW⟩ ⟨fM, _, (PySem.W.mg_of X G aM), kM, bM, GM⟩ ⟨fmd, _, (PySem.W.mg_of X G amd), kmd, bmd, Gmd⟩
  have Gch := ok_chPart Fch T ⟨fT, _, (PySem.W.mg_of X G aT), kT, bT, GT⟩
  have Gcg := ok_changed Fcg T (PySem.W.mg_none_of X G z_list) ⟨fT, _, (PySem.W.mg_of X G aT), kT, bT, GT⟩ ⟨fsc9, _, (PySem.W.mg_of X G asc9), ksc9, bsc9, Gsc⟩ ⟨fch, _, (PySem.W.mg_of X G ach), kch, bch, Gch⟩
  have Gal := ok_alike Fal bal (PySem.W.mg_none_of X G z_repr) Z
  have GA := ok_pair FA bA T (PySem.W.mg_none_of X G z_repr) (PySem.W.mg_none_of X G z_str) (PySem.W.mg_none_of X G z_min) (PySem.W.mg_none_of X G z_all) PK PY ⟨fsc9, _, (PySem.W.mg_of X G asc9), ksc9, bsc9, Gsc⟩ ⟨fcg, _, (PySem.W.mg_of X G acg), kcg, bcg, Gcg⟩ ⟨fpg9, _, (PySem.W.mg_of X G apg9), kpg9, bpg9, Gpg⟩ ⟨fbu, _, (PySem.W.mg_of X G abu), kbu, bbu, Gbu⟩ ⟨fmd, _, (PySem.W.mg_of X G amd), kmd, bmd, Gmd⟩ Gal kal (PySem.W.mg_of X G aal)
  have GB := ok_bag (P := P) (w := w) (K := K) (base := base) FB T
  have GU := ok_number (P := P) (w := w) (base := base) FU T
  exact ok_law FL bL T (PySem.W.mg_none_of X G z_max) (PySem.W.mg_none_of X G z_min) (PySem.W.mg_none_of X G z_all) NK PK mk2' Gm5 ⟨fB, _, (PySem.W.mg_of X G aB), kB, bB, GB⟩ ⟨fU, _, (PySem.W.mg_of X G aU), kU, bU, GU⟩ Gal kal (PySem.W.mg_of X G aal) GA kA (PySem.W.mg_of X G aA)
end Sq.N3
open PySem PySem.W PyProof.Rows
set_option maxRecDepth 100000 in
set_option maxHeartbeats 0 in
theorem PySem.Challenge.cw_squareloops_k09_nests_and_programs_equal_holds : PySem.Challenge.rw_squareloops_k09_nests_and_programs_equal.Holds := by
  w_on; o_law; k_head; (case hw => w_witness2)
  k_fill
  refine Sq.walkG (l := PySem.Challenge.rw_squareloops_k09_nests_and_programs_equal) (k := 9) (sp := Sq.N3.spLaw) rfl (by decide) rfl ⟨rfl, by decide, by decide⟩ (fun w h Y => PySem.W.kIn_of Y) ?F (fun K H a ns h1 _ h2 => ⟨a, ns, rfl, h2, h1, fun _ => rfl⟩)
  case F =>
    intro w mg fa h KX G hmg base _ _
    refine' Sq.N3.all_mk KX G hmg ?dB ?jB ?yB ?xB ?vB ?dC ?jC ?yC ?xC ?vC ?dP ?jP ?yP ?xP ?vP ?dN ?jN ?yN ?xN ?vN ?dS ?jS ?vS ?hS ?dR ?jR ?vR ?xR ?yR ?dM ?arl ?lrl ?crl ?krl ?aro ?lro ?cro ?kro ?afw ?lfw ?cfw ?kfw ?arc ?lrc ?crc ?krc ?ard ?lrd ?crd ?krd ?aC ?am1 ?im1 ?lm1 ?cm1 ?km1 ?am2 ?im2 ?lm2 ?cm2 ?km2 ?am3 ?im3 ?lm3 ?cm3 ?km3 ?am4 ?im4 ?lm4 ?cm4 ?km4 ?ag1 ?sg1 ?tg1 ?rg1 ?lg1 ?cg1 ?kg1 ?ag2 ?sg2 ?tg2 ?rg2 ?lg2 ?cg2 ?kg2 ?ag3 ?sg3 ?tg3 ?rg3 ?lg3 ?cg3 ?kg3 ?pg ?hd ?po ?sa ?mk ?kc ?nO ?nI ?nD ?nB ?nR ?nP ?q1 ?q2 ?q3 ?q4 ?ne ?ob ?aCP ?am5 ?im5 ?lm5 ?cm5 ?km5 ?ag4 ?sg4 ?tg4 ?rg4 ?lg4 ?cg4 ?kg4 ?e1 ?e2 ?e3 ?e4 ?e5 ?lcm ?ccm ?kcm ?pgq ?hdq ?poq ?saq ?mkq ?kcq ?nNq ?dOS ?dIS ?dMN ?abh ?lbh ?cbh ?kbh ?arb ?lrb ?crb ?krb ?ano ?lno ?cno ?kno ?am6 ?im6 ?lm6 ?cm6 ?km6 ?am7 ?im7 ?lm7 ?cm7 ?km7 ?am8 ?im8 ?lm8 ?cm8 ?km8 ?ne2 ?ob2 ?q5 ?q6 ?ant ?lnt ?cnt ?knt ?am9 ?im9 ?lm9 ?cm9 ?km9 ?w1N ?w1b ?w1i ?w1s ?w1l ?w1t ?w1D ?u1N ?u1b ?u1i ?u1s ?u1l ?u1t ?y1N ?y1b ?y1i ?y1s ?y1l ?y1t ?y1D ?w2N ?w2b ?w2i ?w2s ?w2l ?w2t ?w2D ?u2N ?u2b ?u2i ?u2s ?u2l ?u2t ?y2N ?y2b ?y2i ?y2s ?y2l ?y2t ?y2D ?aU ?lU ?cU ?kU ?aB ?lB ?cB ?kB ?aT ?lT ?cT ?kT ?aE ?lE ?cE ?kE ?aW ?lW ?cW ?kW ?aQ ?lQ ?cQ ?kQ ?apg9 ?lpg9 ?cpg9 ?kpg9 ?aV ?lV ?cV ?kV ?aY ?lY ?cY ?kY ?apr ?lpr ?cpr ?kpr ?asc9 ?lsc9 ?csc9 ?ksc9 ?aM ?lM ?cM ?kM ?amd ?lmd ?cmd ?kmd ?abu ?lbu ?cbu ?kbu ?ach ?lch ?cch ?kch ?acg ?lcg ?ccg ?kcg ?aal ?lal ?cal ?kal ?aA ?lA ?cA ?kA ?aL ?lL ?cL ?kL ?z_len ?z_int ?z_abs ?z_divmod ?z_range ?z_isinstance ?z_bool ?z_tuple ?z_str ?z_list ?z_min ?z_max ?z_all ?z_any ?z_sum ?z_sorted ?z_enumerate ?z_set ?z_repr base
    (case dB => k_is)
    (case jB => k_is)
    (case yB => first | rfl | decide)
    (case xB => repeat (first | exact trivial | refine ⟨⟨_, _, rfl, rfl⟩, ?_⟩))
    (case vB => first | rfl | decide +kernel)
    (case dC => k_is)
    (case jC => k_is)
    (case yC => first | rfl | decide)
    (case xC => repeat (first | exact trivial | refine ⟨⟨_, _, rfl, rfl⟩, ?_⟩))
    (case vC => first | rfl | decide +kernel)
    (case dP => k_is)
    (case jP => k_is)
    (case yP => first | rfl | decide)
    (case xP => repeat (first | exact trivial | refine ⟨⟨_, _, rfl, rfl⟩, ?_⟩))
    (case vP => first | rfl | decide +kernel)
    (case dN => k_is)
    (case jN => k_is)
    (case yN => first | rfl | decide)
    (case xN => repeat (first | exact trivial | refine ⟨⟨_, _, rfl, rfl⟩, ?_⟩))
    (case vN => first | rfl | decide +kernel)
    (case dS => k_is)
    (case jS => k_is)
    (case vS => repeat (first | exact .nil | refine .cons ⟨_, rfl⟩ ?_))
    (case hS => decide)
    (case dR => k_is)
    (case jR => k_is)
    (case vR => first | rfl | decide +kernel)
    (case xR => first | rfl | decide +kernel)
    (case yR => exact ⟨_, _, _, _, rfl⟩)
    (case dM => k_is)
    (case arl => k_is)
    (case lrl => k_is)
    (case crl => k_is)
    (case krl => k_is)
    (case aro => k_is)
    (case lro => k_is)
    (case cro => k_is)
    (case kro => k_is)
    (case afw => k_is)
    (case lfw => k_is)
    (case cfw => k_is)
    (case kfw => k_is)
    (case arc => k_is)
    (case lrc => k_is)
    (case crc => k_is)
    (case krc => k_is)
    (case ard => k_is)
    (case lrd => k_is)
    (case crd => k_is)
    (case krd => k_is)
    (case aC => k_is)
    (case am1 => k_is)
    (case im1 => k_is)
    (case lm1 => k_is)
    (case cm1 => k_is)
    (case km1 => k_is)
    (case am2 => k_is)
    (case im2 => k_is)
    (case lm2 => k_is)
    (case cm2 => k_is)
    (case km2 => k_is)
    (case am3 => k_is)
    (case im3 => k_is)
    (case lm3 => k_is)
    (case cm3 => k_is)
    (case km3 => k_is)
    (case am4 => k_is)
    (case im4 => k_is)
    (case lm4 => k_is)
    (case cm4 => k_is)
    (case km4 => k_is)
    (case ag1 => k_is)
    (case sg1 => k_is)
    (case tg1 => k_is)
    (case rg1 => k_is)
    (case lg1 => k_is)
    (case cg1 => k_is)
    (case kg1 => k_is)
    (case ag2 => k_is)
    (case sg2 => k_is)
    (case tg2 => k_is)
    (case rg2 => k_is)
    (case lg2 => k_is)
    (case cg2 => k_is)
    (case kg2 => k_is)
    (case ag3 => k_is)
    (case sg3 => k_is)
    (case tg3 => k_is)
    (case rg3 => k_is)
    (case lg3 => k_is)
    (case cg3 => k_is)
    (case kg3 => k_is)
    (case pg => k_is)
    (case hd => k_is)
    (case po => k_is)
    (case sa => k_is)
    (case mk => k_is)
    (case kc => k_is)
    (case nO => k_is)
    (case nI => k_is)
    (case nD => k_is)
    (case nB => k_is)
    (case nR => k_is)
    (case nP => k_is)
    (case q1 => k_is)
    (case q2 => k_is)
    (case q3 => k_is)
    (case q4 => k_is)
    (case ne => k_is)
    (case ob => k_is)
    (case aCP => k_is)
    (case am5 => k_is)
    (case im5 => k_is)
    (case lm5 => k_is)
    (case cm5 => k_is)
    (case km5 => k_is)
    (case ag4 => k_is)
    (case sg4 => k_is)
    (case tg4 => k_is)
    (case rg4 => k_is)
    (case lg4 => k_is)
    (case cg4 => k_is)
    (case kg4 => k_is)
    (case e1 => k_is)
    (case e2 => k_is)
    (case e3 => k_is)
    (case e4 => k_is)
    (case e5 => k_is)
    (case lcm => k_is)
    (case ccm => k_is)
    (case kcm => k_is)
    (case pgq => k_is)
    (case hdq => k_is)
    (case poq => k_is)
    (case saq => k_is)
    (case mkq => k_is)
    (case kcq => k_is)
    (case nNq => k_is)
    (case dOS => k_is)
    (case dIS => k_is)
    (case dMN => k_is)
    (case abh => k_is)
    (case lbh => k_is)
    (case cbh => k_is)
    (case kbh => k_is)
    (case arb => k_is)
    (case lrb => k_is)
    (case crb => k_is)
    (case krb => k_is)
    (case ano => k_is)
    (case lno => k_is)
    (case cno => k_is)
    (case kno => k_is)
    (case am6 => k_is)
    (case im6 => k_is)
    (case lm6 => k_is)
    (case cm6 => k_is)
    (case km6 => k_is)
    (case am7 => k_is)
    (case im7 => k_is)
    (case lm7 => k_is)
    (case cm7 => k_is)
    (case km7 => k_is)
    (case am8 => k_is)
    (case im8 => k_is)
    (case lm8 => k_is)
    (case cm8 => k_is)
    (case km8 => k_is)
    (case ne2 => k_is)
    (case ob2 => k_is)
    (case q5 => k_is)
    (case q6 => k_is)
    (case ant => k_is)
    (case lnt => k_is)
    (case cnt => k_is)
    (case knt => k_is)
    (case am9 => k_is)
    (case im9 => k_is)
    (case lm9 => k_is)
    (case cm9 => k_is)
    (case km9 => k_is)
    (case w1N => first | rfl | k_is | kit_is)
    (case w1b => first | rfl | k_is | kit_is)
    (case w1i => first | rfl | k_is | kit_is)
    (case w1s => first | rfl | k_is | kit_is)
    (case w1l => first | rfl | k_is | kit_is)
    (case w1t => first | rfl | k_is | kit_is)
    (case w1D => first | rfl | k_is | kit_is)
    (case u1N => first | rfl | k_is | kit_is)
    (case u1b => first | rfl | k_is | kit_is)
    (case u1i => first | rfl | k_is | kit_is)
    (case u1s => first | rfl | k_is | kit_is)
    (case u1l => first | rfl | k_is | kit_is)
    (case u1t => first | rfl | k_is | kit_is)
    (case y1N => first | rfl | k_is | kit_is)
    (case y1b => first | rfl | k_is | kit_is)
    (case y1i => first | rfl | k_is | kit_is)
    (case y1s => first | rfl | k_is | kit_is)
    (case y1l => first | rfl | k_is | kit_is)
    (case y1t => first | rfl | k_is | kit_is)
    (case y1D => first | rfl | k_is | kit_is)
    (case w2N => first | rfl | k_is | kit_is)
    (case w2b => first | rfl | k_is | kit_is)
    (case w2i => first | rfl | k_is | kit_is)
    (case w2s => first | rfl | k_is | kit_is)
    (case w2l => first | rfl | k_is | kit_is)
    (case w2t => first | rfl | k_is | kit_is)
    (case w2D => first | rfl | k_is | kit_is)
    (case u2N => first | rfl | k_is | kit_is)
    (case u2b => first | rfl | k_is | kit_is)
    (case u2i => first | rfl | k_is | kit_is)
    (case u2s => first | rfl | k_is | kit_is)
    (case u2l => first | rfl | k_is | kit_is)
    (case u2t => first | rfl | k_is | kit_is)
    (case y2N => first | rfl | k_is | kit_is)
    (case y2b => first | rfl | k_is | kit_is)
    (case y2i => first | rfl | k_is | kit_is)
    (case y2s => first | rfl | k_is | kit_is)
    (case y2l => first | rfl | k_is | kit_is)
    (case y2t => first | rfl | k_is | kit_is)
    (case y2D => first | rfl | k_is | kit_is)
    (case aU => k_is)
    (case lU => k_is)
    (case cU => k_is)
    (case kU => k_is)
    (case aB => k_is)
    (case lB => k_is)
    (case cB => k_is)
    (case kB => k_is)
    (case aT => k_is)
    (case lT => k_is)
    (case cT => k_is)
    (case kT => k_is)
    (case aE => k_is)
    (case lE => k_is)
    (case cE => k_is)
    (case kE => k_is)
    (case aW => k_is)
    (case lW => k_is)
    (case cW => k_is)
    (case kW => k_is)
    (case aQ => k_is)
    (case lQ => k_is)
    (case cQ => k_is)
    (case kQ => k_is)
    (case apg9 => k_is)
    (case lpg9 => k_is)
    (case cpg9 => k_is)
    (case kpg9 => k_is)
    (case aV => k_is)
    (case lV => k_is)
    (case cV => k_is)
    (case kV => k_is)
    (case aY => k_is)
    (case lY => k_is)
    (case cY => k_is)
    (case kY => k_is)
    (case apr => k_is)
    (case lpr => k_is)
    (case cpr => k_is)
    (case kpr => k_is)
    (case asc9 => k_is)
    (case lsc9 => k_is)
    (case csc9 => k_is)
    (case ksc9 => k_is)
    (case aM => k_is)
    (case lM => k_is)
    (case cM => k_is)
    (case kM => k_is)
    (case amd => k_is)
    (case lmd => k_is)
    (case cmd => k_is)
    (case kmd => k_is)
    (case abu => k_is)
    (case lbu => k_is)
    (case cbu => k_is)
    (case kbu => k_is)
    (case ach => k_is)
    (case lch => k_is)
    (case cch => k_is)
    (case kch => k_is)
    (case acg => k_is)
    (case lcg => k_is)
    (case ccg => k_is)
    (case kcg => k_is)
    (case aal => k_is)
    (case lal => k_is)
    (case cal => k_is)
    (case kal => k_is)
    (case aA => k_is)
    (case lA => k_is)
    (case cA => k_is)
    (case kA => k_is)
    (case aL => k_is)
    (case lL => k_is)
    (case cL => k_is)
    (case kL => k_is)
    (case z_len => k_is)
    (case z_int => k_is)
    (case z_abs => k_is)
    (case z_divmod => k_is)
    (case z_range => k_is)
    (case z_isinstance => k_is)
    (case z_bool => k_is)
    (case z_tuple => k_is)
    (case z_str => k_is)
    (case z_list => k_is)
    (case z_min => k_is)
    (case z_max => k_is)
    (case z_all => k_is)
    (case z_any => k_is)
    (case z_sum => k_is)
    (case z_sorted => k_is)
    (case z_enumerate => k_is)
    (case z_set => k_is)
    (case z_repr => k_is)
