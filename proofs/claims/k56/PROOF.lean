import PyProof.Rows.All
import Wide.All
import OpenK.AllK
import Wide.FinOn
import HandS.ForMost
import HandS.Star
import HandS.Property
import HandS.OwnEq
import HandS.Wide
import HandS.WideBits
import HandS.Flow
import HandS.Defaults
import HandS.MakeKw
import HandS.MapObj
import HandS.SetFor
import PyProof.Rows.CountFlat
import HandS.Iter
import HandS.Walk
import KE.KDictWalk
import HandS.ListEq
import HandS.More
import HandS.IsInst
import HandS.Text
import HandS.Small
import HandS.Zip
import HandS.Dict
import HandS.Strs
import HandS.SetKeys
import KE.KUnpackStar
import HandS.Conv
import HandS.NoneIn
import PyProof.TupleKey
import PyProof.DictRoadsH
import PyProof.DictKinds
import HandS.StrMore
import HandS.FStr
import HandS.SlotsOwn
import HandS.Comp
import HandS.SetBool
import HandS.TupSets
import HandS.Exc
import HandS.TryMany
import HandS.ExcInit
import HandS.ExcField
import HandS.ExcIs
import HandS.WordsExc
import HandS.ExcOwn
import KE.KExcIs
import HandS.HotCalls
import HandS.ExcCtx
import KE.KTryMore
import HandS.Lambda
import KE.KExcInit
import PyProof.ExcBaseAll.ArithmeticError
import PyProof.ExcBaseAll.LookupError
import HandS.Style
import HandS.TupAny
import HandS.Deep
import KE.OsSort
import PyProof.ReprBulk
import PyProof.Rows.RegStrFacts
import HandS.ClsMeth
import PySem.Challenge.RW_squareloops_k56_whole_rounds_at_all_size
set_option Elab.async false
set_option maxRecDepth 100000
set_option maxHeartbeats 16000000
namespace Sq
open PySem L2 PySem.Spec PyProof.Rows

/-- a promise that is kept where no repr is under way -/
def FnG (P : Program) (w : World) (K : PySem.W.Frag) (mg : Str → Option Value) (base : Heap) (k : Nat) (f : Addr) (sp : Sp) : Prop :=
  ∀ (A : Around) (fr : List Env) (s : Shared) (H : Hp) (us : List Value) (vs : List V) (Q : VK), A.guards = some [] → Room k A →
    Env0 P w K mg base A fr s H → Vals vs us → sp vs H Q E0 → codeAny (model P w) A (.call (.ref f) ⟨us, []⟩) (CR CX0 fr P w H s Q E0) s

section
variable {P : Program} {w : World} {K : PySem.W.Frag} {mg : Str → Option Value} {base : Heap} {k : Nat} {f : Addr} {fd : FuncData} {sp : Sp} {x qual : Str} {st : Stmt} {N ps : List Str}

theorem FnG.of (F : Fun K x qual st f fd) (S : FnScope N ps (defScope st)) (b : Binds K fd ps []) (len : ∀ vs H Q, sp vs H Q E0 → vs.length = ps.length)
    (hbody : ∀ (cdv : Value) (A : Around) (fr : List Env) (s : Shared) (H : Hp) (vs : List V) (Q : VK),
      (A.deeper (envOfC qual (defScope st) s.heap.objs.size f cdv)).guards = some [] →
      Room k (A.deeper (envOfC qual (defScope st) s.heap.objs.size f cdv)) → sp vs H Q E0 →
      ∃ t, PSs (cxOf CX0 P w K mg base N qual (defScope st) f cdv A fr s H E0).nox (defBody st) t ∧
        t { nx := fun _ H' => Q .non H', rt := Q } (L2.start N vs) H) : FnG P w K mg base (k + 1) f sp := by
  intro A fr s H us vs Q hg hr e0 r hs
  obtain ⟨oc, od, kV, doc, pm, an, cdv, ct, osl, rfl, lk, hcd⟩ := F.ex
  have hin : K.In s.heap := e0.mod.kin.keeps fun b o e => (e0.bs b o e).1
  have hl : vs.length = ps.length := len vs H Q hs
  have hu : (us ++ []).length = ps.length := by
    rw [List.append_nil, ← r.length]
    exact hl
  refine StX.run_bnd lk hcd S hr e0 (G := fun vs' H2 => vs' = vs ∧ H2 = H) (fun A' Ex Q' h => ?_) fun s2 H2 vs' hv hr' => ?_
  · have z := b s us hin hu
    rw [List.append_nil] at z
    exact z (model P w) A' Ex Q' (h s H vs us e0 Un.refl rfl (fun _ _ q => q) r hl ⟨rfl, rfl⟩)
  · obtain ⟨e1, e2⟩ := hv
    subst e1 e2
    obtain ⟨t, ht, q⟩ := hbody cdv A fr s2 _ _ Q hg hr' hs
    exact ⟨t, ht.nox, q⟩
theorem FnG.ofR (F : FnR P w K mg base CX0 k f sp) : FnG P w K mg base k f sp := fun A fr s H us vs Q _ hr e0 r h => F A fr s H us vs Q E0 hr e0 r h
end

section
variable {X : Cx} {k : Nat} {f : Addr} {sp : Sp} {x : Str} {p pos : Pos} {e : Expr} {es : List Expr} {t : TA}
theorem run_fnG {pins : List (Addr × Obj)} {σ : L2.St} {H : Hp} {s : Shared} {Q : VK} {us : List Value} {vs : List V} (F : FnG X.prog X.w X.K X.mg X.base k f sp)
    (hg : X.A.guards = some []) (hr : Room k X.A) (I : Inv X pins σ H s) (r : Vals vs us) (h : sp vs H Q E0) :
    wpAny (model X.prog X.w) X.A (call (.ref f) us) (EP X pins σ Q) X.xe s := by
  refine wpAny_call (codeAny_mono (F X.A X.stack s H us vs Q hg hr I.env0 r h) fun z s' hz => ?_)
  match z, hz with
  | .error _, hz => exact False.elim hz
  | .ok (.ret _), hz => exact I.after hz
  | .ok .next, hz => exact False.elim hz
  | .ok .brk, hz => exact False.elim hz
  | .ok .cont, hz => exact False.elim hz
def tCallG (sp : Sp) (t : TA) : TE := fun σ H Q => t σ H fun vs H1 => sp vs H1 Q E0
/-- f(e, ..) by such a promise -/
theorem pe_callG (F : FnG X.prog X.w X.K X.mg X.base k f sp) (hg : X.A.guards = some []) (hr : Room k X.A) (hgl : Gl X x) (hm : X.mg x = some (.ref f))
    (hk : PySem.W.keepIn X.K (.ref f) = true) (ha : PA X (e :: es) t) (hdb : (x == ("__debug__" : Str)) = false := by decide)
    (he : starEach (e :: es) X.env = (false, eval e X.env) :: starEach es X.env := by rfl)
    (hpl : (backTo pos (starEach es X.env)).any (·.1) = false := by rfl) : PE X (.Call (.Name x p) (e :: es) [] pos) (tCallG sp t) := by
  constructor
  intro pins s σ H Q I h
  apply wpAny_Call_Name_kw
  refine ld_glob I hgl hm (PySem.W.callWith_K (h₀ := X.base) I.ok.mod.kin hk ?_ he hpl) hdb
  refine thn (ha.run pos pins s σ H _ I h) ?_
  rintro us s1 ⟨vs, H1, I1, r, q⟩
  exact ⟨I1.kIn, run_fnG F hg hr I1 r q⟩

/-- repr of data: what is shown, exactly -/
def rRepr (K : PySem.W.Frag) : List V → Hp → VK → Prop := fun xs H Q => ∃ (a : Addr) (d : PyData), xs = [.ref a] ∧ Dp K H (.ref a) d ∧ d.showable = true ∧ d.hasDict = false ∧ d.depth ≤ 20 ∧ d.shown.length ≤ sizeLine ∧ Q (.str d.shown) H
theorem call_repr (hg : X.A.guards = some []) (hr : Room k X.A) : CallR X (.builtin "repr") (rRepr X.K) := by
  intro pins s σ H xs us Q I r h
  obtain ⟨a, d, rfl, hd, h1, h2, h3, h4, q⟩ := h
  obtain ⟨u, rfl, r1⟩ := vals1 r
  obtain ⟨as, rd⟩ := Dp.reads I d _ u hd r1
  cases r1
  have hu := hr.units
  refine repr_of_reads' rd h1 (fun z => by rw [h2] at z; cases z) hg (by omega) (fun _ _ z => z) (fun h' u' tk kp => ?_) h4
  exact ⟨.str d.shown, H, I.kept kp, ⟨u', rfl⟩, q⟩
end
end Sq
namespace Sq
open PySem L2 PySem.Spec PyProof.Rows

section
variable {P : Program} {w : World} {K : PySem.W.Frag} {mg mb : Str → Option Value} {k : Nat} {fa a : Addr} {sp : Sp} {s1 : Shared} {vs : List Value} {ns : List Int}
/-- the law's own call, from such a promise of it, over one abstract heap -/
theorem end_core (KX : K.In s1.heap) (hns : s1.heap.Ns mainGlobals mg) (hb : s1.heap.Ns builtinsNs mb) (hbb : ∀ x : Str, x ≠ "__name__" → mb x = bootBuiltins x)
    (hlim : s1.heap.NoLimit) (hg : s1.gens = #[]) (ha : s1.heap.get? a = some { cls := .type "list", data := .seq vs.toArray }) (hr : Room k callerA)
    (F : ∀ base : Heap, K.In base → base.Ns mainGlobals mg → FnG P w K mg base k fa sp)
    (H : Hp) (hO : Only H) (hsp : sp [.ref a] H (fun v _ => v = .bl true) E0) (hok : HOk P w H s1.heap) (hA : ∀ b, H b ≠ none → b = a) (hK : H a ≠ none → K.lookup a = none) :
    codeAny (model P w) callerA (.call (.ref fa) ⟨[.ref a], []⟩) (fun r s' => r = .ok (.ret (.bool true)) ∧ OldK s1.heap s'.heap ∧ s'.os = s1.os ∧ AllBare s'.gens) s1 := by
  have free : ∀ {b : Addr} {o : Obj}, s1.heap.get? b = some o → o ≠ { cls := .type "list", data := .seq vs.toArray } → H b = none := by
    intro b o e n
    refine Classical.byContradiction fun q => n ?_
    have eb := hA b q
    rw [eb, ha] at e
    exact (Option.some.inj e).symm
  have ns1 : ∀ {b : Addr} {m : Str → Option Value}, s1.heap.Ns b m → (hidT s1.heap H).Ns b m := by
    rintro b m ⟨o, es, ep, e, d, r⟩
    refine ⟨o, es, ep, hidT_get e (free e fun q => ?_), d, r⟩
    rw [q] at d
    cases d
  have kin : K.In (hidT s1.heap H) := by
    intro b o e
    refine hidT_get (KX b o e) (Classical.byContradiction fun q => ?_)
    have eb := hA b q
    rw [eb] at e q
    rw [hK q] at e
    cases e
  have md : Mod K mg (hidT s1.heap H) := by
    obtain ⟨mc, h1, h2⟩ := hlim
    exact ⟨kin, ns1 hns, ⟨mb, ns1 hb, hbb⟩, ⟨mc, ns1 h1, h2⟩⟩
  have e0 : Env0 P w K mg (hidT s1.heap H) callerA [] s1 H :=
    { frames := rfl, mod := md, bs := fun b o e => of_hidT e, bsz := Nat.le_of_eq (hidT_size _ _), funs := trivial, frf := fun b hb => (by cases hb), hok := hok, bare := .of_eq hg }
  have run := F _ kin (ns1 hns) callerA [] s1 H [.ref a] [.ref a] (fun v _ => v = .bl true) rfl hr e0 (.cons rfl .nil) hsp
  refine codeAny_mono run fun r s' h => ?_
  match r, h with
  | .error _, h => exact False.elim h
  | .ok .next, h => exact False.elim h
  | .ok .brk, h => exact False.elim h
  | .ok .cont, h => exact False.elim h
  | .ok (.ret u), h =>
    obtain ⟨v, H', os, bare, un, hok', r', q⟩ := h
    cases (show v = .bl true from q)
    cases (show u = Value.bool true from r')
    refine ⟨rfl, OldK.of_keep fun b o e => ?_, os, bare⟩
    rcases hO b with z | ⟨ob, xs, z⟩
    · exact un.keep b o e z (fun q => by cases q) (fun q => by cases q)
    · have e1 := (hok b _ z).1
      have e2 := (hok' b _ (un.frzs b ob _ z)).1
      exact e2.trans (e1.symm.trans e)

theorem end_call (KX : K.In s1.heap) (hns : s1.heap.Ns mainGlobals mg) (hb : s1.heap.Ns builtinsNs mb) (hbb : ∀ x : Str, x ≠ "__name__" → mb x = bootBuiltins x)
    (hlim : s1.heap.NoLimit) (hg : s1.gens = #[]) (ha : s1.heap.get? a = some { cls := .type "list", data := .seq vs.toArray }) (hi : IntsAre vs ns) (hl : ns.length ≤ sizeLine)
    (hr : Room k callerA) (F : ∀ base : Heap, K.In base → base.Ns mainGlobals mg → FnG P w K mg base k fa sp)
    (hsp : ∀ H : Hp, Only H → SqL K H a (ns.map V.int) → sp [.ref a] H (fun v _ => v = .bl true) E0) :
    codeAny (model P w) callerA (.call (.ref fa) ⟨[.ref a], []⟩) (fun r s' => r = .ok (.ret (.bool true)) ∧ OldK s1.heap s'.heap ∧ s'.os = s1.os ∧ AllBare s'.gens) s1 := by
  have rv := vals_ints hi
  have ez : vs.toArray.size ≤ sizeLine := by
    rw [List.size_toArray, hi.length]
    exact hl
  by_cases hk : K.lookup a = none
  · let H : Hp := fun b => if b = a then some (.frz { cls := .type "list", data := .seq vs.toArray } (.lst (ns.map V.int))) else none
    have at_a : H a = some (.frz { cls := .type "list", data := .seq vs.toArray } (.lst (ns.map V.int))) := if_pos rfl
    have off : ∀ {b : Addr}, b ≠ a → H b = none := fun q => if_neg q
    have only : Only H := fun b => by
      by_cases q : b = a
      · exact .inr ⟨_, _, q ▸ at_a⟩
      · exact .inl (off q)
    refine end_core KX hns hb hbb hlim hg ha hr F H only (hsp H only (.inl (.inr ⟨_, at_a⟩))) (fun b u z => ?_) (fun b z => Classical.byContradiction fun q => z (off q)) fun _ => hk
    by_cases q : b = a
    · subst q
      cases at_a.symm.trans z
      exact ⟨ha, by rw [List.length_map]; exact hl, vs, _, rv, ha⟩
    · cases (off q).symm.trans z
  · obtain ⟨o, ho⟩ := Option.ne_none_iff_exists'.mp hk
    have e := (KX a o ho).symm.trans ha
    cases e
    refine end_core KX hns hb hbb hlim hg ha hr F (fun _ => none) (fun _ => .inl rfl) (hsp _ (fun _ => .inl rfl) (.inr ⟨_, vs.toArray, _, ho, rfl, rfl, rfl, ez, by simpa using rv⟩)) (fun b u z => by cases z) (fun b z => absurd rfl z) fun z => absurd rfl z
end

/-- the goal that k_head leaves, from such a promise of the law -/
theorem walkG {l : PySem.W.OpenLaw} {n k : Nat} {q : Program} {loose : List Str} {XP : (Str → Option Value) → Heap → Prop} {YP : World → Heap → Prop} {d : DefRec} {K : Params → PySem.W.Frag} {sp : PySem.W.Frag → Sp}
    (hn : l.most = some n) (hn2 : n ≤ sizeLine) (hdf : d.params.defaults = []) (hr : Room k callerA) (hY : ∀ (w : World) (h : Heap), YP w h → (K w.params).In h)
    (F : ∀ (w : World) (mg : Str → Option Value) (fa : Addr) (h : Heap), (K w.params).In h → h.Ns mainGlobals mg → mg d.name = some (.ref fa) →
      ∀ base : Heap, (K w.params).In base → base.Ns mainGlobals mg → FnG l.prog w (K w.params) mg base k fa (sp (K w.params)))
    (hsp : ∀ (K : PySem.W.Frag) (H : Hp) (a : Addr) (ns : List Int), ns.length ≤ n → Only H → SqL K H a (ns.map V.int) → sp K [.ref a] H (fun v _ => v = .bl true) E0) :
    PySem.W.WalkO q loose XP YP l.row.toRowW d [] (fun f vs => PySem.call f vs) := by
  refine Att.attach_call hn hdf ?_
  intro w s0 s1 mg mb fa o pm cd doc a vs ns G Y _ _ _ hmg hobj hints hlen hg
  have KX := hY w _ Y
  exact end_call KX G.T.g G.T.b G.T.builtins G.T.nolimit hg hobj hints (Nat.le_trans hlen hn2) hr (F w mg fa _ KX G.T.g hmg) fun H hO hS => hsp _ H a ns hlen hO hS
end Sq
namespace Sq
open PySem L2 PySem.Spec PyProof.Rows
section
variable {prog : Program} {w : World}
theorem meets_boolO (a : Addr) : MeetsIn prog w (Builtin.«bool.__new__» ⟨[.type "bool", .ref a], []⟩)
    (fun A R s => wpAny (model prog w) A.in1 (truthy (.ref a)) (fun b s1 => R (.ok (.ret (.bool b))) s1) (fun e s1 => R (.error e) s1) s) :=
  MeetsIn.of_wp fun A R s h => by
    have f1 := F.conv_sub_bool
    unfold Builtin.«bool.__new__»
    repeat (any_goals (first | assumption | (with_reducible refine wpAny_bind (wpAny_mono h (fun b s1 hb => ?_) fun _ _ z => z)) | wp_step))
    all_goals exact ⟨_, rfl, hb⟩
end
theorem rel1 (a : Addr) : Vals [V.ref a] [Value.ref a] := .cons rfl .nil
theorem rel2 (a b : Addr) : Vals [V.ref a, V.ref b] [Value.ref a, Value.ref b] := .cons rfl (.cons rfl .nil)
section
variable {X : Cx} {k : Nat} {f C : Addr} {sp : Sp}
/-- a def of the text run below the body -/
theorem run_below {A : Around} {pins : List (Addr × Obj)} {σ : L2.St} {H : Hp} {s : Shared} {Q : VK} {us : List Value} {vs : List V} {E : Value → Shared → Prop} (F : FnR X.prog X.w X.K X.mg X.base CX0 k f sp)
    (hr : Room k A) (fr : A.frames = X.A.frames) (I : Inv X pins σ H s) (r : Vals vs us) (h : sp vs H Q E0) :
    wpAny (model X.prog X.w) A (call (.ref f) us) (EP X pins σ Q) E s := by
  have e := I.env0
  have e1 : Env0 X.prog X.w X.K X.mg X.base A X.stack s H := { frames := fr.trans e.frames, mod := e.mod, bs := e.bs, bsz := e.bsz, funs := e.funs, frf := e.frf, hok := e.hok, bare := e.bare }
  refine wpAny_call (codeAny_mono (F A X.stack s H us vs Q E0 hr e1 r h) fun z s' hz => ?_)
  match z, hz with
  | .error _, hz => exact False.elim hz
  | .ok (.ret _), hz => exact I.after hz
  | .ok .next, hz => exact False.elim hz
  | .ok .brk, hz => exact False.elim hz
  | .ok .cont, hz => exact False.elim hz
/-- bool(o), o an instance of a class of the text that has a __bool__ -/
theorem call_boolO (hs : PySem.W.findIn X.K (.ref C) "__bool__" = some (some (.ref f))) (hf : PySem.W.isFn X.K (.ref f) = true) (F : FnR X.prog X.w X.K X.mg X.base CX0 k f sp) (hr : Room (k + 2) X.A) :
    CallR X (.type "bool") (fun xs H Q => ∃ a dx fs, xs = [.ref a] ∧ H a = some (.ins C dx fs) ∧ sp [.ref a] H (fun v H' => ∃ b, v = .bl b ∧ Q (.bl b) H') E0) := by
  intro pins s σ H xs us Q I r h
  obtain ⟨a, dx, fs, rfl, ha, q⟩ := h
  obtain ⟨u, rfl, r1⟩ := vals1 r
  cases r1
  obtain ⟨mA, J, _⟩ := ins_get I.hok ha
  obtain ⟨od, J, _⟩ := J.look
  obtain ⟨m, hF⟩ := I.fr
  refine callType_newIn PySem.F.called_bool PySem.F.newNe_bool (PySem.F.typeCall_bool_1 _) (PySem.F.newCall_bool_1 _) (fun obj => PySem.F.args_object_init_2 obj _) PySem.F.entry_bool_new (meets_boolO a) ?_
  show wpAny (model X.prog X.w) X.A.in1.in1 (truthy (.ref a)) _ _ s
  refine PySem.W.truthy_K hF I.ok.mod.kin J hs hf ?_
  refine wpAny_mono (run_below F hr.in1.in1 rfl I (rel1 a) q) (fun v s' hv => ?_) fun _ _ z => z
  obtain ⟨y, H', I', ry, b, ey, q'⟩ := hv
  subst ey
  cases ry
  exact ⟨PySem.typeIs_bool _ _, ⟨.bl b, H', I', rfl, q'⟩⟩

def rOwn2 (C : Addr) (sp : Sp) (g : Bool → Bool) : R2 := fun x y H Q => ∃ a b dx dy fs gs, x = .ref a ∧ y = .ref b ∧ H a = some (.ins C dx fs) ∧ H b = some (.ins C dy gs) ∧
  sp [.ref a, .ref b] H (fun v H' => ∃ r, v = .bl r ∧ Q (.bl (g r)) H') E0
/-- a == b, both instances of a class of the text with an __eq__ -/
theorem op_eqO (hs : PySem.W.findIn X.K (.ref C) "__eq__" = some (some (.ref f))) (hf : PySem.W.isFn X.K (.ref f) = true) (F : FnR X.prog X.w X.K X.mg X.base CX0 k f sp) (hr : Room k X.A) :
    OpR X (compareOp .Eq) (rOwn2 C sp id) := by
  intro pins s σ H x y v u Q I rx ry h
  obtain ⟨a, b, dx, dy, fs, gs, rfl, rfl, ha, hb, q⟩ := h
  cases rx
  cases ry
  obtain ⟨mA, J, _⟩ := ins_get I.hok ha
  obtain ⟨mB, J', _⟩ := ins_get I.hok hb
  obtain ⟨od, J, _⟩ := J.look
  obtain ⟨od', J', _⟩ := J'.look
  obtain ⟨m, hF⟩ := I.fr
  show wpAny (model X.prog X.w) X.A (richCompare .Eq (.ref a) (.ref b)) _ _ s
  refine PySem.W.cmp_K (op := .Eq) (tb := .ref C) hr.units0 hF I.ok.mod.kin J J'.type (by simp [PySem.W.notFirst]) hs hf ?_
  refine wpAny_mono (run_below F hr rfl I (rel2 a b) q) (fun v s' hv => ?_) fun _ _ z => z
  obtain ⟨y, H', I', ry, r, ey, q'⟩ := hv
  subst ey
  cases ry
  exact ⟨.bl r, H', I', rfl, q'⟩
end
section
variable {M : Model} {A : Around} {E : Value → Shared → Prop} {s : Shared} {K : PySem.W.Frag} {x C : Addr} {ox : Obj} {od : Option Obj}
/-- a method of object's own that a class of the text inherits -/
theorem ifBound_obj {name : Str} {id : String} {args : List Value} {Q : Option Value → Shared → Prop} (S : Slot "object" name id) (X : K.In s.heap) (I : PySem.W.InstAt s.heap x ox C od)
    (hs : PySem.W.findIn K (.ref C) name = some (some (.builtin id))) (h : wpAny M A (call (.builtin id) (.ref x :: args)) (fun v => Q (some v)) E s) :
    wpAny M A (callSpecialIfBound? (.ref x) name args) Q E s := by
  simp only [callSpecialIfBound?, bindSpecialIfBound?]
  refine wpAny_holding (wpAny_bind (wpAny_bind (wpAny_bind (I.type.here ((PySem.W.looks_findIn X hs).here ?_)))))
  simp only [S.bind]
  refine wpAny_bind (wpAny_askSetting (wpAny_ite ?_))
  have go : wpAny M A (call (.builtin id) ([.ref x] ++ args) >>= fun v => pure (some v)) Q E s := wpAny_bind (wpAny_mono h (fun _ _ q => wpAny_pure q) fun _ _ q => q)
  split
  · exact wpAny_bind (wpAny_pure (wpAny_pure go))
  · exact wpAny_tryCatch (wpAny_bind (wpAny_pure (wpAny_pure go)))
end
section
variable {prog : Program} {w : World} {A : Around} {E : Value → Shared → Prop} {s : Shared} {K : PySem.W.Frag} {x C : Addr} {ox : Obj} {od : Option Obj}
theorem checked_ne {y : Value} {Q : Unit → Shared → Prop} (X : K.In s.heap) (I : PySem.W.InstAt s.heap x ox C od) (ho : PySem.W.subIn K (.ref C) (.type "object") = some true) (h : Q () s) :
    wpAny (model prog w) A (checkBuiltinCall "object.__ne__" ⟨[.ref x, y], []⟩) Q E s := by
  simp only [checkBuiltinCall, F.cmpKind_ne, F.cmpSplit_ne]
  unfold isInstance
  refine wpAny_bind (wpAny_bind (I.type.here ((PySem.W.looks_subIn X ho).here ?_)))
  have z := F.cmpArgs_ne (.ref x) y
  cases hsig : Manifest.signature? "object.__ne__" with
  | none => exact wpAny_pure h
  | some sig =>
    simp only [argsOk, hsig] at z
    have z2 : Bind.checkArgs "object.__ne__" sig ⟨[.ref x, y], []⟩ = pure () := z
    show wpAny _ A (Bind.checkArgs "object.__ne__" sig ⟨[.ref x, y], []⟩) Q E s
    rw [z2]
    exact wpAny_pure h
theorem ne_entry {f : Addr} {y : Value} {Q : PySem.Fin → Shared → Prop} (hu : A.units < cLine) (X : K.In s.heap) (I : PySem.W.InstAt s.heap x ox C od) (hs : PySem.W.findIn K (.ref C) "__eq__" = some (some (.ref f)))
    (hf : PySem.W.isFn K (.ref f) = true) (h : wpAny (model prog w) A (call (.ref f) [.ref x, y]) (fun v s' => ∃ b, v = .bool b ∧ Q (.done (.ret (.bool (!b)))) s') E s) :
    wpAny (model prog w) A (Builtin.«object.__ne__» ⟨[.ref x, y], []⟩) Q E s := by
  unfold Builtin.«object.__ne__»
  repeat (first
    | with_reducible refine wpAny_cRoomFor hu ?_
    | (refine wpAny_bind (m := callSpecialIfBound? (.ref x) (Str.ofString "__eq__") [y])
        (PySem.W.ifBound_K X I hs hf (wpAny_mono h (fun r s' hr => by
          obtain ⟨b, rfl, hq⟩ := hr
          repeat (first | exact hq | exact wpAny_pure hq | (refine wpAny_bind (m := truthy (.bool _)) (wpAny_truthy_bool ?_)) | wp_step)) fun _ _ e => e)))
    | wp_step)
theorem rich_ne {f b : Addr} {Q : Value → Shared → Prop} (hu : A.units + 1 < cLine) (X : K.In s.heap) (I : PySem.W.InstAt s.heap x ox C od) (hb : PySem.W.Looks (model prog w) s.heap (typeOf (.ref b)) (.ref C))
    (hn : PySem.W.findIn K (.ref C) "__ne__" = some (some (.builtin "object.__ne__"))) (ho : PySem.W.subIn K (.ref C) (.type "object") = some true)
    (hs : PySem.W.findIn K (.ref C) "__eq__" = some (some (.ref f))) (hf : PySem.W.isFn K (.ref f) = true)
    (h : wpAny (model prog w) A.in1 (call (.ref f) [.ref x, .ref b]) (fun v s' => ∃ r, v = .bool r ∧ Q (.bool (!r)) s') E s) :
    wpAny (model prog w) A (richCompare .NotEq (.ref x) (.ref b)) Q E s := by
  have one : wpAny (model prog w) A (tryCompare (.ref x) "__ne__" (.ref b)) (fun r s' => ∃ z, r = some (.bool z) ∧ Q (.bool z) s') E s := by
    unfold tryCompare
    refine wpAny_bind (ifBound_obj F.cmp_object.ne X I hn (wpAny_call (codeAny_call_builtin F.cmp_object.ne.plain F.cmpEntry_ne (checked_ne X I ho (ne_entry (A := A.in1) hu X I hs hf (wpAny_mono h (fun v s' hv => ?_) fun _ _ z => z))))))
    obtain ⟨r, rfl, q⟩ := hv
    exact ⟨r, rfl, wpAny_pure ⟨_, rfl, q⟩⟩
  unfold richCompare
  simp only [PySem.oneThing_ref]
  refine wpAny_holding (wpAny_bind (wpAny_cRoomFor (Nat.lt_of_succ_lt hu) ?_))
  rw [cmpInfo_NotEq]
  dsimp only
  refine wpAny_bind (I.type.here (wpAny_bind (hb.here ?_)))
  rw [show (Value.ref C != Value.ref C) = false from by simp]
  simp only [Bool.false_eq_true, if_false]
  refine wpAny_bind (wpAny_pure ?_)
  simp only [Bool.false_eq_true, if_false]
  refine wpAny_bind (wpAny_mono one (fun r s' hz => ?_) fun _ _ z => z)
  obtain ⟨z, rfl, q⟩ := hz
  exact wpAny_pure q
end
section
variable {X : Cx} {k : Nat} {f C : Addr} {sp : Sp}
/-- a != b, by the text's __eq__ alone -/
theorem op_neO (hn : PySem.W.findIn X.K (.ref C) "__ne__" = some (some (.builtin "object.__ne__"))) (ho : PySem.W.subIn X.K (.ref C) (.type "object") = some true)
    (hs : PySem.W.findIn X.K (.ref C) "__eq__" = some (some (.ref f))) (hf : PySem.W.isFn X.K (.ref f) = true) (F : FnR X.prog X.w X.K X.mg X.base CX0 k f sp) (hr : Room (k + 1) X.A) :
    OpR X (compareOp .NotEq) (rOwn2 C sp (!·)) := by
  intro pins s σ H x y v u Q I rx ry h
  obtain ⟨a, b, dx, dy, fs, gs, rfl, rfl, ha, hb, q⟩ := h
  cases rx
  cases ry
  obtain ⟨mA, J, _⟩ := ins_get I.hok ha
  obtain ⟨mB, J', _⟩ := ins_get I.hok hb
  obtain ⟨od, J, _⟩ := J.look
  obtain ⟨od', J', _⟩ := J'.look
  show wpAny (model X.prog X.w) X.A (richCompare .NotEq (.ref a) (.ref b)) _ _ s
  refine rich_ne (hu_of hr) I.kIn J J'.type hn ho hs hf ?_
  refine wpAny_mono (run_below F hr.in1 rfl I (rel2 a b) q) (fun v s' hv => ?_) fun _ _ z => z
  obtain ⟨y, H', I', ry, r, ey, q'⟩ := hv
  subst ey
  cases ry
  exact ⟨r, rfl, .bl (!r), H', I', rfl, q'⟩
end
end Sq
namespace Sq
open PySem L2 PySem.Spec PyProof.Rows
/-- the built-ins that the text calls are still so -/
structure Bt (mg : Str → Option Value) : Prop where
  len : mg "len" = none
  int : mg "int" = none
  abs : mg "abs" = none
  divmod : mg "divmod" = none
  range : mg "range" = none
  isinstance : mg "isinstance" = none
  bool : mg "bool" = none
  tuple : mg "tuple" = none
  str : mg "str" = none
  list : mg "list" = none
  min : mg "min" = none
  max : mg "max" = none
  all : mg "all" = none
  any : mg "any" = none
  sum : mg "sum" = none
  sorted : mg "sorted" = none
  enumerate : mg "enumerate" = none
/-- a promise of a top function, with all that a call of it asks -/
structure FB (P : Program) (w : World) (K : PySem.W.Frag) (mg : Str → Option Value) (base : Heap) (x : Str) (k : Nat) (ps : List Str) (sp : Sp) : Prop where
  ex : ∃ (f : Addr) (fd : FuncData), FnOk P w K mg base CX0 k f fd ps sp ∧ mg x = some (.ref f) ∧ PySem.W.keepIn K (.ref f) = true ∧ Binds K fd ps []
section
variable {X : Cx} {j k : Nat} {x : Str} {p pos : Pos} {e : Expr} {es : List Expr} {t : TA} {ps : List Str} {sp : Sp}
theorem pe_fb (F : FB X.prog X.w X.K X.mg X.base x k ps sp) (hr : Room j X.A) (hk : k ≤ j) (hg : Gl X x) (ha : PA X (e :: es) t) (hdb : (x == ("__debug__" : Str)) = false := by decide)
    (he : starEach (e :: es) X.env = (false, eval e X.env) :: starEach es X.env := by rfl) (hpl : (backTo pos (starEach es X.env)).any (·.1) = false := by rfl) :
    PE X (.Call (.Name x p) (e :: es) [] pos) (tCall sp [] E0 t) := by
  obtain ⟨f, fd, G, hm, kk, b⟩ := F.ex
  exact pe_call G (hr.mono hk) hg hm kk b .nil pass0 ha hdb he hpl
theorem pe_fb0 (F : FB X.prog X.w X.K X.mg X.base x k ps sp) (hr : Room j X.A) (hk : k ≤ j) (hg : Gl X x) (hdb : (x == ("__debug__" : Str)) = false := by decide) :
    PE X (.Call (.Name x p) [] [] pos) (tCall sp [] E0 tNil) := by
  obtain ⟨f, fd, G, hm, kk, b⟩ := F.ex
  exact pe_call0 G (hr.mono hk) hg hm kk b .nil pass0 hdb
end
/-! ### list.count of truths -/
def rCntB (K : PySem.W.Frag) : V → List V → Hp → VK → Prop := fun x xs H Q => ∃ (p : Addr) (bs : List Bool) (k : Bool), x = .ref p ∧ xs = [.bl k] ∧ SqL K H p (bs.map V.bl) ∧ Q (.int (bs.count k : Nat)) H
theorem cnt_bools (k : Bool) : ∀ {bs : List Bool} {vs : List Value}, Vals (bs.map V.bl) vs → vs.countP (isBoolOf k) = bs.count k
  | [], _, h => by cases h; rfl
  | b :: r, _, h => by
    cases h with
    | cons r1 rr =>
      cases r1
      rw [List.countP_cons, List.count_cons, cnt_bools k rr]
      cases b <;> cases k <;> rfl
theorem eq_bools (k : Bool) : ∀ {bs : List Bool} {vs : List Value}, Vals (bs.map V.bl) vs → ∀ y, y ∈ vs → ∀ (A : Around) (s : Shared), PySem.SeqAt.EqAt A s y (.bool k) (isBoolOf k y)
  | [], _, h, y, hy, _, _ => by cases h; cases hy
  | b :: r, _, h, y, hy, A, s => by
    cases h with
    | cons r1 rr =>
      cases r1
      rcases List.mem_cons.mp hy with e | hy
      · rw [e]; exact PySem.SeqAt.EqAt.bool_bool b k
      · exact eq_bools k rr y hy A s
theorem mt_bcount {X : Cx} : MtR X "list.count" (rCntB X.K) := by
  intro pins s σ H x xs v us Q I rx rxs h
  obtain ⟨p, bs, k, rfl, rfl, hs, q⟩ := h
  cases rx
  obtain ⟨u, rfl, ru⟩ := rxs.one
  cases ru
  obtain ⟨its, rv, ⟨⟨cls, dd, data, sl⟩, n, ho, hc, hdn, hd⟩, hlen⟩ := I.list hs
  simp only at hc hd
  subst hc hd
  refine call_meets PySem.F.slot_list_count ⟨_, ho, rfl⟩ PySem.F.entry_list_count (PySem.F.args_list_count_2 _ _)
    (PySem.SeqAt.list_countAt p its.toArray n dd sl (.bool k) (isBoolOf k)) ⟨ho, fun y hy => eq_bools k rv y (by simpa using hy) _ _, ?_⟩
  refine ⟨.int (bs.count k : Nat), H, I.tok _, ⟨s.toks, ?_⟩, q⟩
  rw [show its.toArray.toList = its from rfl, cnt_bools k rv]
/-! ### the draws -/
/-- all but what stands at p is as it was -/
def Off (p : Addr) (H H' : Hp) : Prop := ∀ b o, b ≠ p → H b = some o → H' b = some o
theorem Off.trans {p : Addr} {H H1 H2 : Hp} (a : Off p H H1) (b : Off p H1 H2) : Off p H H2 := fun c o n h => b c o n (a c o n h)
theorem Same.off {p : Addr} {H H1 : Hp} (a : Same H H1) : Off p H H1 := fun c o _ h => a c o h
theorem Off.refl {p : Addr} {H : Hp} : Off p H H := fun _ _ _ h => h
theorem same_new {H : Hp} {p : Addr} {o : HO} (h : H p = none) : Same H (upd H p o) := fun b u e => by
  rw [upd_ne (ne_of_none e h)]
  exact e
def PurlAt (H : Hp) (p : Addr) : Prop := ∃ m d : Int, H p = some (.lst [.int m, .int d])
theorem PurlAt.same {H H' : Hp} {p : Addr} (h : PurlAt H p) (s : Same H H') : PurlAt H' p := by
  obtain ⟨m, d, e⟩ := h
  exact ⟨m, d, s _ _ e⟩
def spPurl (K : PySem.W.Frag) : Sp := fun vs H Q _ => ∃ (a : Addr) (ns : List Int) (k : Nat), vs = [.ref a, .int (k : Int)] ∧ SqL K H a (ns.map V.int) ∧ ns.length ≤ 63 ∧ k ≤ 63 ∧
  ∀ p H', H p = none → PurlAt H' p → Same H H' → Q (.ref p) H'
def spDig : Sp := fun vs H Q _ => ∃ (p : Addr) (k : Int), vs = [.ref p, .int k] ∧ PurlAt H p ∧ 0 < k ∧ k < 1073741824 ∧
  ∀ (r : Int) (H' : Hp), 0 ≤ r → r < k → PurlAt H' p → Off p H H' → Q (.int r) H'
def spFar : Sp := fun vs H Q _ => ∃ p : Addr, vs = [.ref p] ∧ PurlAt H p ∧
  ∀ (r : Int) (H' : Hp), 1 ≤ r → r ≤ 1000000000000000000000000000000 → PurlAt H' p → Off p H H' → Q (.int r) H'
theorem nx_seq {t u : TS} {D' : Ends} {rt : VK} {bk ct : L2.St → Hp → Prop} {σ : L2.St} {H : Hp} (h : t { D' with nx := u D' } σ H) : tNext ⟨tSeq t u D', rt, bk, ct⟩ σ H := h
theorem nx_one {t : TS} {D' : Ends} {rt : VK} {bk ct : L2.St → Hp → Prop} {σ : L2.St} {H : Hp} (h : t D' σ H) : tNext ⟨t D', rt, bk, ct⟩ σ H := h
theorem nm_seq {t u : TS} {D' : Ends} {rt : VK} {bk ct : L2.St → Hp → Prop} {σ : L2.St} {H : Hp} {i : Nat} {v : V} (h : t { D' with nx := u D' } (σ.set i (some v)) H) : gName i v σ H (Ends.nx ⟨tSeq t u D', rt, bk, ct⟩) := h
theorem nm_one {t : TS} {D' : Ends} {rt : VK} {bk ct : L2.St → Hp → Prop} {σ : L2.St} {H : Hp} {i : Nat} {v : V} (h : t D' (σ.set i (some v)) H) : gName i v σ H (Ends.nx ⟨t D', rt, bk, ct⟩) := h
theorem pr_seq {t u : TS} {D' : Ends} {rt : VK} {bk ct : L2.St → Hp → Prop} {σ : L2.St} {H : Hp} (h : t { D' with nx := u D' } σ H) : Ends.nx ⟨tSeq t u D', rt, bk, ct⟩ σ H := h
theorem pr_one {t : TS} {D' : Ends} {rt : VK} {bk ct : L2.St → Hp → Prop} {σ : L2.St} {H : Hp} (h : t D' σ H) : Ends.nx ⟨t D', rt, bk, ct⟩ σ H := h
theorem st_of {t : TS} {D : Ends} {σ : L2.St} {H : Hp} (J : L2.St → Hp → Prop) (h : ∀ D' : Ends, (∀ σ' H', J σ' H' → D'.nx σ' H') → t D' σ H) (k : ∀ σ' H', J σ' H' → D.nx σ' H') : t D σ H := h D k
theorem un65 {k : Nat} {A : Around} (h : Room k A) : A.units + 65 < cLine := by
  have := h.un
  omega
theorem gen_of {t : TE} {σ : L2.St} {H : Hp} {Q : VK} (J : V → Hp → Prop) (h : ∀ Q' : VK, (∀ v H', J v H' → Q' v H') → t σ H Q') (k : ∀ v H', J v H' → Q v H') : t σ H Q := h Q k
theorem un1 {k : Nat} {A : Around} (h : Room k A) : A.units + 1 < cLine := by
  have := h.un
  omega
theorem un3 {k : Nat} {A : Around} (h : Room k A) : A.units + 3 < cLine := by
  have := h.un
  omega
theorem nm_q {i : Nat} {v : V} {σ : L2.St} {H : Hp} {Q : L2.St → Hp → Prop} (h : Q (σ.set i (some v)) H) : gName i v σ H Q := h
theorem sq_ {t u : TS} {D : Ends} {σ : L2.St} {H : Hp} (h : t { D with nx := u D } σ H) : tSeq t u D σ H := h
theorem if_ {tc : TT} {t u : TS} {D : Ends} {σ : L2.St} {H : Hp} (h : tc σ H fun b H1 => if b = true then t D σ H1 else u D σ H1) : tIfS tc t u D σ H := h
theorem asg_ {te : TE} {g : TG} {D : Ends} {σ : L2.St} {H : Hp} (h : te σ H fun x H1 => g x σ H1 D.nx) : tAsg te g D σ H := h
theorem ret_ {te : TE} {D : Ends} {σ : L2.St} {H : Hp} (h : te σ H D.rt) : tRet te D σ H := h
theorem val_of {t : TE} {σ : L2.St} {H : Hp} {Q : VK} (v : V) (h : ∀ Q' : VK, Q' v H → t σ H Q') (k : Q v H) : t σ H Q := h Q k
theorem valS_of {t : TE} {σ : L2.St} {H : Hp} {Q : VK} (v : V) (h : ∀ Q' : VK, (∀ H', Same H H' → Q' v H') → t σ H Q') (k : ∀ H', Same H H' → Q v H') : t σ H Q := h Q k
theorem tst_of {t : TT} {σ : L2.St} {H : Hp} {Q : Bool → Hp → Prop} (b : Bool) (h : ∀ Q' : Bool → Hp → Prop, (∀ H', Same H H' → Q' b H') → t σ H Q') (k : ∀ H', Same H H' → Q b H') : t σ H Q := h Q k
theorem sp_eta (sp : Sp) : (fun vs H Q E => sp (vs ++ []) H Q E) = sp := by
  funext vs H Q E
  rw [List.append_nil]
theorem FnOk.asR {P : Program} {w : World} {K : PySem.W.Frag} {mg : Str → Option Value} {base : Heap} {CX : CXT} {k : Nat} {f : Addr} {fd : FuncData} {ps : List Str} {sp : Sp} (F : FnOk P w K mg base CX k f fd ps sp) (b : Binds K fd ps []) : FnR P w K mg base CX k f sp := by
  have z := FnOk.raw F b (dvs := []) .nil
  rw [sp_eta] at z
  exact z
def spRight : Sp := fun vs H Q _ => ∃ p : Addr, vs = [.ref p] ∧ PurlAt H p ∧ ∀ H', Off p H H' → Q (.bl true) H'
def spLaw (K : PySem.W.Frag) : Sp := fun vs H Q _ => ∃ (a : Addr) (ns : List Int), vs = [.ref a] ∧ SqL K H a (ns.map V.int) ∧ ns.length ≤ 63 ∧ ∀ H', Q (.bl true) H'
end Sq
namespace Sq
open PySem PySem.Spec PyProof.Rows GQ
section
variable {prog : Program} {w : World} {A : Around} {E : Value → Shared → Prop} {s : Shared}
/-- a list == a list of another length -/
theorem list_other {l b : Addr} {p q : Array Value} {n1 n2 : Nat} {Q : Value → Shared → Prop} (hu : A.units < cLine) (hl : s.heap.get? l = some { cls := .type "list", data := .seq p n1 }) (hb : s.heap.get? b = some { cls := .type "list", data := .seq q n2 }) (hz : p.size ≠ q.size)
    (h : Q (.bool false) s) : wpAny (model prog w) A (richCompare .Eq (.ref l) (.ref b)) Q E s := by
  refine wpAny_richCompare_same_room (op := .Eq) ⟨_, hl, rfl⟩ ⟨_, hb, rfl⟩ F.slot_list_eq (call_here F.slot_list_eq ⟨_, hl, rfl⟩ F.entry_list_eq (F.args_list_eq_2 _ _) ?_) hu
  have f3 := AutoSeq1.sub_list_list
  obtain ⟨hp, g, d, tk, os⟩ := s
  have ne : (p.size != q.size) = true := by simpa using hz
  wp_walk using wpAny_loadPart' hl, wpAny_loadPart' hb
  exact ⟨(fun e => nomatch e), h⟩
end
end Sq
namespace Sq
open PySem L2 PySem.Spec PyProof.Rows
/-- xs == [] -/
def rNil (K : PySem.W.Frag) : R2 := fun x y H Q => ∃ (a b : Addr) (xs : List V), x = .ref a ∧ y = .ref b ∧ H a = some (.lst xs) ∧ H b = some (.lst []) ∧ Q (.bl (decide (xs.length = 0))) H
theorem op_eqNil {X : Cx} {k : Nat} (hr : Room k X.A) : OpR X (compareOp .Eq) (rNil X.K) := by
  intro pins s σ H x y v u Q I rx ry h
  obtain ⟨a, b, xs, rfl, rfl, ha, hb, q⟩ := h
  cases rx
  cases ry
  obtain ⟨_, its, n, r, g⟩ := (show ObjOk X.prog X.w H s.heap a (.lst xs) from I.hok a _ ha)
  obtain ⟨_, jts, m, r2, g2⟩ := (show ObjOk X.prog X.w H s.heap b (.lst []) from I.hok b _ hb)
  cases r2
  show wpAny (model X.prog X.w) X.A (richCompare .Eq (.ref a) (.ref b)) (EP X pins σ Q) X.xe s
  by_cases hx : xs = []
  · subst hx
    cases r
    have q : Q (.bl true) H := q
    exact GQ.rc_listG hr.units0 (N := 0) (fun _ s' => s' = s) (fun i s' e => by subst e; exact ⟨_, _, _, _, g, g2, rfl, rfl, fun h1 => absurd h1 (Nat.not_lt_zero _)⟩) (fun s' e => by subst e; exact ⟨.bl true, H, I, rfl, q⟩) rfl
  · have hz : xs.length ≠ 0 := fun e => hx (List.length_eq_zero_iff.mp e)
    rw [decide_eq_false hz] at q
    exact list_other hr.units0 g g2 (by rw [List.size_toArray, ← r.length]; exact hz) ⟨.bl false, H, I, rfl, q⟩
end Sq
namespace Sq
open PySem L2 PySem.Spec PyProof.Rows
/-! ### for k in d, d a dict of the written part, whatever its keys are -/
/-- the dict at d is written, plain, and its keys are those values -/
structure WDict (K : PySem.W.Frag) (d : Addr) (es : Array DictEntry) (ep : Nat) (ks : List V) : Prop where
  lk : ∃ o, K.lookup d = some o ∧ o.ExactDict ∧ o.data = .dict es ep
  sys : (d == sysModules) = false
  keys : Vals ks (es.toList.map (·.key))
/-- its keys, one behind the other -/
def Itw (ks : List V) : It := ⟨fun i _ => i < ks.length, fun i H x H' => H' = H ∧ ks[i]? = some x, fun i _ => ks.length ≤ i⟩
theorem walk_kw {ks : List V} : Walk (Itw ks) ks.length (fun _ => True) (YAt ks) :=
  ⟨fun _ _ hi _ => hi, fun _ _ => Nat.le_refl _, fun _ _ _ _ _ _ y => y⟩
section
variable {K : PySem.W.Frag} {d : Addr} {es : Array DictEntry} {ep : Nat} {ks : List V}
theorem WDict.raw (D : WDict K d es ep ks) {h : Heap} (X : K.In h) : h.DictRaw d es ep := by
  obtain ⟨o, l, e, q⟩ := D.lk
  exact ⟨o, X _ _ l, e, q⟩
theorem WDict.len (D : WDict K d es ep ks) : ks.length = es.size := by
  have z := D.keys.length
  rw [List.length_map, Array.length_toList] at z
  exact z
theorem WDict.key (D : WDict K d es ep ks) {i : Nat} (hi : i < es.size) : ∃ x, ks[i]? = some x ∧ RelV x es[i].key := by
  have hk : i < ks.length := by rw [D.len]; exact hi
  refine ⟨ks[i], List.getElem?_eq_getElem hk, ?_⟩
  obtain ⟨u, hu, ru⟩ := D.keys.get (List.getElem?_eq_getElem hk)
  rw [List.getElem?_map, Array.getElem?_toList, Array.getElem?_eq_getElem hi] at hu
  cases hu
  exact ru
theorem turn_kw {P : Program} {w : World} {tg : Expr} (D : WDict K d es ep ks) (it : Addr) : Turn P w K tg (Itw ks) [it] it (fun i h => h.IsKeyIter it d i es.size ep) where
  mem := by simp
  obj := fun i h st b hb => by
    have e : b = it := by simpa using hb
    subst e
    obtain ⟨oi, e, c, dd⟩ := st
    exact ⟨oi, e, fun v z => by rw [dd] at z; cases z⟩
  keep := fun i h h' st k => by
    obtain ⟨oi, e, c⟩ := st
    exact ⟨oi, k it (by simp) _ e, c⟩
  item := by
    intro X hP hw hK hc i pins s σ H E I hf st hg
    subst hP hw hK
    have hi : i < es.size := by rw [← D.len]; exact hg
    obtain ⟨f0, f1, f2, f3, f4, f5⟩ := hf it (by simp)
    obtain ⟨x, hx, rx⟩ := D.key hi
    refine wpAny_pyNext_keys_item_raw st (D.raw I.kIn) hi fun h' st' sb => ?_
    have I1 : Inv X pins σ H { s with heap := h' } := I.turned (t' := s.toks) (fun b ob hb e => (sb.2 b hb).trans e) f0 f1 f3 f4 f5
    obtain ⟨oi, e, c, dd⟩ := id st'
    exact ⟨_, rfl, go_of (s := { s with heap := h' }) e c dd (by decide) ⟨x, H, I1, rx, ⟨rfl, hx⟩, st', fun b hb => (hf b hb).1⟩⟩
  done := by
    intro X hP hw hK hc i pins s σ H E I hf st hg
    subst hP hw hK
    obtain ⟨f0, f1, f2, f3, f4, f5⟩ := hf it (by simp)
    have hge : es.size ≤ i := by rw [← D.len]; exact hg
    exact wpAny_pyNext_keys_end_raw (I.ok.hd hc) st (D.raw I.kIn) hge fun h' eb => ⟨rfl, I.turned (t' := s.toks) (fun b ob hb e => eb b ob hb e) f0 f1 f3 f4 f5⟩
  self := fun A i s Q E st h => wpAny_pyIter_keyiter st h
def iKeysW (d : Addr) (ks : List V) (td : TE) : TI := fun σ H R => td σ H fun x H1 => x = .ref d ∧ R (Itw ks) H1
theorem pi_keysW {X : Cx} {tg e : Expr} {td : TE} (D : WDict X.K d es ep ks) (he : PE X e td) : PI X tg e (iKeysW d ks td) := by
  refine ⟨fun pins s σ H R I h => ?_⟩
  refine thn (he.run pins s σ H _ I h) fun u s1 ⟨x, H1, I1, rx, ex, q⟩ => ?_
  subst ex
  obtain rfl : u = Value.ref d := rx
  refine wpAny_pyIter_dict_raw D.sys (D.raw I1.kIn) ?_
  have st : (s1.heap.push { cls := .type "dict_keyiterator", data := .fields #[.ref d, .int 0 0, .int es.size 0, .int ep 0] }).IsKeyIter s1.heap.objs.size d 0 es.size ep := ⟨_, Heap.get?_push_size _ rfl, rfl, rfl⟩
  exact pi_one (tk := s1.toks) I1 _ (turn_kw D _) st q
end
/-- a written tuple of numbers, told -/
def tupW (K : PySem.W.Frag) (v : Value) : Option (List Int) := match v with
  | .ref a => match K.lookup a with
    | some ⟨.type "tuple", _, .seq its _, _⟩ => its.toList.mapM fun u => match u with | .int i _ => some i | _ => none
    | _ => none
  | _ => none
theorem vals_mapM : ∀ {us : List Value} {is : List Int}, (us.mapM fun u => match u with | .int i _ => some i | _ => none) = some is → Vals (is.map V.int) us
  | [], is, h => by
    cases h
    exact .nil
  | u :: us, is, h => by
    rw [List.mapM_cons] at h
    cases u with
    | int i t =>
      cases e : (us.mapM fun u => match u with | .int i _ => some i | _ => none) with
      | none =>
        rw [e] at h
        cases h
      | some js =>
        rw [e] at h
        cases h
        exact .cons ⟨t, rfl⟩ (vals_mapM e)
    | _ => cases h
theorem tupW_at {K : PySem.W.Frag} {v : Value} {is : List Int} (h : tupW K v = some is) (hl : is.length ≤ 3) : ∃ a, v = .ref a ∧ ∀ H, SqT K H a (is.map V.int) := by
  unfold tupW at h
  split at h
  case h_2 => cases h
  rename_i a
  split at h
  case h_2 => cases h
  rename_i d its n sl e
  have z := vals_mapM h
  refine ⟨a, rfl, fun H => .inr ⟨_, its, n, e, rfl, rfl, ?_, z⟩⟩
  have y := z.length
  rw [List.length_map] at y
  have y2 : its.toList.length = its.size := Array.length_toList
  have h3 : 3 ≤ sizeLine := by decide
  omega
end Sq
namespace Sq
open PySem L2 PySem.Spec PyProof.Rows
/-! ### a written dict with texts as keys, told by a table -/
structure TDict (K : PySem.W.Frag) (w : World) (d : Addr) (tab : List (Str × V)) : Prop where
  ex : ∃ (es : Array DictEntry) (n : Nat), KDict K w d es n ∧ ∀ z : Str, match tab.lookup z with
    | none => PySem.W.nsIn K d z = some none
    | some v => ∃ u, PySem.W.nsIn K d z = some (some u) ∧ RelV v u
def strW (v : Value) : Option Str := match v with
  | .str x _ => some x
  | _ => none
theorem look_es {z : Str} : ∀ {es : List DictEntry} {tab : List (Str × V)}, es.map (fun e => strW e.key) = tab.map (fun q => some q.1) → Vals (tab.map (·.2)) (es.map (·.val)) →
    (es.any (·.refKey) = false) ∧ match tab.lookup z with
    | none => es.find? (fun e => e.key.isStr z) = none
    | some v => ∃ e, es.find? (fun e => e.key.isStr z) = some e ∧ RelV v e.val
  | [], [], _, _ => ⟨rfl, rfl⟩
  | [], _ :: _, h, _ => by cases h
  | _ :: _, [], h, _ => by cases h
  | e :: es, (x, v) :: tab, h, hv => by
    obtain ⟨h1, h2⟩ := List.cons.inj h
    cases hv with
    | cons r1 rr =>
      obtain ⟨i1, i2⟩ := look_es (z := z) h2 rr
      have hk : ∃ t, e.key = .str x t := by
        have h1 : strW e.key = some x := h1
        unfold strW at h1
        split at h1
        · rename_i y t e1
          cases h1
          exact ⟨t, e1⟩
        · cases h1
      obtain ⟨t, hk⟩ := hk
      refine ⟨?_, ?_⟩
      · rw [List.any_cons, i1]
        unfold DictEntry.refKey
        rw [hk]
        rfl
      · by_cases hz : z = x
        · subst hz
          have l : ((z, v) :: tab).lookup z = some v := by simp [List.lookup]
          rw [l]
          have f : (e :: es).find? (fun e => e.key.isStr z) = some e := List.find?_cons_of_pos (by rw [hk]; simp [Value.isStr])
          exact ⟨e, f, r1⟩
        · have zx : (z == x) = false := by simpa using hz
          have l : ((x, v) :: tab).lookup z = tab.lookup z := by simp [List.lookup, zx]
          have f : (e :: es).find? (fun e => e.key.isStr z) = es.find? (fun e => e.key.isStr z) := List.find?_cons_of_neg (by rw [hk]; simp [Value.isStr]; exact fun q => hz q.symm)
          rw [l, f]
          exact i2
theorem TDict.of {K : PySem.W.Frag} {w : World} {d : Addr} {es : Array DictEntry} {n : Nat} {tab : List (Str × V)} (lk : K.lookup d = some ⟨.type "dict", none, .dict es n, #[]⟩) (lit : PySem.W.KeysLit w.params es.toList) (hs : (d == sysModules) = false)
    (hk : es.toList.map (fun e => strW e.key) = tab.map (fun q => some q.1)) (hv : Vals (tab.map (·.2)) (es.toList.map (·.val))) : TDict K w d tab := by
  refine ⟨es, n, ⟨lk, lit, hs⟩, fun z => ?_⟩
  obtain ⟨h1, h2⟩ := look_es (z := z) hk hv
  unfold PySem.W.nsIn
  rw [lk]
  dsimp only
  cases hl : tab.lookup z with
  | none =>
    rw [hl] at h2
    dsimp only at h2 ⊢
    rw [h2, h1]
    rfl
  | some v =>
    rw [hl] at h2
    obtain ⟨e, h3, r⟩ := h2
    dsimp only
    rw [h3]
    exact ⟨_, rfl, r⟩
section
variable {X : Cx} {d : Addr} {tab : List (Str × V)}
def rInT (d : Addr) (tab : List (Str × V)) (g : Bool → Bool) : R2 := fun x y H Q => ∃ z : Str, x = .str z ∧ y = .ref d ∧ Q (.bl (g (tab.lookup z).isSome)) H
theorem op_inT (D : TDict X.K X.w d tab) : OpR X (compareOp .In) (rInT d tab id) := by
  intro pins s σ H x y v u Q I rx ry h
  obtain ⟨z, rfl, rfl, q⟩ := h
  obtain ⟨es, n, kd, hz⟩ := D.ex
  have hz := hz z
  cases hl : tab.lookup z with
  | none =>
    rw [hl] at hz q
    exact op_in_kd kd pins s σ H _ _ v u Q I rx ry ⟨z, none, rfl, rfl, hz, q⟩
  | some v0 =>
    rw [hl] at hz q
    obtain ⟨u0, e, _⟩ := hz
    exact op_in_kd kd pins s σ H _ _ v u Q I rx ry ⟨z, some u0, rfl, rfl, e, q⟩
theorem op_notInT (D : TDict X.K X.w d tab) : OpR X (compareOp .NotIn) (rInT d tab (!·)) := by
  intro pins s σ H x y v u Q I rx ry h
  obtain ⟨z, rfl, rfl, q⟩ := h
  obtain ⟨es, n, kd, hz⟩ := D.ex
  have hz := hz z
  cases hl : tab.lookup z with
  | none =>
    rw [hl] at hz q
    exact op_notIn_kd kd pins s σ H _ _ v u Q I rx ry ⟨z, none, rfl, rfl, hz, q⟩
  | some v0 =>
    rw [hl] at hz q
    obtain ⟨u0, e, _⟩ := hz
    exact op_notIn_kd kd pins s σ H _ _ v u Q I rx ry ⟨z, some u0, rfl, rfl, e, q⟩
def rIxT (d : Addr) (tab : List (Str × V)) : R2 := fun x y H Q => ∃ (z : Str) (v : V), x = .ref d ∧ y = .str z ∧ tab.lookup z = some v ∧ Q v H
theorem ix_T (D : TDict X.K X.w d tab) : IxR X (rIxT d tab) := by
  intro value slice pins s σ H x y v u Q I rx ry h hs
  obtain ⟨z, v0, rfl, rfl, hl, q⟩ := h
  obtain ⟨es, n, kd, hz⟩ := D.ex
  have hz := hz z
  rw [hl] at hz
  obtain ⟨u0, e, r⟩ := hz
  exact ix_kdict value slice pins s σ H _ _ v u Q I rx ry ⟨d, z, v0, rfl, rfl, ⟨es, n, u0, kd.at_, kd.lit, e, r⟩, q⟩ hs
end
/-! ### xs == [x], a list of texts -/
def rOne : R2 := fun x y H Q => ∃ (a b : Addr) (ws : List Str) (z : Str), x = .ref a ∧ y = .ref b ∧ H a = some (.lst (ws.map V.str)) ∧ H b = some (.lst [.str z]) ∧ Q (.bl (decide (ws = [z]))) H
theorem op_eqOne {X : Cx} {k : Nat} (hr : Room k X.A) : OpR X (compareOp .Eq) rOne := by
  intro pins s σ H x y v u Q I rx ry h
  obtain ⟨a, b, ws, z, rfl, rfl, ha, hb, q⟩ := h
  cases rx
  cases ry
  obtain ⟨_, its, n, r, g⟩ := (show ObjOk X.prog X.w H s.heap a (.lst (ws.map V.str)) from I.hok a _ ha)
  obtain ⟨_, jts, m, r2, g2⟩ := (show ObjOk X.prog X.w H s.heap b (.lst [.str z]) from I.hok b _ hb)
  show wpAny (model X.prog X.w) X.A (richCompare .Eq (.ref a) (.ref b)) (EP X pins σ Q) X.xe s
  have lj : jts.length = 1 := r2.length.symm
  by_cases hx : ws.length = 1
  · obtain ⟨y, rfl⟩ : ∃ y, ws = [y] := by
      match ws, hx with
      | [y], _ => exact ⟨y, rfl⟩
    cases r with
    | cons r1 rr =>
      cases rr
      cases r2 with
      | cons r3 rr3 =>
        cases rr3
        refine PySem.SeqAt.rcP_lists (e := fun _ => decide (y = z)) ⟨_, g, rfl, n, rfl⟩ ⟨_, g2, rfl, m, rfl⟩ rfl hr.units0 (fun j h1 h2 => ?_) _ _ ?_
        · have hj : j = 0 := by
            have : j < 1 := h1
            omega
          subst hj
          have e := eqAt_V (A := X.A.in1) (s := s) r1 r3 rfl rfl
          have ev : eqV (.str y) (.str z) = decide (y = z) := by
            show (y == z) = decide (y = z)
            by_cases h : y = z
            · simp [h]
            · simp [h]
          rw [ev] at e
          exact fun E Q q => e _ _ E Q q
        · have : decide ([y] = [z]) = decide (y = z) := by
            by_cases h : y = z
            · simp [h]
            · simp [h]
          rw [this] at q
          refine ⟨_, H, I, ?_, q⟩
          show Value.bool _ = Value.bool _
          simp [List.range_succ]
  · rw [decide_eq_false (fun e => hx (by rw [e]; rfl))] at q
    exact list_other hr.units0 g g2 (by rw [List.size_toArray, List.size_toArray, ← r.length, lj, List.length_map]; exact hx) ⟨.bl false, H, I, rfl, q⟩
end Sq
namespace Sq
open PySem L2 TL
def obs : List Str := ["-1", "0", "1", "n-1", "n", "n+1", "n//2-1", "n//2", "n//2+1", "(n+1)//2-1", "(n+1)//2", "(n+1)//2+1"]
def ibs : List Str := ["i-1", "i", "i+1", "n-i-1", "n-i", "n-i+1"]
def memB (bs : List Str) (a : Str) : Bool := bs.any fun b => b == a
theorem inV_str (a : Str) (bs : List Str) : inV (.str a) (bs.map V.str) = memB bs a := by
  unfold inV memB
  rw [List.any_map]
  rfl
theorem flat_strs (bs : List Str) : (bs.map V.str).all flatV = true := by
  rw [List.all_map, List.all_eq_true]
  intro x _
  rfl
def cutDown (ws : List Str) : List Str := if ws.getLast? = some ("down" : Str) then ws.dropLast else ws
def loopW (bs ws : List Str) : Bool := match ws with
  | [a, b, c] => memB bs a && (decide (b = "to") && memB bs c)
  | _ => false
def loopB (bs : List Str) (z : Str) : Bool := loopW bs (cutDown (Txt.split z " "))
def okLoop (bs : List Str) : V → Bool
  | .str z => loopB bs z
  | _ => false
/-- a value that may be passed where a text is asked for: a text of some length, or no text at all -/
def Any (K : PySem.W.Frag) (H : Hp) (v : V) : Prop := (∃ z : Str, v = .str z ∧ z.length + 2 ≤ sizeLine) ∨ ((∀ z, v ≠ .str z) ∧ ∃ t, TyX K H v t ∧ PySem.W.kitOne K t (.type "str") = some false)
theorem okLoop_no {bs : List Str} {v : V} (h : ∀ z, v ≠ .str z) : okLoop bs v = false := by
  cases v with
  | str z => exact absurd rfl (h z)
  | _ => rfl
theorem spl_ne (S : List Nat) : ∀ (l : List Nat) (k : Nat) (acc : List Nat), spl S k acc l ≠ []
  | [], k, acc => by rw [spl_nil]; exact List.cons_ne_nil _ _
  | c :: r, 0, acc => by
    unfold spl
    split
    · exact List.cons_ne_nil _ _
    · exact spl_ne S r 0 _
  | _ :: r, k + 1, acc => spl_ne S r k acc
theorem kind_one (z y : Str) (h : y.cps.all (· < 256) = true) : ¬ Builtin.Str.strKind z < Builtin.Str.strKind y := by
  have h1 : Builtin.Str.strKind y = 1 := by
    unfold Builtin.Str.strKind
    rw [if_pos h]
  have h2 : 1 ≤ Builtin.Str.strKind z := by
    unfold Builtin.Str.strKind
    split
    · omega
    · split <;> omega
  omega
theorem split_ne (z : Str) : Txt.split z " " ≠ [] := by
  intro e
  have h := split_spl z " " (by decide +kernel) (kind_one z " " (by decide +kernel))
  rw [e] at h
  exact spl_ne _ _ _ _ h.symm
theorem last_of {ws : List Str} (h : ws ≠ []) : ∃ as z, ws = as ++ [z] := ⟨ws.dropLast, ws.getLast h, (List.dropLast_concat_getLast h).symm⟩
theorem sIx_last (n : Nat) (d : Nat) : HT.sIx (n + 1) d (some (-1)) = n := by
  show (if (-1 : Int) < 0 then ((-1 : Int) + ((n + 1 : Nat) : Int)).toNat else min (-1 : Int).toNat (n + 1)) = n
  rw [if_pos (by decide)]
  omega
theorem cut_last (as : List Str) (z : Str) : cutV ((as ++ [z]).map V.str) none (some (-1)) = as.map V.str := by
  unfold cutV
  have e : ((as ++ [z]).map V.str).length = as.length + 1 := by simp
  rw [e, sIx_last, HT.sIx_none, Nat.sub_zero, List.drop_zero, List.map_append, List.take_append_of_le_length (by simp), List.take_of_length_le (by simp)]
/-- the names that the program's checks use -/
structure Ck (K : PySem.W.Frag) (mg : Str → Option Value) : Prop where
  isinstance : mg "isinstance" = none
  str : mg "str" = none
theorem loopW_len (bs : List Str) : ∀ ws : List Str, ws.length ≠ 3 → loopW bs ws = false
  | [], _ => rfl
  | [_], _ => rfl
  | [_, _], _ => rfl
  | [_, _, _], h => absurd rfl h
  | _ :: _ :: _ :: _ :: _, _ => rfl
theorem three_of : ∀ ws : List Str, ws.length = 3 → ∃ a b c, ws = [a, b, c]
  | [a, b, c], _ => ⟨a, b, c, rfl⟩
theorem tyOf_ext {K : PySem.W.Frag} {H H' : Hp} {x : V} {t : Value} (e : Same H H') (h : TyOf K H x t) : TyOf K H' x t := by
  cases h with
  | non => exact .non
  | bl x => exact .bl x
  | int i => exact .int i
  | str x => exact .str x
  | flt x => exact .flt x
  | lst h => exact .lst (e _ _ h)
  | frz h => exact .frz (e _ _ h)
  | tup h => exact .tup (e _ _ h)
  | dK h => exact .dK (e _ _ h)
  | dT h => exact .dT (e _ _ h)
  | ins h c a n k m => exact .ins (e _ _ h) c a n k m
theorem tyX_ext {K : PySem.W.Frag} {H H' : Hp} {x : V} {t : Value} (e : Same H H') (h : TyX K H x t) : TyX K H' x t := by
  cases h
  case base h => exact .base (tyOf_ext e h)
  case byt => exact .byt _
  case set h => exact .set (e _ _ h)
  case kList h c => exact .kList h c
  case kTuple h c => exact .kTuple h c
  case kDict h c => exact .kDict h c
  case fTuple h => exact .fTuple (e _ _ h)
  case fDict h => exact .fDict (e _ _ h)
theorem Any.ext {K : PySem.W.Frag} {H H' : Hp} {v : V} (e : Same H H') (h : Any K H v) : Any K H' v := by
  rcases h with h | ⟨h1, t, h2, h3⟩
  · exact .inl h
  · exact .inr ⟨h1, t, tyX_ext e h2, h3⟩
def fw (i m : Nat) : List Bool → Option Nat
  | [] => none
  | b :: r => if i = m ∨ b = false then some i else fw (i + 1) m r
def optV : Option Nat → V
  | none => .non
  | some i => .int (i : Int)

/-- the bounds: their three numbers -/
def btab : List (Str × Int × Int × Int) := [("-1", 0, 0, -1), ("0", 0, 0, 0), ("1", 0, 0, 1), ("n-1", 1, 0, -1), ("n", 1, 0, 0), ("n+1", 1, 0, 1), ("n//2-1", 2, 0, -1), ("n//2", 2, 0, 0), ("n//2+1", 2, 0, 1), ("(n+1)//2-1", 3, 0, -1), ("(n+1)//2", 3, 0, 0), ("(n+1)//2+1", 3, 0, 1),
  ("i-1", 0, 1, -1), ("i", 0, 1, 0), ("i+1", 0, 1, 1), ("n-i-1", 1, -1, -1), ("n-i", 1, -1, 0), ("n-i+1", 1, -1, 1)]
theorem btab_names : btab.map (·.1) = obs ++ ibs := by decide +kernel
theorem btab_step : ∀ q ∈ btab, decide (q.2.2.1 = 0) = memB obs q.1 := by decide +kernel
/-- the three numbers stand at a -/
def Bd (K : PySem.W.Frag) (a : Addr) (t : Int × Int × Int) : Prop := ∀ H, SqT K H a [.int t.1, .int t.2.1, .int t.2.2]
/-- the written dict of the bounds -/
structure BndD (K : PySem.W.Frag) (w : World) (d : Addr) : Prop where
  ex : ∃ L : List (Str × Addr × Int × Int × Int), TDict K w d (L.map fun q => (q.1, V.ref q.2.1)) ∧ (∀ q ∈ L, Bd K q.2.1 q.2.2) ∧ L.map (fun q => (q.1, q.2.2)) = btab
theorem look_map (L : List (Str × Addr × Int × Int × Int)) (z : Str) : match (L.map fun q => (q.1, V.ref q.2.1)).lookup z with
    | none => ∀ q ∈ L, q.1 ≠ z
    | some v => ∃ q ∈ L, q.1 = z ∧ v = .ref q.2.1 := by
  induction L with
  | nil => exact fun q hq => by cases hq
  | cons q L ih =>
    by_cases h : z = q.1
    · subst h
      have l : ((q :: L).map fun q => (q.1, V.ref q.2.1)).lookup q.1 = some (.ref q.2.1) := by simp [List.lookup]
      rw [l]
      exact ⟨q, List.mem_cons_self .., rfl, rfl⟩
    · have hz : (z == q.1) = false := by simpa using h
      have l : ((q :: L).map fun q => (q.1, V.ref q.2.1)).lookup z = (L.map fun q => (q.1, V.ref q.2.1)).lookup z := by simp [List.lookup, hz]
      rw [l]
      cases e : (L.map fun q => (q.1, V.ref q.2.1)).lookup z with
      | none =>
        rw [e] at ih
        intro r hr
        rcases List.mem_cons.mp hr with rfl | hr
        · exact fun e => h e.symm
        · exact ih r hr
      | some v =>
        rw [e] at ih
        obtain ⟨r, hr, e1, e2⟩ := ih
        exact ⟨r, List.mem_cons_of_mem _ hr, e1, e2⟩
theorem memB_iff {bs : List Str} {a : Str} : memB bs a = true ↔ a ∈ bs := by
  unfold memB
  rw [List.any_eq_true]
  constructor
  · rintro ⟨x, hx, e⟩
    rw [beq_iff_eq] at e
    exact e ▸ hx
  · exact fun h => ⟨a, h, by simp⟩
theorem bnd_none {L : List (Str × Addr × Int × Int × Int)} (h : L.map (fun q => (q.1, q.2.2)) = btab) (z : Str) : ((L.map fun q => (q.1, V.ref q.2.1)).lookup z).isSome = memB (obs ++ ibs) z := by
  have nm : L.map (·.1) = obs ++ ibs := by
    rw [← btab_names, ← h, List.map_map]
    rfl
  have lm := look_map L z
  cases e : (L.map fun q => (q.1, V.ref q.2.1)).lookup z with
  | none =>
    rw [e] at lm
    cases hm : memB (obs ++ ibs) z with
    | false => rfl
    | true =>
      have := memB_iff.mp hm
      rw [← nm] at this
      obtain ⟨q, hq, e2⟩ := List.mem_map.mp this
      exact absurd e2 (lm q hq)
  | some v =>
    rw [e] at lm
    obtain ⟨q, hq, e1, _⟩ := lm
    have : z ∈ obs ++ ibs := by
      rw [← nm, ← e1]
      exact List.mem_map_of_mem hq
    rw [memB_iff.mpr this]
    rfl
theorem bnd_some {K : PySem.W.Frag} {L : List (Str × Addr × Int × Int × Int)} (hb : ∀ q ∈ L, Bd K q.2.1 q.2.2) (h : L.map (fun q => (q.1, q.2.2)) = btab) {z : Str} (m : memB (obs ++ ibs) z = true) :
    ∃ a t, (L.map fun q => (q.1, V.ref q.2.1)).lookup z = some (.ref a) ∧ Bd K a t ∧ (z, t) ∈ btab := by
  have z1 := bnd_none h z
  rw [m] at z1
  have lm := look_map L z
  cases e : (L.map fun q => (q.1, V.ref q.2.1)).lookup z with
  | none =>
    rw [e] at z1
    cases z1
  | some v =>
    rw [e] at lm
    obtain ⟨q, hq, e1, rfl⟩ := lm
    refine ⟨q.2.1, q.2.2, rfl, hb q hq, ?_⟩
    rw [← h, ← e1]
    exact List.mem_map_of_mem (f := fun q : Str × Addr × Int × Int × Int => (q.1, q.2.2)) hq
theorem BndD.of {K : PySem.W.Frag} {w : World} {d : Addr} {es : Array DictEntry} {n : Nat} (lk : K.lookup d = some ⟨.type "dict", none, .dict es n, #[]⟩) (lit : PySem.W.KeysLit w.params es.toList) (hs : (d == sysModules) = false)
    (hk : es.toList.map (fun e => (strW e.key, tupW K e.val)) = btab.map (fun q => (some q.1, some [q.2.1, q.2.2.1, q.2.2.2]))) : BndD K w d := by
  have go : ∀ {es : List DictEntry} {tb : List (Str × Int × Int × Int)}, es.map (fun e => (strW e.key, tupW K e.val)) = tb.map (fun q => (some q.1, some [q.2.1, q.2.2.1, q.2.2.2])) →
      ∃ L : List (Str × Addr × Int × Int × Int), es.map (fun e => strW e.key) = L.map (fun q => some q.1) ∧ Vals (L.map fun q => V.ref q.2.1) (es.map (·.val)) ∧ (∀ q ∈ L, Bd K q.2.1 q.2.2) ∧ L.map (fun q => (q.1, q.2.2)) = tb := by
    intro es
    induction es with
    | nil =>
      intro tb h
      cases tb with
      | nil => exact ⟨[], rfl, .nil, (fun q hq => by cases hq), rfl⟩
      | cons _ _ => cases h
    | cons e es ih =>
      intro tb h
      cases tb with
      | nil => cases h
      | cons q tb =>
        obtain ⟨h1, h2⟩ := List.cons.inj h
        obtain ⟨L, a1, a2, a3, a4⟩ := ih h2
        obtain ⟨k1, k2⟩ := Prod.mk.inj h1
        obtain ⟨a, ea, ha⟩ := tupW_at k2 (Nat.le_refl _)
        refine ⟨(q.1, a, q.2) :: L, ?_, ?_, ?_, ?_⟩
        · rw [List.map_cons, List.map_cons, a1]
          exact congrArg (fun x => x :: _) k1
        · exact .cons (by show RelV (V.ref a) e.val; rw [ea]; rfl) a2
        · intro r hr
          rcases List.mem_cons.mp hr with e2 | hr
          · rw [e2]
            exact ha
          · exact a3 r hr
        · rw [List.map_cons, a4]
  obtain ⟨L, a1, a2, a3, a4⟩ := go hk
  refine ⟨L, TDict.of lk lit hs ?_ ?_, a3, a4⟩
  · rw [a1, List.map_map]
    rfl
  · rw [List.map_map]
    exact a2
theorem cut_drop (l : List Str) (k : Nat) : cutV (l.map V.str) (some (k : Int)) none = (l.drop k).map V.str := by
  unfold cutV
  rw [HT.sIx_none, HT.sIx_nat, List.length_map]
  by_cases h : k ≤ l.length
  · rw [Nat.min_eq_left h, List.take_of_length_le (by rw [List.length_drop, List.length_map]; exact Nat.le_refl _), List.map_drop]
  · rw [Nat.min_eq_right (by omega), Nat.sub_self, List.take_zero, List.drop_eq_nil_of_le (by omega)]
    rfl
end Sq
namespace Sq
open PySem L2 TL
/-- a loop's words, its two bounds as numbers, and whether it descends -/
structure LoopR (z : Str) (t1 t2 : Int × Int × Int) (d : Bool) : Prop where
  words : ∃ w0 w2 : Str, (w0, t1) ∈ btab ∧ (w2, t2) ∈ btab ∧ Txt.split z " " = [w0, "to", w2] ++ (if d = true then [("down" : Str)] else [])
/-- what was read in a loop stands at p -/
def LoopAt (K : PySem.W.Frag) (H : Hp) (p : Addr) (z : Str) : Prop := ∃ a1 a2 t1 t2 d, H p = some (.tup [.ref a1, .ref a2, .int (if d = true then 1 else 0)]) ∧ Bd K a1 t1 ∧ Bd K a2 t2 ∧ LoopR z t1 t2 d
def spReadL (K : PySem.W.Frag) (bs : List Str) : Sp := fun vs H Q _ => ∃ v : V, vs = [v] ∧ Any K H v ∧ (okLoop bs v = false → ∀ H', Same H H' → Q .non H') ∧
  (okLoop bs v = true → ∀ z p H', v = .str z → H p = none → Same H H' → LoopAt K H' p z → Q (.ref p) H')
theorem cut_yes (as : List Str) : cutDown (as ++ [("down" : Str)]) = as := by
  unfold cutDown
  rw [List.getLast?_concat, if_pos rfl, List.dropLast_concat]
theorem cut_no (as : List Str) {z : Str} (h : z ≠ "down") : cutDown (as ++ [z]) = as ++ [z] := by
  unfold cutDown
  rw [List.getLast?_concat, if_neg (fun e => h (Option.some.inj e))]
theorem down_no : memB (obs ++ ibs) "down" = false := by decide +kernel
/-- the words that the program takes for a loop's -/
def rdW (ws : List Str) : Bool := decide (ws.length = 3 + (if ws.drop 3 = [("down" : Str)] then 1 else 0)) && (decide (ws.getD 1 "" = "to") && (memB (obs ++ ibs) (ws.getD 0 "") && memB (obs ++ ibs) (ws.getD 2 "")))
theorem rd_loop : ∀ ws : List Str, ws ≠ [] → loopW (obs ++ ibs) (cutDown ws) = rdW ws
  | [], h => absurd rfl h
  | [a], _ => by
    have e : rdW [a] = false := by simp [rdW]
    rw [e]
    unfold cutDown
    split <;> rfl
  | [a, b], _ => by
    have e : rdW [a, b] = false := by simp [rdW]
    rw [e]
    unfold cutDown
    split <;> rfl
  | [a, b, c], _ => by
    by_cases h : c = "down"
    · subst h
      have e : rdW [a, b, "down"] = false := by simp [rdW, down_no]
      rw [e, show [a, b, ("down" : Str)] = [a, b] ++ [("down" : Str)] from rfl, cut_yes]
      rfl
    · rw [show cutDown [a, b, c] = [a, b, c] from cut_no [a, b] h]
      unfold rdW loopW
      simp
      cases memB (obs ++ ibs) a <;> cases memB (obs ++ ibs) c <;> simp
  | [a, b, c, d], _ => by
    by_cases h : d = "down"
    · subst h
      rw [show cutDown [a, b, c, ("down" : Str)] = [a, b, c] from cut_yes [a, b, c]]
      unfold rdW
      simp [loopW]
      cases memB (obs ++ ibs) a <;> cases memB (obs ++ ibs) c <;> simp
    · rw [show cutDown [a, b, c, d] = [a, b, c, d] from cut_no [a, b, c] h]
      have e : rdW [a, b, c, d] = false := by simp [rdW, h]
      rw [e]
      rfl
  | a :: b :: c :: d :: e :: r, _ => by
    have e1 : rdW (a :: b :: c :: d :: e :: r) = false := by simp [rdW]
    rw [e1]
    refine loopW_len _ _ ?_
    unfold cutDown
    split
    · rw [List.length_dropLast]
      simp
    · simp
theorem ok_rd (z : Str) : okLoop (obs ++ ibs) (.str z) = rdW (Txt.split z " ") := rd_loop _ (split_ne z)
/-- what the words are then -/
theorem rd_words {ws : List Str} (h : rdW ws = true) : ∃ a c : Str, ws = [a, ("to" : Str), c] ++ (if ws.drop 3 = [("down" : Str)] then [("down" : Str)] else []) ∧ memB (obs ++ ibs) a = true ∧ memB (obs ++ ibs) c = true := by
  unfold rdW at h
  simp only [Bool.and_eq_true, decide_eq_true_eq] at h
  obtain ⟨h1, h2, h3, h4⟩ := h
  by_cases hd : ws.drop 3 = [("down" : Str)]
  · rw [if_pos hd] at h1 ⊢
    match ws, h1, hd, h2, h3, h4 with
    | [a, b, c, d], _, hd, h2, h3, h4 =>
      have hd : [d] = [("down" : Str)] := hd
      have h2 : b = "to" := h2
      cases hd
      subst h2
      exact ⟨a, c, rfl, h3, h4⟩
  · rw [if_neg hd] at h1 ⊢
    match ws, h1, hd, h2, h3, h4 with
    | [a, b, c], _, hd, h2, h3, h4 =>
      have h2 : b = "to" := h2
      subst h2
      exact ⟨a, c, rfl, h3, h4⟩
/-- the bounds of an outer loop: those without i -/
theorem outer_step {z : Str} {t1 t2 : Int × Int × Int} {d : Bool} (h : LoopR z t1 t2 d) : okLoop obs (.str z) = (decide (t1.2.1 = 0) && decide (t2.2.1 = 0)) := by
  obtain ⟨w0, w2, m0, m2, hs⟩ := h.words
  have e0 := btab_step _ m0
  have e2 := btab_step _ m2
  simp only at e0 e2
  rw [e0, e2]
  have n2 : w2 ≠ "down" := fun e => by
    have : memB (obs ++ ibs) "down" = true := memB_iff.mpr (by rw [← btab_names, ← e]; exact List.mem_map_of_mem (f := fun q : Str × Int × Int × Int => q.1) m2)
    rw [down_no] at this
    cases this
  show loopW obs (cutDown (Txt.split z " ")) = _
  rw [hs]
  cases d with
  | true =>
    rw [show cutDown ([w0, "to", w2] ++ (if true = true then [("down" : Str)] else [])) = [w0, "to", w2] from cut_yes [w0, "to", w2]]
    show (memB obs w0 && (decide (("to" : Str) = "to") && memB obs w2)) = _
    simp
  | false =>
    rw [show cutDown ([w0, "to", w2] ++ (if false = true then [("down" : Str)] else [])) = [w0, "to", w2] from cut_no [w0, "to"] n2]
    show (memB obs w0 && (decide (("to" : Str) = "to") && memB obs w2)) = _
    simp
theorem outer_inner {v : V} (h : okLoop obs v = true) : okLoop (obs ++ ibs) v = true := by
  cases v with
  | str z =>
    have h : loopW obs (cutDown (Txt.split z " ")) = true := h
    show loopW (obs ++ ibs) (cutDown (Txt.split z " ")) = true
    have up : ∀ a, memB obs a = true → memB (obs ++ ibs) a = true := fun a m => memB_iff.mpr (List.mem_append_left _ (memB_iff.mp m))
    revert h
    generalize cutDown (Txt.split z " ") = ws
    intro h
    match ws, h with
    | [a, b, c], h =>
      have h : (memB obs a && (decide (b = "to") && memB obs c)) = true := h
      show (memB (obs ++ ibs) a && (decide (b = "to") && memB (obs ++ ibs) c)) = true
      simp only [Bool.and_eq_true] at h ⊢
      exact ⟨up _ h.1, h.2.1, up _ h.2.2⟩
  | _ => cases h
theorem set_ {te : TE} {i : Nat} {D : Ends} {σ : L2.St} {H : Hp} (h : te σ H fun x H1 => D.nx (σ.set i (some x)) H1) : tAsg te (gName i) D σ H := h
theorem LoopAt.same {K : PySem.W.Frag} {H H' : Hp} {p : Addr} {z : Str} (h : LoopAt K H p z) (s : Same H H') : LoopAt K H' p z := by
  obtain ⟨a1, a2, t1, t2, d, h1, h2, h3, h4⟩ := h
  exact ⟨a1, a2, t1, t2, d, s _ _ h1, h2, h3, h4⟩
end Sq
namespace Sq
open PySem L2 TL
def top (i : Nat) : Stmt := PySem.Challenge.pw_squareloops_k56_whole_rounds_at_all_size.main.body.getD i (.Pass ⟨0, 0, 0, 0⟩)
section
variable {P : Program} {w : World} {K : PySem.W.Frag} {mg : Str → Option Value} {base : Heap}
abbrev s_read_loop : Stmt := top 15
theorem sc_read_loop : FnScope ["value", "words", "descends"] ["value"] (defScope s_read_loop) := ⟨rfl, rfl, rfl, by decide +kernel, rfl, by decide +kernel, by decide +kernel⟩
theorem ok_read_loop {f : Addr} {fd : FuncData} (F : Fun K "read_loop" "read_loop" s_read_loop f fd) (T : Bt mg) {aB : Addr} (mB : mg "BOUNDS" = some (.ref aB)) (DB : BndD K w aB) : FnOk P w K mg base CX0 1 f fd ["value"] (spReadL K (obs ++ ibs)) := by
  refine F.ok sc_read_loop (fun vs H Q E h => ?_) (fun cdv A outer s H vs Q E hr h => ?_)
  · obtain ⟨v, rfl, _⟩ := h
    rfl
  · obtain ⟨v, rfl, hv, qn, qs⟩ := h
    obtain ⟨LB, D, pB, eB⟩ := DB.ex
    refine ⟨_, (pss_cons (ps_set (i := 1) sc_read_loop.nd rfl (by first | exact .inl rfl | exact .inr rfl) (pe_ifExp (pt_val (pe_callB call_isi (by rfl) T.isinstance (by decide +kernel) (pa_cons (pv 0) (pa_cons (pe_bltn (v := .ty "str") (by rfl) T.str (by decide +kernel) rfl) pa_nil)))) (pe_split (pv 0) pe_str) (pe_lst pa_nil)))
        (pss_cons (ps_set (i := 2) sc_read_loop.nd rfl (by first | exact .inl rfl | exact .inr rfl) (pe_cmpR (op_eqOne hr) (pe_slice sl_list (pv 1) (po_some pe_int) po_none) (pe_lst (pa_cons pe_str pa_nil)) (nomark _)))
        (pss_cons (ps_if (PW.pt (pw_or (pt_cmpR op_ne (pe_callB call_len_seq (by rfl) T.len PySem.boot_len (pa_cons (pv 1) pa_nil)) (pe_op op_add_ib pe_int (pv 2)) (nomark _)) (pw_or (pt_cmpR op_ne (pe_ix ix_list (pv 1) pe_int (fun _ _ => rfl)) pe_str (nomark _)) (pw_or (pt_cmpR (op_notInT D) (pe_ix ix_list (pv 1) pe_int (fun _ _ => rfl)) (pe_glob (v := .ref aB) (by rfl) mB rfl) (by with_unfolding_all rfl)) (pw_or1 (pt_cmpR (op_notInT D) (pe_ix ix_list (pv 1) pe_int (fun _ _ => rfl)) (pe_glob (v := .ref aB) (by rfl) mB rfl) (by with_unfolding_all rfl)))))))
        (pss_one (ps_ret pe_non))
        pss_nil)
        (pss_one (ps_ret (pe_tup (pa_cons (pe_ix (ix_T D) (pe_glob (v := .ref aB) (by rfl) mB rfl) (pe_ix ix_list (pv 1) pe_int (fun _ _ => rfl)) (fun _ _ => rfl)) (pa_cons (pe_ix (ix_T D) (pe_glob (v := .ref aB) (by rfl) mB rfl) (pe_ix ix_list (pv 1) pe_int (fun _ _ => rfl)) (fun _ _ => rfl)) (pa_cons (pe_callTy call_int1 (by rfl) T.int (by decide +kernel) (pa_cons (pv 2) pa_nil)) pa_nil))))))))), ?_⟩
    refine sq_ (set_ (gen_of (fun x H' => ∃ (p : Addr) (ws : List Str), x = .ref p ∧ Same H H' ∧ H' p = some (.lst (ws.map V.str)) ∧ (ws = [] ∧ okLoop (obs ++ ibs) v = false ∨ ∃ z, v = .str z ∧ ws = Txt.split z " ")) (fun Q' k => ?_) ?_))
    · rcases hv with ⟨z, rfl, hz⟩ | ⟨hn, t, ht, hk⟩
      · refine ⟨_, rfl, _, _, .type "str", _, true, rfl, .ty "str", .base (.str z), kit_ty (by decide +kernel), true, rfl, ?_⟩
        refine iteT ?_
        refine ⟨_, rfl, ⟨_, rfl⟩, _, _, rfl, rfl, rfl, hz, fun p np => ?_⟩
        exact k _ _ ⟨p, _, rfl, same_new np, upd_same, .inr ⟨z, rfl, rfl⟩⟩
      · refine ⟨_, rfl, _, _, t, _, false, rfl, .ty "str", ht, hk, false, rfl, ?_⟩
        refine iteF ?_
        refine ⟨Nat.zero_le _, fun p np => ?_⟩
        exact k _ _ ⟨p, [], rfl, same_new np, upd_same, .inl ⟨rfl, okLoop_no hn⟩⟩
    rintro _ H1 ⟨p, ws, rfl, s1, hp, hw⟩
    refine nm_seq (set_ (gen_of (fun x H' => x = .bl (decide (ws.drop 3 = [("down" : Str)])) ∧ Same H1 H') (fun Q' k => ?_) ?_))
    · refine ⟨_, rfl, _, rfl, p, _, rfl, SqL.of hp, fun p2 np2 => ?_⟩
      have s2 := same_new (o := .lst (cutV (ws.map V.str) (some 3) none)) np2
      refine ⟨(by show 1 ≤ sizeLine; decide), fun p3 np3 => ?_⟩
      have s3 := same_new (o := .lst [V.str "down"]) np3
      refine ⟨p2, p3, ws.drop 3, "down", rfl, rfl, ?_, upd_same, ?_⟩
      · rw [← cut_drop ws 3]
        exact s3 _ _ upd_same
      · exact k _ _ ⟨rfl, s2.trans s3⟩
    rintro _ H2 ⟨rfl, s2⟩
    refine nm_seq (if_ ?_)
    have hp2 := s2 _ _ hp
    have sm := s1.trans s2
    have rl : okLoop (obs ++ ibs) v = rdW ws := by
      rcases hw with ⟨e1, e2⟩ | ⟨z, rfl, e1⟩
      · rw [e1, e2]
        rfl
      · rw [e1]
        exact ok_rd z
    have bad : okLoop (obs ++ ibs) v = false → Q .non H2 := fun e => qn e _ sm
    have dd : PyProof.Rows.b2i (decide (ws.drop 3 = [("down" : Str)])) = (((if ws.drop 3 = [("down" : Str)] then 1 else 0) : Nat) : Int) := by
      by_cases h : ws.drop 3 = [("down" : Str)]
      · rw [decide_eq_true h, if_pos h]
        rfl
      · rw [decide_eq_false h, if_neg h]
        rfl
    refine ⟨_, rfl, p, _, rfl, .inl (SqL.of hp2), _, rfl, _, _, rfl, rfl, rfl, _, rfl, ?_⟩
    rw [List.length_map, dd]
    refine ite2 (fun hl => ?_) (fun hl => ?_)
    · refine bad (rl.trans ?_)
      have hl : ¬ ws.length = 3 + (if ws.drop 3 = [("down" : Str)] then 1 else 0) := fun e => by
        rw [e] at hl
        simp at hl
      unfold rdW
      rw [decide_eq_false hl]
      rfl
    have hl : ws.length = 3 + (if ws.drop 3 = [("down" : Str)] then 1 else 0) := by
      refine Classical.byContradiction fun n => hl ?_
      have : ¬ (V.int (ws.length : Int) = V.int (3 + (((if ws.drop 3 = [("down" : Str)] then 1 else 0) : Nat) : Int))) := fun e => n (by have := V.int.inj e; omega)
      simpa using this
    have h3 : 3 ≤ ws.length := by omega
    have g0 : (ws.map V.str)[0]? = some (.str (ws.getD 0 "")) := by rw [List.getElem?_map, List.getD_eq_getElem?_getD, List.getElem?_eq_getElem (by omega)]; rfl
    have g1 : (ws.map V.str)[1]? = some (.str (ws.getD 1 "")) := by rw [List.getElem?_map, List.getD_eq_getElem?_getD, List.getElem?_eq_getElem (by omega)]; rfl
    have g2 : (ws.map V.str)[2]? = some (.str (ws.getD 2 "")) := by rw [List.getElem?_map, List.getD_eq_getElem?_getD, List.getElem?_eq_getElem (by omega)]; rfl
    have rl2 : rdW ws = (decide (ws.getD 1 "" = "to") && (memB (obs ++ ibs) (ws.getD 0 "") && memB (obs ++ ibs) (ws.getD 2 ""))) := by
      unfold rdW
      rw [decide_eq_true hl, Bool.true_and]
    rw [rl2] at rl
    refine ⟨_, rfl, p, _, 1, _, rfl, rfl, SqL.of hp2, atI_nat g1, rfl, _, rfl, ?_⟩
    refine ite2 (fun ht => ?_) (fun ht => ?_)
    · refine bad (rl.trans ?_)
      have ht : ¬ ws.getD 1 "" = "to" := fun e => by
        rw [e] at ht
        simp at ht
      rw [decide_eq_false ht]
      rfl
    have ht : ws.getD 1 "" = "to" := by
      refine Classical.byContradiction fun n => ht ?_
      have : ¬ (V.str (ws.getD 1 "") = V.str "to") := fun e => n (V.str.inj e)
      simpa using this
    rw [decide_eq_true ht, Bool.true_and] at rl
    refine ⟨_, rfl, p, _, 0, _, rfl, rfl, SqL.of hp2, atI_nat g0, _, rfl, rfl, _, rfl, ?_⟩
    rw [bnd_none eB]
    cases m0 : memB (obs ++ ibs) (ws.getD 0 "") with
    | false =>
      refine iteT (bad (rl.trans ?_))
      rw [m0]
      rfl
    | true =>
    refine iteF ?_
    refine ⟨_, rfl, p, _, 2, _, rfl, rfl, SqL.of hp2, atI_nat g2, _, rfl, rfl, _, rfl, ?_⟩
    rw [bnd_none eB]
    cases m2 : memB (obs ++ ibs) (ws.getD 2 "") with
    | false =>
      refine iteT (bad (rl.trans ?_))
      rw [m0, m2]
      rfl
    | true =>
    refine iteF ?_
    obtain ⟨a1, t1, l1, b1, i1⟩ := bnd_some pB eB m0
    obtain ⟨a2, t2, l2, b2, i2⟩ := bnd_some pB eB m2
    refine ⟨_, rfl, p, _, 0, _, rfl, rfl, SqL.of hp2, atI_nat g0, _, _, rfl, rfl, l1, ?_⟩
    refine ⟨_, rfl, p, _, 2, _, rfl, rfl, SqL.of hp2, atI_nat g2, _, _, rfl, rfl, l2, ?_⟩
    refine ⟨_, rfl, .inr ⟨_, rfl, ?_⟩⟩
    refine ⟨(by show 3 ≤ sizeLine; decide), fun t nt => ?_⟩
    rw [m0, m2] at rl
    have st := same_new (o := .tup [.ref a1, .ref a2, .int (if decide (ws.drop 3 = [("down" : Str)]) = true then 1 else 0)]) nt
    have nH : H t = none := by
      cases e : H t with
      | none => rfl
      | some o => rw [sm _ _ e] at nt; cases nt
    have rw' : rdW ws = true := rl2.trans (by rw [decide_eq_true ht, m0, m2]; rfl)
    obtain ⟨a, c, ew, ma, mc⟩ := rd_words rw'
    have ea : ws.getD 0 "" = a := by rw [ew]; rfl
    have ec : ws.getD 2 "" = c := by rw [ew]; rfl
    rw [ea] at i1
    rw [ec] at i2
    rcases hw with ⟨e1, _⟩ | ⟨z, rfl, e1⟩
    · rw [e1] at h3
      cases h3
    exact qs rl z t _ rfl nH (sm.trans st) ⟨a1, a2, t1, t2, decide (ws.drop 3 = [("down" : Str)]), upd_same, b1, b2, ⟨a, c, i1, i2, by
      rw [← e1, ew]
      congr 1
      by_cases h : ws.drop 3 = [("down" : Str)]
      · rw [← ew, if_pos h, decide_eq_true h, if_pos rfl]
      · rw [← ew, if_neg h, decide_eq_false h]
        rfl⟩⟩
end
end Sq
namespace Sq
open PySem L2 TL
section
variable {P : Program} {w : World} {K : PySem.W.Frag} {mg : Str → Option Value} {base : Heap}
def spFirst (K : PySem.W.Frag) : Sp := fun vs H Q _ => ∃ (p : Addr) (m : Nat) (bs : List Bool), vs = [.ref p, .int (m : Int)] ∧ SqL K H p (bs.map V.bl) ∧ ∀ H', Same H H' → Q (optV (fw 0 m bs)) H'
abbrev s_read_outer_loop : Stmt := top 16
theorem sc_read_outer_loop : FnScope ["value", "loop", "_", "steps", "more_steps"] ["value"] (defScope s_read_outer_loop) := ⟨rfl, rfl, rfl, by decide +kernel, rfl, by decide +kernel, by decide +kernel⟩
theorem ok_read_outer_loop {f : Addr} {fd : FuncData} (F : Fun K "read_outer_loop" "read_outer_loop" s_read_outer_loop f fd) (T : Bt mg) (G_read_loop : FB P w K mg base "read_loop" 1 ["value"] (spReadL K (obs ++ ibs))) : FnOk P w K mg base CX0 2 f fd ["value"] (spReadL K obs) := by
  refine F.ok sc_read_outer_loop (fun vs H Q E h => ?_) (fun cdv A outer s H vs Q E hr h => ?_)
  · obtain ⟨v, rfl, _⟩ := h
    rfl
  · obtain ⟨v, rfl, hv, qn, qs⟩ := h
    refine ⟨_, (pss_cons (ps_set (i := 1) sc_read_outer_loop.nd rfl (by first | exact .inl rfl | exact .inr rfl) (pe_fb G_read_loop hr (by decide) (by rfl) (pa_cons (pv 0) pa_nil)))
        (pss_cons (ps_if (pt_cmpR op_isN (pv 1) pe_non (nomark _))
        (pss_one (ps_ret pe_non))
        pss_nil)
        (pss_cons (ps_asg (pv 1) (pg_tup (by rfl) (pgs_cons (pg_tup (by rfl) (pgs_cons (pg_name (i := 2) sc_read_outer_loop.nd rfl (by first | exact .inl rfl | exact .inr rfl)) (pgs_cons (pg_name (i := 3) sc_read_outer_loop.nd rfl (by first | exact .inl rfl | exact .inr rfl)) (pgs_cons (pg_name (i := 2) sc_read_outer_loop.nd rfl (by first | exact .inl rfl | exact .inr rfl)) pgs_nil)))) (pgs_cons (pg_tup (by rfl) (pgs_cons (pg_name (i := 2) sc_read_outer_loop.nd rfl (by first | exact .inl rfl | exact .inr rfl)) (pgs_cons (pg_name (i := 4) sc_read_outer_loop.nd rfl (by first | exact .inl rfl | exact .inr rfl)) (pgs_cons (pg_name (i := 2) sc_read_outer_loop.nd rfl (by first | exact .inl rfl | exact .inr rfl)) pgs_nil)))) (pgs_cons (pg_name (i := 2) sc_read_outer_loop.nd rfl (by first | exact .inl rfl | exact .inr rfl)) pgs_nil)))))
        (pss_one (ps_ret (pe_ifExp (PW.pt (pw_and (pt_cmpR op_eq (pv 3) pe_int (nomark _)) (pw_and1 (pt_cmpR op_eq (pv 4) pe_int (nomark _))))) (pv 1) pe_non)))))), ?_⟩
    refine sq_ (set_ ?_)
    refine ⟨_, rfl, v, rfl, hv, fun e H1 s1 => ?_, fun e z p H1 ez np s1 hp => ?_⟩
    · refine nm_seq (if_ ?_)
      refine ⟨_, rfl, rfl, _, rfl, ?_⟩
      refine iteT ?_
      refine qn ?_ H1 s1
      cases e2 : okLoop obs v with
      | false => rfl
      | true => rw [outer_inner e2] at e; cases e
    · subst ez
      obtain ⟨a1, a2, t1, t2, d, h1, b1, b2, h3⟩ := hp
      have st := outer_step h3
      refine nm_seq (if_ ?_)
      refine ⟨_, rfl, rfl, _, rfl, ?_⟩
      refine iteF ?_
      refine ⟨_, rfl, p, _, rfl, SqT.of h1, rfl, _, _, rfl, a1, _, rfl, b1 _, rfl, _, _, rfl, _, _, rfl, _, _, rfl, rfl, _, _, rfl, a2, _, rfl, b2 _, rfl, _, _, rfl, _, _, rfl, _, _, rfl, rfl, _, _, rfl, rfl, ?_⟩
      have no : okLoop obs (.str z) = false → Q .non H1 := fun e => qn e _ s1
      refine ⟨_, rfl, rfl, _, rfl, ?_⟩
      by_cases c1 : t1.2.1 = 0
      · rw [show decide (V.int t1.2.1 = V.int 0) = true by rw [c1]; rfl]
        refine iteT ?_
        refine ⟨_, rfl, rfl, _, rfl, ?_⟩
        by_cases c2 : t2.2.1 = 0
        · rw [show decide (V.int t2.2.1 = V.int 0) = true by rw [c2]; rfl]
          refine iteT ?_
          refine ⟨_, rfl, ?_⟩
          exact qs (by rw [st, c1, c2]; rfl) z p H1 rfl np s1 ⟨a1, a2, t1, t2, d, h1, b1, b2, h3⟩
        · have : decide (V.int t2.2.1 = V.int 0) = false := decide_eq_false fun e => c2 (V.int.inj e)
          rw [this]
          refine iteF ?_
          exact no (by rw [st, decide_eq_false c2, Bool.and_false])
      · have : decide (V.int t1.2.1 = V.int 0) = false := decide_eq_false fun e => c1 (V.int.inj e)
        rw [this]
        refine iteF ?_
        exact no (by rw [st, decide_eq_false c1, Bool.false_and])
abbrev s_first_wrong : Stmt := top 21
theorem sc_first_wrong : FnScope ["rights", "most", "index", "right"] ["rights", "most"] (defScope s_first_wrong) := ⟨rfl, rfl, rfl, by decide +kernel, rfl, by decide +kernel, by decide +kernel⟩
theorem ok_first_wrong {f : Addr} {fd : FuncData} (F : Fun K "first_wrong" "first_wrong" s_first_wrong f fd) (T : Bt mg)  : FnOk P w K mg base CX0 1 f fd ["rights", "most"] (spFirst K) := by
  refine F.ok sc_first_wrong (fun vs H Q E h => ?_) (fun cdv A outer s H vs Q E hr h => ?_)
  · obtain ⟨p, m, bs, rfl, _⟩ := h
    rfl
  · obtain ⟨p, m, bs, rfl, hp, q⟩ := h
    refine ⟨_, (pss_cons (ps_for PassesOwn.never rfl (pi_enum (by rfl) T.enumerate (pa_cons (pv 0) pa_nil)) (pg_tup (by rfl) (pgs_cons (pg_name (i := 2) sc_first_wrong.nd rfl (by first | exact .inl rfl | exact .inr rfl)) (pgs_cons (pg_name (i := 3) sc_first_wrong.nd rfl (by first | exact .inl rfl | exact .inr rfl)) pgs_nil)))
        (pss_one (ps_if (PW.pt (pw_or (pt_cmpR op_eq (pv 2) (pv 1) (nomark _)) (pw_or1 (pt_not (pt_val (pv 3))))))
        (pss_one (ps_ret (pv 2)))
        pss_nil)))
        (pss_one (ps_ret pe_non))), ?_⟩
    refine ⟨_, rfl, p, _, rfl, hp, ?_⟩
    refine for_it (walk_enum (xs := bs.map V.bl)) (fun i σ H' => (∃ v1 v2, σ = [some (.ref p), some (.int (m : Int)), v1, v2]) ∧ Same H H' ∧ fw 0 m bs = fw i m (bs.drop i)) ⟨⟨_, _, rfl⟩, Same.refl _, rfl⟩
      (fun i σ H' _ h => SqL.ext hp h.2.1) (fun i x σ H' H'' hi h y => ?_) (fun σ H' h => ?_)
    · obtain ⟨⟨v1, v2, rfl⟩, sm, hfw⟩ := h
      obtain ⟨T, x1, x2, rfl, hT, rfl, e1, e2⟩ := y
      cases e1
      have e2 : (bs.map V.bl)[i]? = some x2 := e2
      rw [List.getElem?_map] at e2
      have hlt : i < bs.length := by simpa using hi
      rw [List.getElem?_eq_getElem hlt] at e2
      cases e2
      rw [List.drop_eq_getElem_cons hlt] at hfw
      have sm2 : Same H (upd H' T (.tup [.int (i : Int), .bl bs[i]])) := sm.trans (same_new hT)
      refine ⟨T, _, rfl, SqT.of upd_same, rfl, _, _, rfl, _, _, rfl, rfl, ?_⟩
      refine ⟨_, rfl, _, rfl, rfl, _, rfl, ?_⟩
      refine ite2 (fun hm => ?_) (fun hm => ?_)
      · have e3 : i = m := Int.ofNat.inj (V.int.inj (of_decide_eq_true hm))
        refine ⟨_, rfl, ?_⟩
        have z := q _ sm2
        rw [hfw] at z
        unfold fw at z
        rw [if_pos (.inl e3)] at z
        exact z
      · have e3 : ¬ i = m := fun e => hm (decide_eq_true (by rw [e]))
        refine ⟨_, rfl, _, rfl, ?_⟩
        cases hb : bs[i] with
        | false =>
          refine iteT ?_
          refine ⟨_, rfl, ?_⟩
          have z := q _ sm2
          rw [hfw] at z
          unfold fw at z
          rw [if_pos (.inr hb)] at z
          rw [hb] at z
          exact z
        | true =>
          refine iteF ?_
          rw [hb] at sm2
          refine ⟨⟨_, _, rfl⟩, sm2, hfw.trans ?_⟩
          show (if i = m ∨ bs[i] = false then some i else fw (i + 1) m (bs.drop (i + 1))) = _
          rw [if_neg (fun e => e.elim e3 fun z => by rw [hb] at z; cases z)]
    · obtain ⟨⟨v1, v2, rfl⟩, sm, hfw⟩ := h
      have z := q _ sm
      rw [hfw, List.length_map, List.drop_length] at z
      exact z
end
end Sq
namespace Sq
open PySem L2 PySem.Spec PyProof.Rows
/-! ### d.get(key, x), d a written dict with texts as keys -/
def tGetT (d : Addr) (tab : List (Str × V)) (ty tx : TE) : TE := fun σ H Q => ty σ H fun y H1 => tx σ H1 fun z H2 => ∃ k : Str, y = .str k ∧ Q ((tab.lookup k).getD z) H2
theorem pe_getT {X : Cx} {d : Addr} {tab : List (Str × V)} {e f : Expr} {x : Str} {p apos cpos : Pos} {ty tx : TE} (D : TDict X.K X.w d tab) (hg : Gl X x) (hm : X.mg x = some (.ref d)) (he : PE X e ty) (hf : PE X f tx) (m : M2 X (.Name x p) "get" apos e f cpos) (hdb : (x == ("__debug__" : Str)) = false := by decide) :
    PE X (.Call (.Attribute (.Name x p) "get" apos) [e, f] [] cpos) (tGetT d tab ty tx) := by
  refine ⟨fun pins s σ H Q I h => ?_⟩
  obtain ⟨es, n, kd, hz⟩ := D.ex
  have ho : PE X (.Name x p) (tC (.ref d)) := pe_glob hg hm rfl hdb
  refine wpAny_Call_method m.base m.few m.line PySem.F.plainAttrs_dict PySem.F.slot_dict_get PySem.F.type_dict_get (thn (ho.run pins s σ H (fun v H1 => v = .ref d ∧ H1 = H) I ⟨rfl, rfl⟩) fun u s1 ⟨v, H1, I1, rx, ev, eH⟩ => ?_)
  subst ev eH
  obtain rfl : u = Value.ref d := rx
  have mp := PySem.W.mapOf_K (prog := X.prog) (w := X.w) I1.kIn kd.at_ kd.lit
  refine ⟨mp.typeIs, mp.noDict, ?_⟩
  rw [m.trees]
  refine Calls.callWith_builtin rfl (Calls.evalArgs_plain (Calls.spliced_cons (thn (he.run pins s1 σ _ _ I1 h) fun iv s2 ⟨y, H2, I2, ry, q2⟩ =>
    Calls.spliced_cons (thn (hf.run pins s2 σ H2 _ I2 q2) fun fv s3 ⟨z, H3, I3, rz, k, ey, q3⟩ => Calls.spliced_nil ?_))))
  subst ey
  obtain ⟨t, rfl⟩ := ry
  have hk := hz k
  have mp3 := PySem.W.mapOf_K (prog := X.prog) (w := X.w) I3.kIn kd.at_ kd.lit
  refine call_meetsIn PySem.F.slot_dict_get mp3.typeIs PySem.F.entry_dict_get (PySem.F.args_dict_get_3 _ _ _) (meets_dict_get_default (strKind X.prog X.w) d (strKind_is X.prog X.w k t) kd.low fv) ⟨_, mp3, ?_⟩
  cases hl : tab.lookup k with
  | none =>
    rw [hl] at hk q3
    rw [PySem.W.find_K kd.at_ hk]
    exact ⟨z, H3, I3.tok _, rz, q3⟩
  | some v0 =>
    rw [hl] at hk q3
    obtain ⟨u0, e0, r0⟩ := hk
    rw [PySem.W.find_K kd.at_ e0]
    exact ⟨v0, H3, I3.tok _, r0, q3⟩
/-! ### len(set(xs)), a list of numbers -/
theorem met_len (ns : List Int) : ∀ i, i ≤ ns.length → (∀ x, x ∈ PyProof.Rows.firstMet (fun i => ns.getD i 0) i ↔ x ∈ ns.take i) ∧ ((PyProof.Rows.firstMet (fun i => ns.getD i 0) i).length = i ↔ (ns.take i).Nodup) ∧ (PyProof.Rows.firstMet (fun i => ns.getD i 0) i).length ≤ i
  | 0, _ => ⟨fun x => by rw [PyProof.Rows.firstMet_zero, List.take_zero], by rw [PyProof.Rows.firstMet_zero, List.take_zero]; simp, Nat.le_refl _⟩
  | i + 1, hi => by
    have hlt : i < ns.length := hi
    have e1 : ns.getD i 0 = ns[i] := by rw [List.getD_eq_getElem?_getD, List.getElem?_eq_getElem hlt] <;> rfl
    have e2 : ns.take (i + 1) = ns.take i ++ [ns[i]] := by rw [List.take_add_one, List.getElem?_eq_getElem hlt] <;> rfl
    obtain ⟨m1, m2, m3⟩ := met_len ns i (Nat.le_of_lt hlt)
    have st : PyProof.Rows.firstMet (fun i => ns.getD i 0) (i + 1) = if ns[i] ∈ ns.take i then PyProof.Rows.firstMet (fun i => ns.getD i 0) i else PyProof.Rows.firstMet (fun i => ns.getD i 0) i ++ [ns[i]] := by
      rw [PyProof.Rows.firstMet_succ]
      unfold PyProof.Rows.step_dedup
      rw [e1]
      by_cases h : ns[i] ∈ ns.take i
      · have h' := (m1 _).mpr h
        rw [if_pos h, if_pos (by simpa using h')]
      · have h' : ¬ ns[i] ∈ PyProof.Rows.firstMet (fun i => ns.getD i 0) i := fun z => h ((m1 _).mp z)
        rw [if_neg h, if_neg (by simpa using h')]
    rw [st, e2]
    by_cases h : ns[i] ∈ ns.take i
    · rw [if_pos h]
      refine ⟨fun x => ?_, ?_, by omega⟩
      · rw [m1, List.mem_append, List.mem_singleton]
        exact ⟨.inl, fun z => z.elim id fun e => e ▸ h⟩
      · constructor
        · intro z
          omega
        · intro z
          rw [List.nodup_append] at z
          exact absurd rfl (z.2.2 _ h _ (List.mem_singleton.mpr rfl))
    · rw [if_neg h]
      refine ⟨fun x => ?_, ?_, by rw [List.length_append, List.length_singleton]; omega⟩
      · rw [List.mem_append, List.mem_append, m1]
      · rw [List.length_append, List.length_singleton, List.nodup_append]
        constructor
        · intro z
          refine ⟨m2.mp (by omega), by simp, fun a ha b hb => ?_⟩
          rw [List.mem_singleton.mp hb]
          exact fun e => h (e ▸ ha)
        · rintro ⟨z, _⟩
          rw [m2.mpr z]
def cntI (ns : List Int) : Nat := (PyProof.Rows.firstMet (fun i => ns.getD i 0) ns.length).length
theorem cnt_le (ns : List Int) : cntI ns ≤ ns.length := (met_len ns _ (Nat.le_refl _)).2.2
theorem cnt_nodup (ns : List Int) : cntI ns = ns.length ↔ ns.Nodup := by
  have z := (met_len ns _ (Nat.le_refl _)).2.1
  rw [List.take_length] at z
  exact z
def tLenSetN (K : PySem.W.Frag) (ta : TE) : TE := fun σ H Q => ta σ H fun x H1 => ∃ (l : Addr) (ns : List Int), x = .ref l ∧ SqL K H1 l (ns.map V.int) ∧ ns.length ≤ 4000 ∧ Q (.int (cntI ns : Nat)) H1
theorem pe_lenSetN {X : Cx} {a : Expr} {ta : TE} {p p2 q pos : Pos} (hg : Gl X "len") (hm : X.mg "len" = none) (hg2 : Gl X "set") (hm2 : X.mg "set" = none) (ha : PE X a ta) (hc : X.calm = true := by rfl)
    (na : starEach [a] X.env = (false, eval a X.env) :: starEach [] X.env := by rfl) : PE X (.Call (.Name "len" p) [.Call (.Name "set" p2) [a] [] q] [] pos) (tLenSetN X.K ta) := by
  refine ⟨fun pins s σ H Q I h => ?_⟩
  refine Call_ (ld_blt I hg hm boot_len ?_)
  refine PyProof.Rows.callWith_builtin1 (PyProof.Rows.args_cons ?_ rfl) rfl rfl
  refine Call_ (ld_blt I hg2 hm2 boot_set ?_)
  refine PyProof.Rows.callWith_type1 (PyProof.Rows.args_cons (thn (ha.run pins s σ H _ I h) fun v s1 ⟨x, H1, I1, r1, q1⟩ => PyProof.Rows.args_nil ?_) na) na rfl
  obtain ⟨l, ns, rfl, hq, hl, q1⟩ := q1
  cases r1
  obtain ⟨its, r, pl, hz⟩ := I1.list hq
  have hlen : its.toArray.size = ns.length := by rw [List.size_toArray, ← r.length, List.length_map]
  refine call_set_list (I1.ok.hd hc) pl.isList (by simpa using RZ.intsAre_vals r) (by rw [hlen]; unfold scanBound; omega) fun h' tk hS hk => ?_
  refine PyProof.Rows.args_nil ?_
  rw [hlen] at hS
  obtain ⟨o, es, ep, t, ho, hex, hd, _, _, _, hf, hn⟩ := hS
  have I2 : Inv X pins σ H1 { s1 with heap := h', toks := tk } := I1.kept fun b o e => hk b o (Heap.lt_size e) e
  have hc := cnt_le ns
  unfold cntI at hc
  exact call_len_set ho hex hd hf (by rw [hn] <;> omega) ⟨.int (cntI ns : Nat), H1, I2.tok _, ⟨_, by rw [hn]; rfl⟩, q1⟩
end Sq
namespace Sq
open PySem L2 PySem.Spec PyProof.Rows
/-- how many different texts -/
def dcount : List Str → Nat
  | [] => 0
  | x :: r => if r.any (· == x) = true then dcount r else dcount r + 1
theorem dcount_le : ∀ xs : List Str, dcount xs ≤ xs.length
  | [] => Nat.le_refl _
  | x :: r => by
    have ih := dcount_le r
    unfold dcount
    rw [List.length_cons]
    split <;> omega
/-- of the first i texts, looked at from the last -/
def seen (xs : List Str) (i : Nat) : List Str := (xs.take i).reverse
theorem seen_succ {xs : List Str} {i : Nat} {x : Str} (h : xs[i]? = some x) : seen xs (i + 1) = x :: seen xs i := by
  unfold seen
  rw [List.take_add_one, h]
  simp
section
variable {prog : Program} {w : World} {A : Around} {R : Result → Shared → Prop} {I : Addr} {fp wr : List Addr} {G : Array GenState → Array GenState → Prop} {n : Nat} {P : Nat → Value → Prop} {St : Nat → Shared → Prop}
/-- set.update over any walk of texts -/
theorem grow_set (W : WalksS prog w A.in1 I fp wr G n P St) (S : Addr) (hSf : S ∉ fp) (xs : List Str) (hval : ∀ i v, P i v → ∃ x t, xs[i]? = some x ∧ v = .str x t) (hz : n = xs.length) (hb : n + 1 < scanBound) :
    ∀ (k i : Nat) (s : Shared), n - i = k → i ≤ n → St i s → s.heap.SetOf (PySem.strKind prog w) S (fun k => (seen xs i).any (· == k)) (dcount (seen xs i)) →
      (∀ s', Moved (S :: wr) G s s' → s'.heap.SetOf (PySem.strKind prog w) S (fun k => (seen xs n).any (· == k)) (dcount (seen xs n)) → R (.ok (.ret .none)) s') →
      codeAny (model prog w) A (.builtin "set.update.loop" ⟨[.ref S, .ref I], []⟩) R s := by
  have nSw : S ∉ wr := fun h => hSf (W.sub _ h)
  have more : ∀ b ∈ wr, b ∈ S :: wr := fun b hb => List.mem_cons_of_mem _ hb
  have carry : ∀ {s s' : Shared} {T : Str → Bool} {m : Nat}, Moved wr G s s' → s.heap.SetOf (PySem.strKind prog w) S T m → s'.heap.SetOf (PySem.strKind prog w) S T m := fun {s s' T m} hm hS => by
    obtain ⟨o, es, ep, tb, ho, rest⟩ := hS
    exact ⟨o, es, ep, tb, hm.heap S _ nSw ho, rest⟩
  intro k
  induction k with
  | zero =>
    intro i s hk hi hst hS hR
    obtain rfl : i = n := by omega
    apply codeAny_builtin PyProof.Rows.F.entry_set_update_loop
    rw [Around.under_plainId PyProof.Rows.F.plain_set_update_loop _]
    show wpAny _ A.in1 (pyNext (.ref I) >>= _) _ _ s
    exact wpAny_bind (W.done s _ _ hst fun s' hm => wpAny_pure (hR s' (hm.mono more) (carry hm hS)))
  | succ k ih =>
    intro i s hk hi hst hS hR
    have hlt : i < n := by omega
    apply codeAny_builtin PyProof.Rows.F.entry_set_update_loop
    rw [Around.under_plainId PyProof.Rows.F.plain_set_update_loop _]
    show wpAny _ A.in1 (pyNext (.ref I) >>= _) _ _ s
    refine wpAny_bind (W.item i s _ _ hlt hst fun v s' hP hst' hm => ?_)
    obtain ⟨x, t, hx, rfl⟩ := hval i v hP
    have hS1 := carry hm hS
    have room : dcount (seen xs i) + 1 < scanBound := by
      have h1 := dcount_le (seen xs i)
      have h2 : (seen xs i).length ≤ i := by
        unfold seen
        rw [List.length_reverse, List.length_take]
        omega
      omega
    show wpAny _ A.in1 (holding [Value.str x t] (setAdd S (.str x t)) >>= _) _ _ s'
    apply wpAny_bind
    apply wpAny_holding
    unfold setAdd
    apply wpAny_holding
    refine wpAny_bind ((PySem.strKind prog w).pyHash (k := x) (strKind_is _ _ _ _) ?_)
    refine wpAny_setAddHashed_of (knd := PySem.strKind prog w) (s := { s' with toks := s'.toks + 1 }) (strKind_is _ _ _ _) rfl hS1 room fun h' same hS2 => ?_
    have next : h'.SetOf (PySem.strKind prog w) S (fun k => (seen xs (i + 1)).any (· == k)) (dcount (seen xs (i + 1))) := by
      rw [seen_succ hx]
      refine SetOf_congr hS2 (fun k' => ?_) ?_
      · rw [List.any_cons, Bool.or_comm]
        by_cases e : k' = x
        · subst e
          simp
        · have e2 : ¬ x = k' := fun q => e q.symm
          simp [e, e2]
      · show (if (seen xs i).any (· == x) = true then dcount (seen xs i) else dcount (seen xs i) + 1) = _
        rfl
    refine wpAny_pure ⟨plainId_quiet PyProof.Rows.F.plain_set_update_loop _, ih (i + 1) _ (by omega) hlt (W.frame _ s' _ _ hst' (Nat.le_succ _) fun b hb o e => ?_) next fun s'' hm2 hS3 => hR s'' ?_ hS3⟩
    · rw [same.2 b fun q => hSf (q ▸ hb)]
      exact e
    · refine Moved.trans W.gtrans ((hm.mono more).then_heap (Nat.le_succ _) fun b o hb e => ?_) hm2
      rw [same.2 b fun q => hb (q ▸ List.mem_cons_self)]
      exact e
end
section
variable {prog : Program} {w : World} {A : Around} {E : Value → Shared → Prop} {s : Shared}
theorem strs_get : ∀ {us : List Value} {xs : List Str}, Vals (xs.map V.str) us → ∀ (i : Nat) (v : Value), us[i]? = some v → ∃ x t, xs[i]? = some x ∧ v = .str x t
  | [], [], _, i, v, h => by simp at h
  | u :: us, x :: xs, .cons r q, 0, v, h => by
    obtain ⟨t, e⟩ := r
    refine ⟨x, t, rfl, ?_⟩
    rw [← e]
    simpa using h.symm
  | u :: us, x :: xs, .cons r q, i + 1, v, h => by
    obtain ⟨y, t, h1, h2⟩ := strs_get q i v (by simpa using h)
    exact ⟨y, t, by simpa using h1, h2⟩
  | [], _ :: _, r, _, _, _ => by cases r
  | _ :: _, [], r, _, _, _ => by cases r
set_option maxHeartbeats 16000000 in
/-- set(xs) of a list of texts -/
theorem set_of_list {l : Addr} {items : Array Value} {xs : List Str} {Q : Value → Shared → Prop} (hh : A.handled = none) (hl : s.heap.IsList l items) (hi : Vals (xs.map V.str) items.toList) (hb : items.size + 1 < scanBound)
    (h : ∀ (h' : Heap) (tk : Nat), h'.SetOf (PySem.strKind prog w) s.heap.objs.size (fun k => (seen xs items.size).any (· == k)) (dcount (seen xs items.size)) →
      (∀ b o, b < s.heap.objs.size → s.heap.get? b = some o → h'.get? b = some o) → Q (.ref s.heap.objs.size) { s with heap := h', toks := tk }) :
    wpAny (model prog w) A (call (.type "set") [.ref l]) Q E s := by
  have c0 := PySem.F.called_set
  obtain ⟨c, tl, hmro⟩ := c0.mro
  have hmade := c0.made
  have hsub := c0.sub
  apply wpAny_call
  apply codeAny_of_tree
  show wpAny _ _ (callAny (.type "set") _) _ _ _
  apply wpAny_pure
  refine ⟨Code.quiet_builtin _ (by decide +kernel), codeAny_builtin PySem.F.entry_type_call ?_⟩
  rw [Around.under_plain (weight_type_call_type "set" [.ref l] []) rfl]
  have h1 := c0.notType
  have h2 := c0.canCreate
  have hct := PySem.F.typeCall_set_1 (.ref l)
  repeat (any_goals (first | assumption | wp_step))
  refine codeAny_mono (code_set_new_1 (.ref l) (E := E) (Q₁ := fun obj z => ∃ led : Bool, obj = .ref s.heap.objs.size ∧ z = { s with heap := s.heap.push { cls := .type "set", dict := none, data := .set #[] 0 (.fresh 0 0 led) } })
    fun led => ⟨led, rfl, rfl⟩) ?_
  rintro (er | (obj | _ | _ | _)) z hr
  case error => exact hr
  case ok.next => exact hr.elim
  case ok.brk => exact hr.elim
  case ok.cont => exact hr.elim
  obtain ⟨led, e1, rfl⟩ := hr
  cases e1
  let o0 : Obj := { cls := .type "set", dict := none, data := .set #[] 0 (.fresh 0 0 led) }
  have at0 : (s.heap.push o0).get? s.heap.objs.size = some o0 := Heap.get?_push_size _ rfl
  have hT : Shared.TypeIs { s with heap := s.heap.push o0 } (.ref s.heap.objs.size) "set" := ⟨_, at0, rfl⟩
  have hli := c0.init.lookup
  have hbi := c0.init.bind (.ref s.heap.objs.size)
  repeat (any_goals (first | assumption | wp_step))
  refine codeAny_mono (codeAny_call_builtin (R := wants (fun r z => r = .none ∧ ∃ h' tk, z = { s with heap := h', toks := tk } ∧
      h'.SetOf (PySem.strKind prog w) s.heap.objs.size (fun k => (seen xs items.size).any (· == k)) (dcount (seen xs items.size)) ∧
      (∀ b o, b < s.heap.objs.size → s.heap.get? b = some o → h'.get? b = some o)) E) c0.init.plain PySem.F.entry_set_init (check_set_init_1 hT ?_)) ?_
  · obtain ⟨⟨lc, ld, ldat, ls⟩, hol, hcl, nl, hdl⟩ := hl
    simp only at hcl hdl
    subst hcl hdl
    have lt : l < s.heap.objs.size := Heap.lt_size hol
    have hol1 : (s.heap.push o0).get? l = some { cls := .type "list", dict := ld, data := .seq items nl, slots := ls } := Heap.get?_push_of_some _ hol
    have z1 := PySem.F.sub_list_set
    have z2 := PySem.F.sub_list_frozenset
    have z3 : (Value.type "list" == Value.type "dict") = false := by decide
    have hl1 : (s.heap.push o0).IsList l items := ⟨_, hol1, rfl, nl, rfl⟩
    unfold Builtin.«set.__init__» noKeywords Builtin.Frozenset.updateFrom
    generalize hPI : pyIter = PI
    wp_walk
    subst hPI
    refine wpAny_pyIter_list hl1 (wpAny_bind (wpAny_runValue ?_))
    have sz1 : (s.heap.push o0).objs.size = s.heap.objs.size + 1 := Heap.size_push _ _
    have hh3 : A.in1.in1.in1.handled = none := by simp [hh]
    have neI : l ≠ (s.heap.push o0).objs.size := by rw [sz1]; exact Nat.ne_of_lt (Nat.lt_succ_of_lt lt)
    have nfp : s.heap.objs.size ∉ [(s.heap.push o0).objs.size, l] := by
      rw [sz1]
      simp only [List.mem_cons, List.not_mem_nil, or_false, not_or]
      exact ⟨Nat.ne_of_lt (Nat.lt_succ_self _), Nat.ne_of_gt lt⟩
    have hsz : items.size = xs.length := by
      have e := hi.length
      rw [List.length_map, Array.length_toList] at e
      exact e.symm
    refine grow_set ((Walks.list hh3 _ l neI items).toS) s.heap.objs.size nfp xs (fun i v hv => strs_get hi i v (by rw [Array.getElem?_toList]; exact hv)) hsz hb items.size 0 _ rfl (Nat.zero_le _)
      ⟨⟨_, Heap.get?_push_size _ rfl, rfl, rfl⟩, hl1.push _⟩ ?_ ?_
    · have get2 : ((s.heap.push o0).push { cls := .type "list_iterator", data := .fields #[.ref l, .int 0 0] }).get? s.heap.objs.size = some o0 := Heap.get?_push_of_some _ at0
      exact SetOf_congr ((PyProof.Rows.setObjOf_fresh (knd := PySem.strKind prog w) led).setOf get2 (by unfold scanBound; omega)) (fun _ => rfl) rfl
    · intro s' hm hS'
      obtain ⟨h', g', d', tk', os'⟩ := s'
      obtain rfl : g' = s.gens := hm.gens
      obtain rfl : d' = s.drawn := hm.drawn
      obtain rfl : os' = s.os := hm.os
      show wpAny _ _ _ _ _ _
      apply wpAny_pure
      show wpAny _ _ (ret Value.none) _ _ _
      refine wpAny_pure ⟨rfl, h', tk', rfl, hS', fun b o hb e => ?_⟩
      refine hm.heap b o ?_ (Heap.get?_push_of_some _ (Heap.get?_push_of_some _ e))
      rw [sz1]
      simp only [List.mem_cons, List.not_mem_nil, or_false, not_or]
      exact ⟨Nat.ne_of_lt hb, Nat.ne_of_lt (Nat.lt_succ_of_lt hb)⟩
  · rintro (er | (r | _ | _ | _)) z hr
    case error => exact hr
    case ok.next => exact hr.elim
    case ok.brk => exact hr.elim
    case ok.cont => exact hr.elim
    obtain ⟨rfl, h', tk, rfl, hS', hk'⟩ := hr
    repeat (any_goals (first | assumption | wp_step))
    exact h _ _ hS' hk'
end

/-- len(set(xs)), xs a list of texts -/
def tLenSetS (K : PySem.W.Frag) (ta : TE) : TE := fun σ H Q => ta σ H fun x H1 => ∃ (l : Addr) (xs : List Str), x = .ref l ∧ SqL K H1 l (xs.map V.str) ∧ xs.length ≤ 4000 ∧ Q (.int (dcount xs.reverse : Nat)) H1
theorem pe_lenSetS {X : Cx} {a : Expr} {ta : TE} {p p2 q pos : Pos} (hg : Gl X "len") (hm : X.mg "len" = none) (hg2 : Gl X "set") (hm2 : X.mg "set" = none) (ha : PE X a ta) (hc : X.calm = true := by rfl)
    (na : starEach [a] X.env = (false, eval a X.env) :: starEach [] X.env := by rfl) : PE X (.Call (.Name "len" p) [.Call (.Name "set" p2) [a] [] q] [] pos) (tLenSetS X.K ta) := by
  constructor
  intro pins s σ H Q I h
  refine Call_ (ld_blt I hg hm boot_len (PyProof.Rows.callWith_builtin1 (PyProof.Rows.args_cons ?_ rfl) rfl rfl))
  refine Call_ (ld_blt I hg2 hm2 boot_set (PyProof.Rows.callWith_type1 (PyProof.Rows.args_cons (thn (ha.run pins s σ H _ I h) ?_) na) na rfl))
  rintro v s1 ⟨x, H1, I1, r1, l, xs, rfl, hq, hz, q1⟩
  refine PyProof.Rows.args_nil ?_
  cases r1
  obtain ⟨its, r, pl, _⟩ := I1.list hq
  have hlen : its.toArray.size = xs.length := by rw [List.size_toArray, ← r.length, List.length_map]
  refine set_of_list (I1.ok.hd hc) pl.isList (by simpa using r) (by rw [hlen]; unfold scanBound; omega) fun h' tk hS hk => PyProof.Rows.args_nil ?_
  rw [hlen] at hS
  have e : seen xs xs.length = xs.reverse := by
    unfold seen
    rw [List.take_length]
  rw [e] at hS
  obtain ⟨o, es, ep, t, ho, hex, hd, _, _, _, hf, hn⟩ := hS
  have I2 : Inv X pins σ H1 { s1 with heap := h', toks := tk } := I1.kept fun b o e => hk b o (Heap.lt_size e) e
  have hd := dcount_le xs.reverse
  rw [List.length_reverse] at hd
  exact call_len_set ho hex (by assumption) hf (by rw [hn]; omega) ⟨.int (dcount xs.reverse : Nat), H1, I2.tok _, ⟨_, by rw [hn]⟩, q1⟩
end Sq
namespace Sq
open PySem PySem.Spec PyProof.Rows L2
/-! ### a, b, *c = a list -/
/-- the starred target, the last one -/
theorem pgs_star {X : Cx} {e : Expr} {p : Pos} {t : TG} (h1 : PG X e t) : PGs X [.Starred e p] (gCons t gNil) := by
  refine ⟨fun pins s σ H vs us Q I r h => ?_⟩
  obtain ⟨v, vr, e1, h⟩ := h
  subst e1
  cases r with
  | cons r rr =>
    have hs : (assignEach [.Starred e p] X.env).map (·.2) = assign e X.env :: (assignEach [] X.env).map (·.2) := rfl
    rw [hs]
    refine assignInOrder_cons (thn (h1.run pins s σ H _ _ _ I r h) fun _ s1 ⟨σ1, H1, I1, q1⟩ => ?_)
    exact pgs_nil.run pins s1 σ1 H1 _ _ Q I1 rr q1
def gStar (K : PySem.W.Frag) (i : Nat) (t : TGs) : TG := fun v σ H Q => ∃ a xs, v = .ref a ∧ SqL K H a xs ∧ i ≤ xs.length ∧ ∀ D, H D = none → t (xs.take i ++ [.ref D]) σ (upd H D (.lst (xs.drop i))) Q
theorem pg_starL {X : Cx} {pos : Pos} {es : List Expr} {k : Nat} {t : TGs} {i : Nat} (hc : X.calm = true) (h : PGs X es t)
    (hn : (assignEach es X.env).length = i + 1 := by rfl) (hst : (assignEach es X.env).findIdx? (·.1) = some i := by rfl) : PG X (.Tuple es k pos) (gStar X.K i t) := by
  refine ⟨fun pins s σ H v u Q I r hw => ?_⟩
  obtain ⟨a, xs, e1, hq, hl, hw⟩ := hw
  subst e1
  cases r
  obtain ⟨its, rv, pl, hz⟩ := I.list hq
  have hlen := rv.length
  have hl' : s.heap.IsList a its.toArray := by
    obtain ⟨o, m, e, c, d, q⟩ := pl
    exact ⟨o, e, c, m, q⟩
  rw [PyProof.Rows.assign_Tuple]
  refine wpAny_bind (wpAny_standAt ?_)
  unfold unpack
  rw [hn, hst]
  refine wpAny_bind (wpAny_holding ?_)
  have hh : X.A.handled = none := I.ok.hd hc
  have hlt : a ≠ s.heap.objs.size := by obtain ⟨o, ho, _⟩ := hl'; exact Nat.ne_of_lt (Heap.lt_size ho)
  unfold unpackItems
  refine wpAny_bind ?_
  unfold notIterableAtAll
  refine wpAny_bind (wpAny_specialOf hl'.typeIs slot_list_iter.lookup ?_)
  refine wpAny_pure ?_
  simp only [Bool.false_eq_true, if_false]
  refine wpAny_bind (wpAny_holding (wpAny_pyIter_list hl' ?_))
  refine wpAny_bind (wpAny_holding (PySem.W.kun_draw hlt i 0 _ _ ⟨_, Heap.get?_push_size _ rfl, rfl, rfl⟩ (hl'.push _) (by simp; omega) fun h₁ hit₁ hs₁ => ?_))
  have hl₁ : h₁.IsList a its.toArray := (hl'.push _).extBut hs₁.extBut hlt
  rw [Nat.zero_add] at hit₁
  have hit₁' := hit₁
  obtain ⟨oi, hoi, _⟩ := hit₁'
  have hl₁' := hl₁
  obtain ⟨ol, hol, _⟩ := hl₁'
  rw [List.drop_zero]
  have hfl : (its.toArray.toList.take i).length = i := by rw [List.length_take]; simp; omega
  rw [if_neg (show ¬ ((its.toArray.toList.take i).length < i) by rw [hfl]; omega)]
  refine wpAny_bind (wpAny_holding (PySem.W.kun_collect (s := { s with heap := h₁ }) (T := "list_iterator") (.inr (.inr (.inl rfl))) (Walks.list (A := X.A.in1) hh s.heap.objs.size a hlt its.toArray) (fun j u st => st.1.typeIs) (k := i) (by simp; omega) ⟨hit₁, hl₁⟩ (Heap.lt_size hoi) (Heap.lt_size hol) (fun h₂ tk hk => ?_) (by simp; omega)))
  have e0 : i + 1 - 1 - i = 0 := by omega
  show wpAny _ _ (if (its.toArray.toList.drop i).length < i + 1 - 1 - i then _ else _) _ _ _
  rw [e0, if_neg (by omega)]
  show wpAny _ _ (newList ((its.toArray.toList.drop i).take ((its.toArray.toList.drop i).length - 0)) >>= fun d => pure (its.toArray.toList.take i ++ [d] ++ (its.toArray.toList.drop i).drop ((its.toArray.toList.drop i).length - 0))) _ _ _
  rw [Nat.sub_zero, List.take_length, List.drop_length]
  have kp : ∀ b o, s.heap.get? b = some o → h₂.get? b = some o := fun b o e => hk b o (Nat.ne_of_lt (Heap.lt_size e)) (hs₁.extBut b o (Nat.ne_of_lt (Heap.lt_size e)) (Heap.get?_push_of_some _ e))
  have I1 : Inv X pins σ H { s with heap := h₂, toks := tk } := I.kept kp
  refine wpAny_bind (wpAny_newList (wpAny_pure ?_) (by rw [List.length_drop]; simp; omega))
  have rd : Vals (xs.drop i) (its.drop i) := rv.drop i
  have new : ObjOk X.prog X.w (upd H h₂.objs.size (.lst (xs.drop i))) (h₂.push { cls := .type "list", dict := none, data := .seq (its.toArray.toList.drop i).toArray 0, slots := #[] }) h₂.objs.size (.lst (xs.drop i)) :=
    ⟨by rw [List.length_drop]; omega, its.drop i, 0, rd, Heap.get?_push_size _ rfl⟩
  have I2 := I1.laid (t' := tk) (fun b o e => Heap.get?_push_of_some _ e) (Nat.le_refl _) new
  refine h.run pins _ σ _ (xs.take i ++ [.ref h₂.objs.size]) _ Q I2 ?_ (hw _ (I1.hok.fresh (Nat.le_refl _)))
  rw [List.append_nil]
  exact (rv.take i).append (.cons (show RelV (.ref h₂.objs.size) (.ref h₂.objs.size) from rfl) .nil)
/-! ### C(a, .., *b) and cls(*b), C a class of the text with an __init__ -/
section
variable {X : Cx} {CX : CXT} {k i : Nat} {f C : Addr} {sp : Sp} {E : XK} {x : Str} {e : Expr} {es : List Expr} {te : TE} {t : TA} {p sp_ pos : Pos}
theorem pe_makeS2 (M : Mk X.K C f) (F : FnR X.prog X.w X.K X.mg X.base CX k f sp) (hr : Room (k + 1) X.A) (hg : Gl X x) (hm : X.mg x = some (.ref C)) (hx : Passes CX X E) (ha : PA X (e :: es) t) (hdb : (x == ("__debug__" : Str)) = false := by decide)
    (he : starEach (e :: es) X.env = (false, eval e X.env) :: starEach es X.env := by rfl) (hst : (backTo pos (starEach es X.env)).any (·.1) = true := by rfl) : PE X (.Call (.Name x p) (e :: es) [] pos) (StX.tMakeR C sp E t) := by
  refine ⟨fun pins s σ H Q I h => ?_⟩
  refine wpAny_Call_Name_kw (ld_glob I hg hm ?_ hdb)
  refine PySem.W.callWith_S2 (h₀ := X.base) I.ok.mod.kin M.kp (thn (ha.run pos pins s σ H _ I h) fun us s1 ⟨vs, H1, I1, r, q⟩ => ⟨I1.kIn, ?_⟩) he hst
  exact StX.run_makeR M F hr hx I1 r q
def tMakeL (K : PySem.W.Frag) (C : Addr) (i : Nat) (sp : Sp) (E : XK) (te : TE) : TE := fun σ H Q => σ[i]? = some (some (.ref C)) ∧ te σ H fun y H1 => ∃ a xs, y = V.ref a ∧ (SqT K H1 a xs ∨ SqL K H1 a xs) ∧ ∀ x dx, H1 x = Option.none → H1 dx = Option.none → dx ≠ x →
  sp (V.ref x :: xs) (upd (upd H1 dx (.own x)) x (.ins C dx [])) (fun v H2 => v = .non ∧ Q (.ref x) H2) E
theorem pe_makeSL (M : Mk X.K C f) (F : FnR X.prog X.w X.K X.mg X.base CX k f sp) (hr : Room (k + 1) X.A) (hN : X.N[i]? = some x) (hv : Vis X.env.scope x) (hx : Passes CX X E) (he : PE X e te) (hdb : (x == ("__debug__" : Str)) = false := by decide) (hcd : (x == ("__classdict__" : Str)) = false := by decide)
    (hst : starEach [.Starred e sp_] X.env = [(true, eval e X.env)] := by rfl) : PE X (.Call (.Name x p) [.Starred e sp_] [] pos) (tMakeL X.K C i sp E te) := by
  refine ⟨fun pins s σ H Q I h => ?_⟩
  obtain ⟨hs, h⟩ := h
  refine wpAny_Call_Name_kw (thn ((pe_var (pos := p) hN hv hdb hcd).run pins s σ H (fun v H1 => v = .ref C ∧ H1 = H) I ⟨.ref C, hs, rfl, rfl⟩) fun u s1 ⟨v, H1, I1, r1, q1⟩ => ?_)
  obtain ⟨rfl, rfl⟩ := q1
  cases r1
  refine PySem.W.callWith_S (h₀ := X.base) I.ok.mod.kin M.kp (thn (he.run pins s1 σ _ _ I1 h) fun v s1 ⟨y, H1, I1, ry, a, xs, ey, hxs, q⟩ => ?_) hst
  subst ey
  obtain rfl : v = Value.ref a := ry
  exact StX.star_any I1 hxs fun us s2 I2 rv => ⟨I2.kIn, StX.run_makeR M F hr hx I2 rv q⟩
end
end Sq
namespace Sq
open PySem L2 TL
/-- a deed's word, places and condition -/
structure Deed where
  w : Str
  ps : List Str
  cs : List Str
def deedW (ws : List Str) : Deed :=
  if 4 < ws.length ∧ ws[ws.length - 4]? = some ("if" : Str) then ⟨ws.headD "", (ws.drop 1).take (ws.length - 5), ws.drop (ws.length - 3)⟩ else ⟨ws.headD "", ws.drop 1, []⟩
def deedD (z : Str) : Deed := deedW (Txt.split z " ")
theorem atI_neg {α : Type} (xs : List α) (k : Nat) (h0 : 0 < k) (h : k ≤ xs.length) : atI xs (-(k : Int)) = xs[xs.length - k]? := by
  unfold atI
  have e : ixN xs.length (-(k : Int)) = some (xs.length - k) := by
    unfold ixN
    rw [if_neg (by omega), if_pos (by omega)]
    congr 1
    omega
  rw [e]
  rfl
theorem sIx_neg (n d k : Nat) (h0 : 0 < k) (h : k ≤ n) : HT.sIx n d (some (-(k : Int))) = n - k := by
  show (if (-(k : Int)) < 0 then (-(k : Int) + (n : Int)).toNat else min (-(k : Int)).toNat n) = n - k
  rw [if_pos (by omega)]
  omega
theorem cut_3 (ws : List Str) (h : 3 ≤ ws.length) : cutV (ws.map V.str) (some (-3)) none = (ws.drop (ws.length - 3)).map V.str := by
  unfold cutV
  have e1 : HT.sIx (ws.map V.str).length 0 (some (-3)) = ws.length - 3 := by
    rw [List.length_map]
    exact sIx_neg _ _ 3 (by decide) h
  rw [e1, HT.sIx_none, List.map_drop, List.take_of_length_le (by rw [List.length_drop]; exact Nat.le_refl _)]
theorem cut_1 (ws : List Str) (h : 1 ≤ ws.length) : cutV (ws.map V.str) (some 1) none = (ws.drop 1).map V.str := by
  unfold cutV
  have e1 : HT.sIx (ws.map V.str).length 0 (some 1) = 1 := by
    rw [show (1 : Int) = ((1 : Nat) : Int) from rfl, HT.sIx_nat, List.length_map]
    omega
  rw [e1, HT.sIx_none, List.map_drop, List.take_of_length_le (by rw [List.length_drop]; exact Nat.le_refl _)]
def nmz : List Str := ["i", "j", "~i", "~j"]
def cmps : List Str := ["<", "<=", "==", "!="]
def plcs : List Str := ["i,j", "j,i", "i,~j", "~j,i", "~i,j", "j,~i", "~i,~j", "~j,~i"]
def counts (z : Str) : Option (Nat × Nat) := if z = "swap" then some (2, 2) else if z = "copy" then some (2, 2) else if z = "order" then some (2, 2) else if z = "turn" then some (3, 8) else none
def condB : List Str → Bool
  | [] => true
  | [l, s, r] => memB nmz l && (memB cmps s && (memB nmz r && !decide (l = r)))
  | _ => false
def placesB (wd : Str) (ps : List Str) : Bool := match counts wd with
  | none => false
  | some (lo, hi) => (decide (lo ≤ ps.length) && decide (ps.length ≤ hi)) && (decide (dcount ps.reverse = ps.length) && ps.all (memB plcs))
def deedB (z : Str) : Bool := placesB (deedD z).w (deedD z).ps && condB (deedD z).cs
def okDeed : V → Bool
  | .str z => deedB z
  | _ => false
/-- a value that may be passed where a deed is asked for -/
def DAny (K : PySem.W.Frag) (H : Hp) (v : V) : Prop := (∃ z : Str, v = .str z ∧ z.length ≤ 2000) ∨ ((∀ z, v ≠ .str z) ∧ ∃ t, TyX K H v t ∧ PySem.W.kitOne K t (.type "str") = some false)
theorem DAny.ext {K : PySem.W.Frag} {H H' : Hp} {v : V} (e : Same H H') (h : DAny K H v) : DAny K H' v := by
  rcases h with h | ⟨h1, t, h2, h3⟩
  · exact .inl h
  · exact .inr ⟨h1, t, tyX_ext e h2, h3⟩
theorem spl_len (S : List Nat) : ∀ (l : List Nat) (k : Nat) (acc : List Nat), (spl S k acc l).length ≤ l.length + 1
  | [], k, acc => by rw [spl_nil]; exact Nat.le_refl _
  | c :: r, 0, acc => by
    unfold spl
    split
    · rw [List.length_cons, List.length_cons]
      exact Nat.succ_le_succ (spl_len S r _ _)
    · rw [List.length_cons]
      exact Nat.le_succ_of_le (spl_len S r 0 _)
  | _ :: r, k + 1, acc => by
    rw [List.length_cons]
    exact Nat.le_succ_of_le (spl_len S r k acc)
theorem split_len (z : Str) : (Txt.split z " ").length ≤ z.length + 1 := by
  have h := split_spl z " " (by decide +kernel) (kind_one z " " (by decide +kernel))
  have e := congrArg List.length h
  rw [List.length_map] at e
  rw [e, len_tl]
  exact spl_len _ _ _ _
theorem deed_len (z : Str) : (deedD z).ps.length ≤ z.length + 1 ∧ ((deedD z).cs = [] ∨ (deedD z).cs.length = 3) := by
  have h := split_len z
  unfold deedD deedW
  split
  · rename_i hc
    refine ⟨?_, .inr ?_⟩
    · show (((Txt.split z " ").drop 1).take _).length ≤ _
      rw [List.length_take, List.length_drop]
      omega
    · show ((Txt.split z " ").drop _).length = 3
      rw [List.length_drop]
      omega
  · refine ⟨?_, .inl rfl⟩
    show ((Txt.split z " ").drop 1).length ≤ _
    rw [List.length_drop]
    omega
theorem okDeed_no {v : V} (h : ∀ z, v ≠ .str z) : okDeed v = false := by
  cases v with
  | str z => exact absurd rfl (h z)
  | _ => rfl

/-- the statements up to a point: either a return, or what holds behind them -/
theorem st_or {t : TS} {D : Ends} {σ : L2.St} {H : Hp} (J : L2.St → Hp → Prop) (h : ∀ D' : Ends, D'.rt = D.rt → (∀ σ' H', J σ' H' → D'.nx σ' H') → t D' σ H) (k : ∀ σ' H', J σ' H' → D.nx σ' H') : t D σ H := h D rfl k
theorem asg2_ {te : TE} {i j : Nat} {D : Ends} {σ : L2.St} {H : Hp} (h : te σ H fun x H1 => D.nx ((σ.set i (some x)).set j (some x)) H1) : tAsg2 te (gName i) (gName j) D σ H := h
def ctab : List (Str × Int × Int) := [("swap", 2, 2), ("copy", 2, 2), ("order", 2, 2), ("turn", 3, 8)]
def ptab : List (Str × Int) := [("i,j", 0), ("j,i", 1), ("i,~j", 2), ("~j,i", 3), ("~i,j", 4), ("j,~i", 5), ("~i,~j", 6), ("~j,~i", 7)]
def ntab : List (Str × Int) := [("i", 0), ("j", 1), ("~i", 2), ("~j", 3)]
def tabI (t : List (Str × Int)) : List (Str × V) := t.map fun q => (q.1, V.int q.2)
def placeIx (z : Str) : Int := (ptab.lookup z).getD 0
def numIx (z : Str) : Int := (ntab.lookup z).getD 0
theorem look_I : ∀ (t : List (Str × Int)) (z : Str), (tabI t).lookup z = (t.lookup z).map V.int
  | [], z => rfl
  | q :: t, z => by
    unfold tabI
    rw [List.map_cons, List.lookup_cons, List.lookup_cons]
    cases h : z == q.1 with
    | true => rfl
    | false => exact look_I t z
theorem look_some {α : Type} : ∀ (t : List (Str × α)) (z : Str), (t.lookup z).isSome = memB (t.map (·.1)) z
  | [], z => rfl
  | q :: t, z => by
    rw [List.lookup_cons]
    have ih := look_some t z
    unfold memB at ih ⊢
    rw [List.map_cons, List.any_cons]
    cases h : z == q.1 with
    | true => rw [show (q.1 == z) = true by rw [beq_iff_eq] at h ⊢; exact h.symm]; rfl
    | false => rw [show (q.1 == z) = false by rw [beq_eq_false_iff_ne] at h ⊢; exact h.symm, Bool.false_or]; exact ih
theorem plc_some (z : Str) : (ptab.lookup z).isSome = memB plcs z := (look_some ptab z).trans (by rfl)
theorem num_some (z : Str) : (ntab.lookup z).isSome = memB nmz z := (look_some ntab z).trans (by rfl)
theorem place_of {z : Str} (h : memB plcs z = true) : (tabI ptab).lookup z = some (.int (placeIx z)) := by
  rw [look_I]
  unfold placeIx
  have := plc_some z
  rw [h] at this
  cases e : ptab.lookup z with
  | none => rw [e] at this; cases this
  | some i => rfl
theorem num_of {z : Str} (h : memB nmz z = true) : (tabI ntab).lookup z = some (.int (numIx z)) := by
  rw [look_I]
  unfold numIx
  have := num_some z
  rw [h] at this
  cases e : ntab.lookup z with
  | none => rw [e] at this; cases this
  | some i => rfl
theorem num_in (z : Str) : ((tabI ntab).lookup z).isSome = memB nmz z := by
  rw [look_I, Option.isSome_map, num_some]
theorem place_in (z : Str) : ((tabI ptab).lookup z).isSome = memB plcs z := by
  rw [look_I, Option.isSome_map, plc_some]
theorem place_inj : ∀ a ∈ plcs, ∀ b ∈ plcs, placeIx a = placeIx b → a = b := by decide +kernel
/-- how often texts are met, and their indexes -/
theorem dc_iff : ∀ l : List Str, dcount l = l.length ↔ l.Nodup
  | [] => by simp [dcount]
  | x :: r => by
    have ih := dc_iff r
    have le := dcount_le r
    have e : dcount (x :: r) = if r.any (· == x) = true then dcount r else dcount r + 1 := by rw [dcount]
    have a : r.any (· == x) = true ↔ x ∈ r := by
      rw [List.any_eq_true]
      exact ⟨fun ⟨y, hy, h⟩ => beq_iff_eq.mp h ▸ hy, fun h => ⟨x, h, by simp⟩⟩
    rw [e, List.length_cons, List.nodup_cons]
    by_cases h : x ∈ r
    · rw [if_pos (a.mpr h)]
      constructor
      · intro z
        omega
      · exact fun z => absurd h z.1
    · rw [if_neg (fun z => h (a.mp z))]
      constructor
      · exact fun z => ⟨h, ih.mp (by omega)⟩
      · exact fun z => by rw [ih.mpr z.2]
theorem dc_rev (l : List Str) : dcount l.reverse = l.length ↔ l.Nodup := by
  have := dc_iff l.reverse
  rw [List.length_reverse] at this
  rw [this]
  unfold List.Nodup
  rw [List.pairwise_reverse]
  exact ⟨fun h => h.imp fun e => e.symm, fun h => h.imp fun e => e.symm⟩
theorem nodup_ix : ∀ ps : List Str, (∀ x ∈ ps, memB plcs x = true) → ((ps.map placeIx).Nodup ↔ ps.Nodup)
  | [], _ => by simp
  | a :: ps, h => by
    rw [List.map_cons, List.nodup_cons, List.nodup_cons, nodup_ix ps fun x hx => h x (List.mem_cons_of_mem _ hx)]
    refine and_congr_left fun _ => not_congr ⟨fun m => ?_, fun m => List.mem_map_of_mem m⟩
    obtain ⟨b, hb, e⟩ := List.mem_map.mp m
    have := place_inj b (memB_iff.mp (h b (List.mem_cons_of_mem _ hb))) a (memB_iff.mp (h a (List.mem_cons_self ..))) e
    exact this ▸ hb
/-! ### what stands where a deed was read -/
def CondAt (H : Hp) (c : V) (cs : List Str) : Prop := (cs = [] ∧ c = .non) ∨ ∃ (a : Addr) (l s r : Str), cs = [l, s, r] ∧ c = .ref a ∧ H a = some (.tup [.int (numIx l), .str s, .int (numIx r)])
def ixs (z : Str) : List Int := (deedD z).ps.map placeIx
def startsD (z : Str) : List Int := if (deedD z).w = "copy" then (ixs z).take 1 else ixs z
def endsD (z : Str) : List Int := if (deedD z).w = "copy" then (ixs z).drop 1 else if (deedD z).w = "order" then ixs z else (ixs z).drop 1 ++ (ixs z).take 1
def PlanAt (H : Hp) (p : Addr) (z : Str) : Prop := ∃ (ts te : Addr) (c : V), H p = some (.tup [.ref ts, .ref te, .bl (decide ((deedD z).w = "order")), c]) ∧ H ts = some (.tup ((startsD z).map V.int)) ∧
  H te = some (.tup ((endsD z).map V.int)) ∧ CondAt H c (deedD z).cs
theorem CondAt.same {H H' : Hp} {c : V} {cs : List Str} (h : CondAt H c cs) (s : Same H H') : CondAt H' c cs := by
  rcases h with h | ⟨a, l, x, r, h1, h2, h3⟩
  · exact .inl h
  · exact .inr ⟨a, l, x, r, h1, h2, s _ _ h3⟩
theorem PlanAt.same {H H' : Hp} {p : Addr} {z : Str} (h : PlanAt H p z) (s : Same H H') : PlanAt H' p z := by
  obtain ⟨ts, te, c, h1, h2, h3, h4⟩ := h
  exact ⟨ts, te, c, s _ _ h1, s _ _ h2, s _ _ h3, h4.same s⟩
def spReadC (K : PySem.W.Frag) : Sp := fun vs H Q _ => ∃ (l : Addr) (cs : List Str), vs = [.ref l] ∧ SqL K H l (cs.map V.str) ∧ cs.length = 3 ∧ (condB cs = false → ∀ H', Same H H' → Q .non H') ∧
  (condB cs = true → ∀ p H', H p = none → Same H H' → CondAt H' (.ref p) cs → Q (.ref p) H')
def spReadD (K : PySem.W.Frag) : Sp := fun vs H Q _ => ∃ v : V, vs = [v] ∧ DAny K H v ∧ (okDeed v = false → ∀ H', Same H H' → Q .non H') ∧
  (okDeed v = true → ∀ z p H', v = .str z → H p = none → Same H H' → PlanAt H' p z → Q (.ref p) H')
/-- the written dict of the words -/
structure CntD (K : PySem.W.Frag) (w : World) (d : Addr) : Prop where
  ex : ∃ L : List (Str × Addr × Int × Int), TDict K w d (L.map fun q => (q.1, V.ref q.2.1)) ∧ (∀ q ∈ L, ∀ H, SqT K H q.2.1 [.int q.2.2.1, .int q.2.2.2]) ∧ L.map (fun q => (q.1, q.2.2)) = ctab
def intW (v : Value) : Option Int := match v with
  | .int i _ => some i
  | _ => none
theorem intD_of {K : PySem.W.Frag} {w : World} {d : Addr} {es : Array DictEntry} {n : Nat} {tb : List (Str × Int)} (lk : K.lookup d = some ⟨.type "dict", none, .dict es n, #[]⟩) (lit : PySem.W.KeysLit w.params es.toList) (hs : (d == sysModules) = false)
    (hk : es.toList.map (fun e => (strW e.key, intW e.val)) = tb.map (fun q => (some q.1, some q.2))) : TDict K w d (tabI tb) := by
  have go : ∀ {es : List DictEntry} {tb : List (Str × Int)}, es.map (fun e => (strW e.key, intW e.val)) = tb.map (fun q => (some q.1, some q.2)) →
      es.map (fun e => strW e.key) = (tabI tb).map (fun q => some q.1) ∧ Vals ((tabI tb).map (·.2)) (es.map (·.val)) := by
    intro es
    induction es with
    | nil =>
      intro tb h
      cases tb with
      | nil => exact ⟨rfl, .nil⟩
      | cons _ _ => cases h
    | cons e es ih =>
      intro tb h
      cases tb with
      | nil => cases h
      | cons q tb =>
        obtain ⟨h1, h2⟩ := List.cons.inj h
        obtain ⟨a1, a2⟩ := ih h2
        obtain ⟨k1, k2⟩ := Prod.mk.inj h1
        refine ⟨?_, ?_⟩
        · rw [List.map_cons, a1]
          exact congrArg (fun x => x :: _) k1
        · refine .cons (?_ : RelV (V.int q.2) e.val) a2
          unfold intW at k2
          split at k2
          · rename_i i t e1
            cases k2
            rw [e1]
            exact ⟨t, rfl⟩
          · cases k2
  obtain ⟨a1, a2⟩ := go hk
  exact TDict.of lk lit hs a1 a2
theorem CntD.of {K : PySem.W.Frag} {w : World} {d : Addr} {es : Array DictEntry} {n : Nat} (lk : K.lookup d = some ⟨.type "dict", none, .dict es n, #[]⟩) (lit : PySem.W.KeysLit w.params es.toList) (hs : (d == sysModules) = false)
    (hk : es.toList.map (fun e => (strW e.key, tupW K e.val)) = ctab.map (fun q => (some q.1, some [q.2.1, q.2.2]))) : CntD K w d := by
  have go : ∀ {es : List DictEntry} {tb : List (Str × Int × Int)}, es.map (fun e => (strW e.key, tupW K e.val)) = tb.map (fun q => (some q.1, some [q.2.1, q.2.2])) →
      ∃ L : List (Str × Addr × Int × Int), es.map (fun e => strW e.key) = L.map (fun q => some q.1) ∧ Vals (L.map fun q => V.ref q.2.1) (es.map (·.val)) ∧ (∀ q ∈ L, ∀ H, SqT K H q.2.1 [.int q.2.2.1, .int q.2.2.2]) ∧ L.map (fun q => (q.1, q.2.2)) = tb := by
    intro es
    induction es with
    | nil =>
      intro tb h
      cases tb with
      | nil => exact ⟨[], rfl, .nil, (fun q hq => by cases hq), rfl⟩
      | cons _ _ => cases h
    | cons e es ih =>
      intro tb h
      cases tb with
      | nil => cases h
      | cons q tb =>
        obtain ⟨h1, h2⟩ := List.cons.inj h
        obtain ⟨L, a1, a2, a3, a4⟩ := ih h2
        obtain ⟨k1, k2⟩ := Prod.mk.inj h1
        obtain ⟨a, ea, ha⟩ := tupW_at k2 (show 2 ≤ 3 by decide)
        refine ⟨(q.1, a, q.2) :: L, ?_, ?_, ?_, ?_⟩
        · rw [List.map_cons, List.map_cons, a1]
          exact congrArg (fun x => x :: _) k1
        · exact .cons (by show RelV (V.ref a) e.val; rw [ea]; rfl) a2
        · intro r hr
          rcases List.mem_cons.mp hr with e2 | hr
          · rw [e2]
            exact ha
          · exact a3 r hr
        · rw [List.map_cons, a4]
  obtain ⟨L, a1, a2, a3, a4⟩ := go hk
  refine ⟨L, TDict.of lk lit hs ?_ ?_, a3, a4⟩
  · rw [a1, List.map_map]
    rfl
  · rw [List.map_map]
    exact a2
theorem cnt_look {K : PySem.W.Frag} {L : List (Str × Addr × Int × Int)} (hb : ∀ q ∈ L, ∀ H, SqT K H q.2.1 [.int q.2.2.1, .int q.2.2.2]) (h : L.map (fun q => (q.1, q.2.2)) = ctab) (z : Str) :
    (counts z = none ∧ (L.map fun q => (q.1, V.ref q.2.1)).lookup z = none) ∨ ∃ (lo hi : Nat) (a : Addr), counts z = some (lo, hi) ∧ (L.map fun q => (q.1, V.ref q.2.1)).lookup z = some (.ref a) ∧ ∀ H, SqT K H a [.int (lo : Int), .int (hi : Int)] := by
  have tab : ∀ q ∈ ctab, ∃ lo hi : Nat, counts q.1 = some (lo, hi) ∧ q.2 = ((lo : Int), (hi : Int)) := by
    intro q hq
    unfold ctab at hq
    simp only [List.mem_cons, List.not_mem_nil, or_false] at hq
    rcases hq with rfl | rfl | rfl | rfl
    · exact ⟨2, 2, by rfl, rfl⟩
    · exact ⟨2, 2, by rfl, rfl⟩
    · exact ⟨2, 2, by rfl, rfl⟩
    · exact ⟨3, 8, by rfl, rfl⟩
  have lm : match (L.map fun q => (q.1, V.ref q.2.1)).lookup z with
      | none => ∀ q ∈ L, q.1 ≠ z
      | some v => ∃ q ∈ L, q.1 = z ∧ v = .ref q.2.1 := by
    clear h hb
    induction L with
    | nil => exact fun q hq => by cases hq
    | cons q L ih =>
      by_cases hz : z = q.1
      · subst hz
        have l : ((q :: L).map fun q => (q.1, V.ref q.2.1)).lookup q.1 = some (.ref q.2.1) := by simp [List.lookup]
        rw [l]
        exact ⟨q, List.mem_cons_self .., rfl, rfl⟩
      · have hz2 : (z == q.1) = false := by simpa using hz
        have l : ((q :: L).map fun q => (q.1, V.ref q.2.1)).lookup z = (L.map fun q => (q.1, V.ref q.2.1)).lookup z := by simp [List.lookup, hz2]
        rw [l]
        cases e : (L.map fun q => (q.1, V.ref q.2.1)).lookup z with
        | none =>
          rw [e] at ih
          intro r hr
          rcases List.mem_cons.mp hr with rfl | hr
          · exact fun e => hz e.symm
          · exact ih r hr
        | some v =>
          rw [e] at ih
          obtain ⟨r, hr, e1, e2⟩ := ih
          exact ⟨r, List.mem_cons_of_mem _ hr, e1, e2⟩
  cases e : (L.map fun q => (q.1, V.ref q.2.1)).lookup z with
  | none =>
    rw [e] at lm
    refine .inl ⟨?_, rfl⟩
    have nm : ∀ q ∈ ctab, q.1 ≠ z := by
      intro q hq
      rw [← h] at hq
      obtain ⟨r, hr, e2⟩ := List.mem_map.mp hq
      rw [← e2]
      exact lm r hr
    unfold counts
    rw [if_neg (fun e => nm ("swap", 2, 2) (by decide) e.symm), if_neg (fun e => nm ("copy", 2, 2) (by decide) e.symm), if_neg (fun e => nm ("order", 2, 2) (by decide) e.symm), if_neg (fun e => nm ("turn", 3, 8) (by decide) e.symm)]
  | some v =>
    rw [e] at lm
    obtain ⟨q, hq, e1, e2⟩ := lm
    obtain ⟨lo, hi, c1, c2⟩ := tab (q.1, q.2.2) (by rw [← h]; exact List.mem_map_of_mem (f := fun q : Str × Addr × Int × Int => (q.1, q.2.2)) hq)
    have e3 : q.2.2 = ((lo : Int), (hi : Int)) := c2
    refine .inr ⟨lo, hi, q.2.1, e1 ▸ c1, by rw [e2], fun H => ?_⟩
    have := hb q hq H
    rw [e3] at this
    exact this
theorem cut_t1 (xs : List V) : cutV xs none (some 1) = xs.take 1 := by
  unfold cutV
  rw [HT.sIx_none, Nat.sub_zero, List.drop_zero, show (1 : Int) = ((1 : Nat) : Int) from rfl, HT.sIx_nat]
  cases xs with
  | nil => rfl
  | cons x r =>
    rw [Nat.min_eq_left (by simp)]
theorem cut_d1 (xs : List V) : cutV xs (some 1) none = xs.drop 1 := by
  unfold cutV
  rw [HT.sIx_none, show (1 : Int) = ((1 : Nat) : Int) from rfl, HT.sIx_nat]
  cases xs with
  | nil => rfl
  | cons x r =>
    rw [Nat.min_eq_left (by simp), List.take_of_length_le (by rw [List.length_drop]; exact Nat.le_refl _)]
theorem cut_m4 (ws : List Str) (h : 4 < ws.length) : cutV (ws.map V.str) none (some (-4)) = (ws.take (ws.length - 4)).map V.str := by
  unfold cutV
  have e2 : HT.sIx (ws.map V.str).length (ws.map V.str).length (some (-4)) = ws.length - 4 := by
    rw [List.length_map]
    exact sIx_neg _ _ 4 (by decide) (by omega)
  rw [HT.sIx_none, e2, List.drop_zero, Nat.sub_zero, List.map_take]
/-- what a deed's check asks, by the indexes of its places -/
theorem places_ok {wd : Str} {ps : List Str} {lo hi : Nat} (h : counts wd = some (lo, hi)) (h1 : lo ≤ ps.length) (h2 : ps.length ≤ hi) :
    placesB wd ps = !decide ((cntI ((ps.filter (memB plcs)).map placeIx) : Int) < (ps.length : Int)) := by
  unfold placesB
  rw [h]
  show (decide (lo ≤ ps.length) && decide (ps.length ≤ hi) && (decide (dcount ps.reverse = ps.length) && ps.all (memB plcs))) = _
  rw [decide_eq_true h1, decide_eq_true h2, Bool.and_self, Bool.true_and]
  have le := cnt_le ((ps.filter (memB plcs)).map placeIx)
  have lf := List.length_filter_le (memB plcs) ps
  rw [List.length_map] at le
  by_cases ha : ∀ x ∈ ps, memB plcs x = true
  · have fe : ps.filter (memB plcs) = ps := List.filter_eq_self.mpr ha
    rw [fe, List.all_eq_true.mpr ha, Bool.and_true]
    have cn := cnt_nodup (ps.map placeIx)
    rw [List.length_map, nodup_ix ps ha, ← dc_rev] at cn
    rw [fe] at le
    by_cases hd : dcount ps.reverse = ps.length
    · rw [decide_eq_true hd, decide_eq_false (by have := cn.mpr hd; omega)]
      rfl
    · rw [decide_eq_false hd, decide_eq_true (by have : ¬ cntI (ps.map placeIx) = ps.length := fun e => hd (cn.mp e); omega)]
      rfl
  · have hf : ps.all (memB plcs) = false := by
      cases e : ps.all (memB plcs) with
      | false => rfl
      | true => exact absurd (List.all_eq_true.mp e) ha
    have lt : (ps.filter (memB plcs)).length < ps.length := by
      refine Nat.lt_of_le_of_ne lf fun e => ha ?_
      exact List.filter_eq_self.mp (List.filter_sublist.eq_of_length e)
    rw [hf, Bool.and_false, decide_eq_true (by omega)]
    rfl
end Sq
namespace Sq
open PySem L2 TL
section
variable {P : Program} {w : World} {K : PySem.W.Frag} {mg : Str → Option Value} {base : Heap}
abbrev s_read_condition : Stmt := top 29
theorem sc_read_condition : FnScope ["words", "left", "sign", "right"] ["words"] (defScope s_read_condition) := ⟨rfl, rfl, rfl, by decide +kernel, rfl, by decide +kernel, by decide +kernel⟩
theorem ok_read_condition {f : Addr} {fd : FuncData} (F : Fun K "read_condition" "read_condition" s_read_condition f fd) (T : Bt mg) {aN aS : Addr} (mN : mg "NUMBERS" = some (.ref aN)) (DN : TDict K w aN (tabI ntab)) (mS : mg "COMPARISONS" = some (.ref aS)) (tS : ∀ H, SqT K H aS (cmps.map V.str)) : FnOk P w K mg base CX0 1 f fd ["words"] (spReadC K) := by
  refine F.ok sc_read_condition (fun vs H Q E h => ?_) (fun cdv A outer s H vs Q E hr h => ?_)
  · obtain ⟨l, cs, rfl, _⟩ := h
    rfl
  · obtain ⟨l, cs, rfl, hl, h3, qn, qs⟩ := h
    refine ⟨_, (pss_cons (ps_asg (pv 0) (pg_unl (by rfl) (pgs_cons (pg_name (i := 1) sc_read_condition.nd rfl (by first | exact .inl rfl | exact .inr rfl)) (pgs_cons (pg_name (i := 2) sc_read_condition.nd rfl (by first | exact .inl rfl | exact .inr rfl)) (pgs_cons (pg_name (i := 3) sc_read_condition.nd rfl (by first | exact .inl rfl | exact .inr rfl)) pgs_nil)))))
        (pss_cons (ps_if (PW.pt (pw_or (pt_cmpR (op_notInT DN) (pv 1) (pe_glob (v := .ref aN) (by rfl) mN rfl) (by with_unfolding_all rfl)) (pw_or (pt_cmpR op_notIn_seq (pv 2) (pe_glob (v := .ref aS) (by rfl) mS rfl) (by with_unfolding_all rfl)) (pw_or (pt_cmpR (op_notInT DN) (pv 3) (pe_glob (v := .ref aN) (by rfl) mN rfl) (by with_unfolding_all rfl)) (pw_or1 (pt_cmpR op_eq (pv 1) (pv 3) (nomark _)))))))
        (pss_one (ps_ret pe_non))
        pss_nil)
        (pss_one (ps_ret (pe_tup (pa_cons (pe_ix (ix_T DN) (pe_glob (v := .ref aN) (by rfl) mN rfl) (pv 1) (fun _ _ => rfl)) (pa_cons (pv 2) (pa_cons (pe_ix (ix_T DN) (pe_glob (v := .ref aN) (by rfl) mN rfl) (pv 3) (fun _ _ => rfl)) pa_nil)))))))), ?_⟩
    obtain ⟨x, y, z, rfl⟩ := three_of cs h3
    refine sq_ (asg_ ?_)
    refine ⟨_, rfl, l, _, rfl, hl, rfl, _, _, rfl, _, _, rfl, _, _, rfl, rfl, ?_⟩
    refine pr_seq (if_ ?_)
    have bad : condB [x, y, z] = false → Q .non H := fun e => qn e _ (Same.refl _)
    refine ⟨_, rfl, _, rfl, rfl, _, rfl, ?_⟩
    rw [num_in]
    cases hx : memB nmz x with
    | false => exact iteT (bad (by simp [condB, hx]))
    | true =>
    refine iteF ?_
    refine ⟨_, rfl, aS, _, rfl, .inr (tS _), rfl, flat_strs _, _, rfl, ?_⟩
    rw [inV_str]
    cases hy : memB cmps y with
    | false => exact iteT (bad (by simp [condB, hx, hy]))
    | true =>
    refine iteF ?_
    refine ⟨_, rfl, _, rfl, rfl, _, rfl, ?_⟩
    rw [num_in]
    cases hz : memB nmz z with
    | false => exact iteT (bad (by simp [condB, hx, hy, hz]))
    | true =>
    refine iteF ?_
    refine ⟨_, rfl, _, rfl, rfl, _, rfl, ?_⟩
    by_cases e : x = z
    · subst e
      rw [show decide (V.str x = V.str x) = true from decide_eq_true rfl]
      exact iteT (bad (by simp [condB]))
    · have e2 : ¬ V.str x = V.str z := fun q => e (V.str.inj q)
      rw [decide_eq_false e2]
      refine iteF ?_
      refine pr_one (ret_ ?_)
      refine ⟨_, rfl, _, _, rfl, rfl, num_of hx, ?_⟩
      refine ⟨_, rfl, _, rfl, _, _, rfl, rfl, num_of hz, ?_⟩
      refine ⟨(by show 3 ≤ sizeLine; decide), fun p np => ?_⟩
      exact qs (by simp [condB, hx, hy, hz, e]) p _ np (same_new np) (.inr ⟨p, x, y, z, rfl, rfl, upd_same⟩)
end
end Sq
namespace Sq
open PySem L2 TL
section
variable {P : Program} {w : World} {K : PySem.W.Frag} {mg : Str → Option Value} {base : Heap}
abbrev s_read_deed : Stmt := top 28
theorem sc_read_deed : FnScope ["value", "words", "condition", "word", "names", "least", "most", "places", "name", "starts", "ends"] ["value"] (defScope s_read_deed) := ⟨rfl, rfl, rfl, by decide +kernel, rfl, by decide +kernel, by decide +kernel⟩
theorem ok_read_deed {f : Addr} {fd : FuncData} (F : Fun K "read_deed" "read_deed" s_read_deed f fd) (T : Bt mg) {aC aP : Addr} (mC : mg "PLACE_COUNTS" = some (.ref aC)) (DC : CntD K w aC) (mP : mg "PLACE_INDEXES" = some (.ref aP)) (DP : TDict K w aP (tabI ptab)) (mset : mg "set" = none) (G_read_condition : FB P w K mg base "read_condition" 1 ["words"] (spReadC K)) : FnOk P w K mg base CX0 2 f fd ["value"] (spReadD K) := by
  refine F.ok sc_read_deed (fun vs H Q E h => ?_) (fun cdv A outer s H vs Q E hr h => ?_)
  · obtain ⟨v, rfl, _⟩ := h
    rfl
  · obtain ⟨v, rfl, hv, qn, qs⟩ := h
    obtain ⟨LC, LD, pC, eC⟩ := DC.ex
    refine ⟨_, (pss_cons (ps_set (i := 1) sc_read_deed.nd rfl (by first | exact .inl rfl | exact .inr rfl) (pe_ifExp (pt_val (pe_callB call_isi (by rfl) T.isinstance (by decide +kernel) (pa_cons (pv 0) (pa_cons (pe_bltn (v := .ty "str") (by rfl) T.str (by decide +kernel) rfl) pa_nil)))) (pe_split (pv 0) pe_str) (pe_lst (pa_cons pe_str pa_nil))))
        (pss_cons (ps_set (i := 2) sc_read_deed.nd rfl (by first | exact .inl rfl | exact .inr rfl) pe_non)
        (pss_cons (ps_if (PW.pt (pw_and (pt_cmpR op_gt (pe_callB call_len_seq (by rfl) T.len PySem.boot_len (pa_cons (pv 1) pa_nil)) pe_int (nomark _)) (pw_and1 (pt_cmpR op_eq (pe_ix ix_list (pv 1) (pe_un un_neg pe_int) (fun _ _ => rfl)) pe_str (nomark _)))))
        (pss_cons (ps_set (i := 2) sc_read_deed.nd rfl (by first | exact .inl rfl | exact .inr rfl) (pe_fb G_read_condition hr (by decide) (by rfl) (pa_cons (pe_slice sl_list (pv 1) (po_some (pe_un un_neg pe_int)) po_none) pa_nil)))
        (pss_cons (ps_if (pt_cmpR op_isN (pv 2) pe_non (nomark _))
        (pss_one (ps_ret pe_non))
        pss_nil)
        (pss_one (ps_set (i := 1) sc_read_deed.nd rfl (by first | exact .inl rfl | exact .inr rfl) (pe_slice sl_list (pv 1) po_none (po_some (pe_un un_neg pe_int)))))))
        pss_nil)
        (pss_cons (ps_asg (pv 1) (pg_starL (i := 1) rfl (pgs_cons (pg_name (i := 3) sc_read_deed.nd rfl (by first | exact .inl rfl | exact .inr rfl)) (pgs_star (pg_name (i := 4) sc_read_deed.nd rfl (by first | exact .inl rfl | exact .inr rfl))))))
        (pss_cons (ps_asg (pe_getT LD (by rfl) mC (pv 3) (pe_tup (pa_cons pe_int (pa_cons pe_int pa_nil))) ⟨by rfl, by rfl, by rfl, by rfl⟩) (pg_tup (by rfl) (pgs_cons (pg_name (i := 5) sc_read_deed.nd rfl (by first | exact .inl rfl | exact .inr rfl)) (pgs_cons (pg_name (i := 6) sc_read_deed.nd rfl (by first | exact .inl rfl | exact .inr rfl)) pgs_nil))))
        (pss_cons (ps_setLc (i := 7) (own := [("name", 8)]) (g := gName 8) (by rfl) sc_read_deed.nd rfl rfl (by rfl) (pi_list (pv 4)) (blkOk_by (own := [("name", 8)]) (N := ["value", "words", "condition", "word", "names", "least", "most", "places", "name", "starts", "ends"]) (sc := defScope s_read_deed) (by decide +kernel))
            (fun _ _ _ _ _ => (pg_name (i := 8) sc_read_deed.nd rfl (by first | exact .inl rfl | exact .inr rfl))) (fun _ _ _ _ _ => (pts_one (pt_cmpR (op_inT DP) (pv 8) (pe_glob (v := .ref aP) (by rfl) mP rfl) (by with_unfolding_all rfl)))) (fun _ _ _ _ _ => (pe_ix (ix_T DP) (pe_glob (v := .ref aP) (by rfl) mP rfl) (pv 8) (fun _ _ => rfl))))
        (pss_cons (ps_if (PW.pt (pw_or (pt_not (pt_chain op_le op_le (pv 5) (pe_callB call_len_seq (by rfl) T.len PySem.boot_len (pa_cons (pv 4) pa_nil)) (pv 6))) (pw_or1 (pt_cmpR op_lt (pe_lenSetN (by rfl) T.len (by rfl) mset (pv 7)) (pe_callB call_len_seq (by rfl) T.len PySem.boot_len (pa_cons (pv 4) pa_nil)) (nomark _)))))
        (pss_one (ps_ret pe_non))
        pss_nil)
        (pss_cons (ps_asg2 (pv 7) (pg_name (i := 9) sc_read_deed.nd rfl (by first | exact .inl rfl | exact .inr rfl)) (pg_name (i := 10) sc_read_deed.nd rfl (by first | exact .inl rfl | exact .inr rfl)))
        (pss_cons (ps_if (pt_cmpR op_eq (pv 3) pe_str (nomark _))
        (pss_one (ps_par (i := 9) (j := 10) (by rfl) sc_read_deed.nd rfl rfl (by decide) rfl rfl (pa_cons (pe_slice sl_list (pv 7) po_none (po_some pe_int)) (pa_cons (pe_slice sl_list (pv 7) (po_some pe_int) po_none) pa_nil)) (by rfl)))
        (pss_one (ps_if (pt_cmpR op_ne (pv 3) pe_str (nomark _))
        (pss_one (ps_set (i := 10) sc_read_deed.nd rfl (by first | exact .inl rfl | exact .inr rfl) (pe_op op_cat (pe_slice sl_list (pv 7) (po_some pe_int) po_none) (pe_slice sl_list (pv 7) po_none (po_some pe_int)))))
        pss_nil)))
        (pss_one (ps_ret (pe_tup (pa_cons (pe_tupleOf (by rfl) T.tuple (pv 9)) (pa_cons (pe_tupleOf (by rfl) T.tuple (pv 10)) (pa_cons (pe_cmpR op_eq (pv 3) pe_str (nomark _)) (pa_cons (pv 2) pa_nil)))))))))))))))), ?_⟩
    refine sq_ (set_ (gen_of (fun x H' => ∃ (p : Addr) (ws : List Str), x = .ref p ∧ Same H H' ∧ H' p = some (.lst (ws.map V.str)) ∧ ws.length ≤ 2001 ∧ (ws = [("" : Str)] ∧ okDeed v = false ∨ ∃ z, v = .str z ∧ ws = Txt.split z " ")) (fun Q' k => ?_) ?_))
    · rcases hv with ⟨z, rfl, hz⟩ | ⟨hn, t, ht, hk⟩
      · refine ⟨_, rfl, _, _, .type "str", _, true, rfl, .ty "str", .base (.str z), kit_ty (by decide +kernel), true, rfl, ?_⟩
        refine iteT ?_
        have big : 3000 ≤ sizeLine := by decide
        have sl := split_len z
        refine ⟨_, rfl, ⟨_, rfl⟩, _, _, rfl, rfl, rfl, by omega, fun p np => ?_⟩
        exact k _ _ ⟨p, _, rfl, same_new np, upd_same, by omega, .inr ⟨z, rfl, rfl⟩⟩
      · refine ⟨_, rfl, _, _, t, _, false, rfl, .ty "str", ht, hk, false, rfl, ?_⟩
        refine iteF ?_
        refine ⟨(by show 1 ≤ sizeLine; decide), fun p np => ?_⟩
        exact k _ _ ⟨p, [("" : Str)], rfl, same_new np, upd_same, by decide, .inl ⟨rfl, okDeed_no hn⟩⟩
    rintro _ H1 ⟨p, ws, rfl, s1, hp, hn, hw⟩
    have ne : ws ≠ [] := by
      rcases hw with ⟨e, _⟩ | ⟨z, _, e⟩
      · rw [e]
        exact List.cons_ne_nil _ _
      · rw [e]
        exact split_ne z
    have okv : okDeed v = (placesB (deedW ws).w (deedW ws).ps && condB (deedW ws).cs) := by
      rcases hw with ⟨e1, e2⟩ | ⟨z, rfl, e1⟩
      · rw [e2, e1]
        rfl
      · show (placesB (deedD z).w (deedD z).ps && condB (deedD z).cs) = _
        unfold deedD
        rw [e1]
    have hDz : ∀ z, v = .str z → okDeed v = true → deedD z = deedW ws := fun z e o => by
      rcases hw with ⟨e1, e2⟩ | ⟨y, e1, e2⟩
      · rw [e2] at o
        cases o
      · rw [e] at e1
        cases e1
        unfold deedD
        rw [e2]
    have lenps : (deedW ws).ps.length ≤ 2001 := by
      unfold deedW
      split
      · show ((ws.drop 1).take _).length ≤ _
        rw [List.length_take, List.length_drop]
        omega
      · show (ws.drop 1).length ≤ _
        rw [List.length_drop]
        omega
    refine nm_seq (set_ ?_)
    refine pr_seq (st_or (fun σ' H' => ∃ (pw : Addr) (c : V), σ' = [some v, some (.ref pw), some c, none, none, none, none, none, none, none, none] ∧ Same H1 H' ∧ H' pw = some (.lst (((deedW ws).w :: (deedW ws).ps).map V.str)) ∧ condB (deedW ws).cs = true ∧ CondAt H' c (deedW ws).cs) (fun D' er k => if_ ?_) ?_)
    · have bad : condB (deedW ws).cs = false → ∀ H', Same H1 H' → D'.rt .non H' := fun e H' s => by
        rw [er]
        exact qn (by rw [okv, e, Bool.and_false]) H' (s1.trans s)
      have plain : ¬ (4 < ws.length ∧ ws[ws.length - 4]? = some ("if" : Str)) → D'.nx [some v, some (.ref p), some .non, none, none, none, none, none, none, none, none] H1 := by
        intro hc
        have e : deedW ws = ⟨ws.headD "", ws.drop 1, []⟩ := by
          unfold deedW
          rw [if_neg hc]
        refine k _ _ ⟨p, .non, rfl, Same.refl _, ?_, by rw [e]; rfl, .inl ⟨by rw [e], rfl⟩⟩
        rw [hp, e]
        cases ws with
        | nil => exact absurd rfl ne
        | cons a r => rfl
      refine ⟨_, rfl, p, _, rfl, .inl (SqL.of hp), _, _, rfl, rfl, _, rfl, ?_⟩
      rw [List.length_map]
      refine ite2 (fun hl => ?_) (fun hl => ?_)
      · have hl4 : 4 < ws.length := Int.ofNat_lt.mp (of_decide_eq_true hl)
        have lt : ws.length - 4 < ws.length := by omega
        have hat : atI (ws.map V.str) (-4) = some (.str ws[ws.length - 4]) := by
          have z := atI_neg (ws.map V.str) 4 (by decide) (by rw [List.length_map]; omega)
          rw [List.length_map, List.getElem?_map, List.getElem?_eq_getElem lt] at z
          exact z
        refine ⟨_, rfl, _, rfl, p, _, _, _, rfl, rfl, SqL.of hp, hat, rfl, _, rfl, ?_⟩
        refine ite2 (fun hif => ?_) (fun hif => ?_)
        · have e4 : ws[ws.length - 4]? = some ("if" : Str) := by
            rw [List.getElem?_eq_getElem lt]
            exact congrArg some (V.str.inj (of_decide_eq_true hif))
          have e : deedW ws = ⟨ws.headD "", (ws.drop 1).take (ws.length - 5), ws.drop (ws.length - 3)⟩ := by
            unfold deedW
            rw [if_pos ⟨hl4, e4⟩]
          refine sq_ (set_ ?_)
          refine ⟨_, rfl, _, rfl, _, rfl, p, _, rfl, SqL.of hp, fun p2 np2 => ?_⟩
          rw [cut_3 _ (by omega)]
          have s2 := same_new (o := .lst ((ws.drop (ws.length - 3)).map V.str)) np2
          refine ⟨p2, ws.drop (ws.length - 3), rfl, SqL.of upd_same, by rw [List.length_drop]; omega, fun ec H' s => ?_, fun ec p3 H' np3 s hc => ?_⟩
          · refine pr_seq (if_ ?_)
            refine ⟨_, rfl, rfl, _, rfl, ?_⟩
            refine iteT ?_
            exact bad (by rw [e]; exact ec) _ (s2.trans s)
          · refine pr_seq (if_ ?_)
            refine ⟨_, rfl, rfl, _, rfl, ?_⟩
            refine iteF ?_
            refine pr_one (set_ ?_)
            have hp' := (s2.trans s) _ _ hp
            refine ⟨_, rfl, _, rfl, _, rfl, p, _, rfl, SqL.of hp', fun p4 np4 => ?_⟩
            rw [cut_m4 _ hl4]
            have s4 := same_new (o := .lst ((ws.take (ws.length - 4)).map V.str)) np4
            refine k _ _ ⟨p4, .ref p3, rfl, (s2.trans s).trans s4, ?_, by rw [e]; exact ec, by rw [e]; exact hc.same s4⟩
            rw [upd_same, e]
            cases ws with
            | nil => exact absurd rfl ne
            | cons a r =>
              show some (HO.lst (((a :: r).take ((a :: r).length - 4)).map V.str)) = some (HO.lst ((a :: r.take ((a :: r).length - 5)).map V.str))
              have : (a :: r).length - 4 = ((a :: r).length - 5) + 1 := by omega
              rw [this, List.take_succ_cons]
        · exact plain fun hc => by
            obtain ⟨_, e4⟩ := hc
            rw [List.getElem?_eq_getElem lt] at e4
            exact hif (decide_eq_true (congrArg V.str (Option.some.inj e4)))
      · exact plain fun hc => hl (decide_eq_true (Int.ofNat_lt.mpr hc.1))
    rintro _ H2 ⟨pw, c, rfl, s2, hpw, cb, hc⟩
    generalize deedW ws = D at *
    obtain ⟨wd, ps, cs⟩ := D
    dsimp only at okv hDz lenps hpw cb hc
    rw [cb, Bool.and_true] at okv
    refine pr_seq (asg_ ?_)
    refine ⟨_, rfl, pw, _, rfl, SqL.of hpw, (by show 1 ≤ ((wd :: ps).map V.str).length; simp), fun Dn nDn => ?_⟩
    have s3 := same_new (o := .lst (((wd :: ps).map V.str).drop 1)) nDn
    refine ⟨_, _, rfl, _, _, rfl, rfl, ?_⟩
    have hDn : upd H2 Dn (.lst (((wd :: ps).map V.str).drop 1)) Dn = some (.lst (ps.map V.str)) := upd_same
    have sm3 := (s1.trans s2).trans s3
    replace hc := hc.same s3
    generalize upd H2 Dn (.lst (((wd :: ps).map V.str).drop 1)) = H3 at *
    refine pr_seq (asg_ (gen_of (fun x H' => ∃ (t : Addr) (lo hi : Nat), x = .ref t ∧ SqT K H' t [.int (lo : Int), .int (hi : Int)] ∧ Same H3 H' ∧ ((counts wd = none ∧ lo = 1 ∧ hi = 0) ∨ counts wd = some (lo, hi))) (fun Q' k => ?_) ?_))
    · refine ⟨_, rfl, (by show 2 ≤ sizeLine; decide), fun t nt => ⟨wd, rfl, ?_⟩⟩
      have st := same_new (o := .tup [V.int 1, V.int 0]) nt
      rcases cnt_look pC eC wd with ⟨c0, l0⟩ | ⟨lo, hi, a, c0, l0, ha⟩
      · rw [l0]
        exact k _ _ ⟨t, 1, 0, rfl, SqT.of upd_same, st, .inl ⟨c0, rfl, rfl⟩⟩
      · rw [l0]
        exact k _ _ ⟨a, lo, hi, rfl, ha _, st, .inr c0⟩
    rintro _ H4 ⟨t, lo, hi, rfl, ht, s4, hcnt⟩
    refine ⟨t, _, rfl, ht, rfl, _, _, rfl, _, _, rfl, rfl, ?_⟩
    have hDn4 := s4 _ _ hDn
    refine pr_seq (set_ (gen_of (fun x H' => ∃ Dp : Addr, x = .ref Dp ∧ Same H4 H' ∧ H' Dp = some (.lst (((ps.filter (memB plcs)).map placeIx).map V.int))) (fun Q' k => ?_) ?_))
    · refine ⟨_, rfl, Dn, rfl, ⟨_, SqL.of hDn4⟩, fun Dp nDp => ?_⟩
      refine lc_list (K := K) (a := Dn) (xs := ps.map V.str) (fun i H' => Same H4 H' ∧ H' Dp = some (.lst ((((ps.take i).filter (memB plcs)).map placeIx).map V.int))) ⟨same_new nDp, upd_same⟩ (fun i H' _ h => (SqL.of hDn4).ext h.1) (fun i x H' hx h => ?_) (fun H' h => ?_)
      · obtain ⟨sm, hD⟩ := h
        rw [List.getElem?_map] at hx
        cases hps : ps[i]? with
        | none =>
          rw [hps] at hx
          cases hx
        | some y =>
          rw [hps] at hx
          cases hx
          refine ⟨rfl, ?_⟩
          refine ⟨_, rfl, y, rfl, rfl, _, rfl, ?_⟩
          have tk : ps.take (i + 1) = ps.take i ++ [y] := by rw [List.take_add_one, hps]; rfl
          rw [tk, List.filter_append]
          show (if (((tabI ptab).lookup y).isSome) = true then _ else _)
          rw [place_in]
          cases hy : memB plcs y with
          | true =>
            refine iteT ?_
            refine ⟨_, rfl, y, _, rfl, rfl, place_of hy, _, hD, ?_, ?_, ?_⟩
            · have hf := List.length_filter_le (memB plcs) (ps.take i)
              rw [List.length_map, List.length_map]
              rw [List.length_take] at hf
              have big : 3000 ≤ sizeLine := by decide
              omega
            · intro c o hc
              rw [upd_ne (fun e => by rw [e, nDp] at hc; cases hc)]
              exact sm c o hc
            · rw [upd_same]
              simp [hy]
          | false =>
            refine iteF ?_
            refine ⟨sm, ?_⟩
            rw [hD]
            simp [hy]
      · obtain ⟨sm, hD⟩ := h
        rw [List.length_map, List.take_length] at hD
        exact k _ _ ⟨Dp, rfl, sm, hD⟩
    rintro _ H5 ⟨Dp, rfl, s5, hDp⟩
    have sm5 := (sm3.trans s4).trans s5
    have hDn5 := s5 _ _ hDn4
    have bad5 : placesB wd ps = false → Q .non H5 := fun e => qn (okv.trans e) _ sm5
    replace hc := (hc.same s4).same s5
    have okp : placesB wd ps = true → okDeed v = true := fun e => okv.trans e
    refine pr_seq (if_ ?_)
    have noCnt : ¬ (lo ≤ ps.length ∧ ps.length ≤ hi) → placesB wd ps = false := fun n => by
      unfold placesB
      rcases hcnt with ⟨c0, _, _⟩ | c0
      · rw [c0]
      · rw [c0]
        show (decide (lo ≤ ps.length) && decide (ps.length ≤ hi) && _) = false
        by_cases h1 : lo ≤ ps.length
        · rw [decide_eq_false (fun h2 => n ⟨h1, h2⟩), Bool.and_false, Bool.false_and]
        · rw [decide_eq_false h1, Bool.false_and, Bool.false_and]
    refine ⟨_, rfl, _, rfl, Dn, _, rfl, .inl (SqL.of hDn5), _, _, rfl, rfl, _, rfl, ?_⟩
    rw [List.length_map]
    refine ite2 (fun h1 => ?_) (fun h1 => ?_)
    case refine_2 =>
      have h1 : ¬ lo ≤ ps.length := fun e => h1 (decide_eq_true (Int.ofNat_le.mpr e))
      refine ⟨_, rfl, ?_⟩
      refine iteT ?_
      exact bad5 (noCnt fun z => h1 z.1)
    have h1 : lo ≤ ps.length := Int.ofNat_le.mp (of_decide_eq_true h1)
    refine ⟨_, rfl, _, _, rfl, rfl, _, rfl, ?_⟩
    by_cases h2 : ps.length ≤ hi
    case neg =>
      have : decide ((ps.length : Int) ≤ (hi : Int)) = false := decide_eq_false fun e => h2 (Int.ofNat_le.mp e)
      rw [this]
      refine iteT ?_
      exact bad5 (noCnt fun z => h2 z.2)
    have : decide ((ps.length : Int) ≤ (hi : Int)) = true := decide_eq_true (Int.ofNat_le.mpr h2)
    rw [this]
    refine iteF ?_
    have hcnt : counts wd = some (lo, hi) := by
      rcases hcnt with ⟨_, e1, e2⟩ | c0
      · omega
      · exact c0
    have pok := places_ok hcnt h1 h2
    refine ⟨_, rfl, Dp, (ps.filter (memB plcs)).map placeIx, rfl, SqL.of hDp, ?_, _, rfl, Dn, _, rfl, .inl (SqL.of hDn5), _, _, rfl, rfl, _, rfl, ?_⟩
    · have hf := List.length_filter_le (memB plcs) ps
      rw [List.length_map]
      omega
    rw [List.length_map]
    by_cases h4 : ((cntI ((ps.filter (memB plcs)).map placeIx) : Nat) : Int) < (ps.length : Int)
    case pos =>
      rw [decide_eq_true h4]
      refine iteT ?_
      rw [decide_eq_true h4] at pok
      exact bad5 pok
    rw [decide_eq_false h4]
    rw [decide_eq_false h4] at pok
    refine iteF ?_
    have allP : ps.filter (memB plcs) = ps := by
      have le := cnt_le ((ps.filter (memB plcs)).map placeIx)
      have lf := List.length_filter_le (memB plcs) ps
      rw [List.length_map] at le
      exact List.filter_sublist.eq_of_length (by omega)
    rw [allP] at hDp
    have hok : okDeed v = true := okv.trans pok
    obtain ⟨z, rfl⟩ : ∃ z, v = .str z := by
      rcases hw with ⟨_, e2⟩ | ⟨z, e, _⟩
      · rw [e2] at hok
        cases hok
      · exact ⟨z, e⟩
    have hD := hDz z rfl hok
    have qs := qs hok z
    have eS : startsD z = if wd = "copy" then (ps.map placeIx).take 1 else ps.map placeIx := by
      unfold startsD ixs
      rw [hD]
    have eE : endsD z = if wd = "copy" then (ps.map placeIx).drop 1 else if wd = "order" then ps.map placeIx else (ps.map placeIx).drop 1 ++ (ps.map placeIx).take 1 := by
      unfold endsD ixs
      rw [hD]
    refine pr_seq (asg2_ ?_)
    refine ⟨_, rfl, ?_⟩
    refine pr_seq (st_or (fun σ' H' => ∃ (a b : Addr), σ' = [some (.str z), some (.ref pw), some c, some (.str wd), some (.ref Dn), some (.int (lo : Int)), some (.int (hi : Int)), some (.ref Dp), none, some (.ref a), some (.ref b)] ∧ Same H5 H' ∧ H' a = some (.lst ((startsD z).map V.int)) ∧ H' b = some (.lst ((endsD z).map V.int))) (fun D' er k => if_ ?_) ?_)
    · refine ⟨_, rfl, rfl, _, rfl, ?_⟩
      by_cases w1 : wd = "copy"
      · rw [show decide (V.str wd = V.str "copy") = true by rw [w1]; rfl]
        rw [if_pos w1] at eS eE
        refine iteT ?_
        refine ⟨_, rfl, _, rfl, Dp, _, rfl, SqL.of hDp, fun a na => ?_⟩
        rw [cut_t1]
        have sa := same_new (o := .lst (((ps.map placeIx).map V.int).take 1)) na
        refine ⟨_, rfl, _, rfl, Dp, _, rfl, SqL.of (sa _ _ hDp), fun b nb => ?_⟩
        rw [cut_d1]
        have sb := same_new (o := .lst (((ps.map placeIx).map V.int).drop 1)) nb
        refine ⟨_, _, rfl, ?_⟩
        refine k _ _ ⟨a, b, rfl, sa.trans sb, ?_, ?_⟩
        · rw [eS, List.map_take]
          exact sb _ _ upd_same
        · rw [eE, List.map_drop]
          exact upd_same
      · rw [decide_eq_false (fun e => w1 (V.str.inj e) : ¬ V.str wd = V.str "copy")]
        rw [if_neg w1] at eS eE
        refine iteF ?_
        refine if_ ?_
        refine ⟨_, rfl, rfl, _, rfl, ?_⟩
        by_cases w2 : wd = "order"
        · rw [show decide (V.str wd = V.str "order") = true by rw [w2]; rfl]
          rw [if_pos w2] at eE
          refine iteF ?_
          exact k _ _ ⟨Dp, Dp, rfl, Same.refl _, by rw [eS]; exact hDp, by rw [eE]; exact hDp⟩
        · rw [decide_eq_false (fun e => w2 (V.str.inj e) : ¬ V.str wd = V.str "order")]
          rw [if_neg w2] at eE
          refine iteT ?_
          refine set_ ?_
          refine ⟨_, rfl, _, rfl, Dp, _, rfl, SqL.of hDp, fun a na => ?_⟩
          rw [cut_d1]
          have sa := same_new (o := .lst (((ps.map placeIx).map V.int).drop 1)) na
          refine ⟨_, rfl, _, rfl, Dp, _, rfl, SqL.of (sa _ _ hDp), fun b nb => ?_⟩
          rw [cut_t1]
          have sb := same_new (o := .lst (((ps.map placeIx).map V.int).take 1)) nb
          refine ⟨a, b, _, _, rfl, rfl, sb _ _ upd_same, upd_same, ?_, fun d nd => ?_⟩
          · rw [List.length_drop, List.length_take, List.length_map, List.length_map]
            have big : 3000 ≤ sizeLine := by decide
            omega
          have sd := same_new (o := .lst (((ps.map placeIx).map V.int).drop 1 ++ ((ps.map placeIx).map V.int).take 1)) nd
          refine k _ _ ⟨Dp, d, rfl, (sa.trans sb).trans sd, ?_, ?_⟩
          · rw [eS]
            exact ((sa.trans sb).trans sd) _ _ hDp
          · rw [eE, List.map_append, List.map_drop, List.map_take]
            exact upd_same
    rintro _ H6 ⟨a, b, rfl, s6, ha, hb⟩
    refine pr_one (ret_ ?_)
    refine ⟨_, rfl, .inl ⟨a, _, rfl, SqL.of ha, fun ta nta => ?_⟩⟩
    have s7 := same_new (o := .tup ((startsD z).map V.int)) nta
    refine ⟨_, rfl, .inl ⟨b, _, rfl, SqL.of (s7 _ _ hb), fun tb ntb => ?_⟩⟩
    have s8 := same_new (o := .tup ((endsD z).map V.int)) ntb
    refine ⟨_, rfl, rfl, _, rfl, (by show 4 ≤ sizeLine; decide), fun p np => ?_⟩
    have s9 := same_new (o := .tup [.ref ta, .ref tb, .bl (decide (V.str wd = V.str "order")), c]) np
    have sm9 := (((sm5.trans s6).trans s7).trans s8)
    have npH : H p = none := by
      cases e : H p with
      | none => rfl
      | some o => rw [sm9 _ _ e] at np; cases np
    refine qs p _ rfl npH (sm9.trans s9) ⟨ta, tb, c, ?_, s9 _ _ (s8 _ _ upd_same), s9 _ _ upd_same, ?_⟩
    · rw [hD]
      show upd _ _ _ p = some (.tup [.ref ta, .ref tb, .bl (decide (wd = "order")), c])
      have : decide (V.str wd = V.str "order") = decide (wd = "order") := by
        by_cases e : wd = "order"
        · rw [e]
          rfl
        · rw [decide_eq_false e, decide_eq_false (fun q => e (V.str.inj q) : ¬ V.str wd = V.str "order")]
      rw [← this]
      exact upd_same
    · rw [hD]
      exact ((hc.same s6).same (s7.trans s8)).same s9
end
end Sq
namespace Sq
open PySem L2 PySem.Spec PyProof.Rows
/-! ### d[i, j], d a written dict whose keys are tuples of numbers -/
structure ODict (P : Program) (w : World) (K : PySem.W.Frag) (d : Addr) (xs : List (List Int × Addr × Value)) : Prop where
  lk : ∃ (es : Array DictEntry) (ep : Nat), K.lookup d = some ⟨.type "dict", none, .dict es ep, #[]⟩ ∧ es.toList = xs.map (entryOfKey (tupleKind (intKind P w)))
  keys : ∀ x ∈ xs, ∀ H, SqT K H x.2.1 (x.1.map V.int)
  nd : (xs.map (·.1)).Nodup
theorem items_ints {P : Program} {w : World} : ∀ {ks : List Int} {vs : List Value}, Vals (ks.map V.int) vs → ItemsAre (intKind P w) ks vs
  | [], vs, h => by cases h; exact .nil
  | k :: ks, vs, h => by
    cases h with
    | cons r rr =>
      obtain ⟨t, rfl⟩ := r
      exact .cons (show Value.isInt k (.int k t) = true by simp [Value.isInt]) (items_ints rr)
def rIxO (K : PySem.W.Frag) (d : Addr) (xs : List (List Int × Addr × Value)) : R2 := fun x y H Q => ∃ (t : Addr) (ks : List Int) (p : Addr × Value) (v : V), x = .ref d ∧ y = .ref t ∧ SqT K H t (ks.map V.int) ∧ atKey xs ks = some p ∧ RelV v p.2 ∧ Q v H
theorem ix_O {X : Cx} {d : Addr} {xs : List (List Int × Addr × Value)} (D : ODict X.prog X.w X.K d xs) (hu : X.A.units + 1 < cLine) : IxR X (rIxO X.K d xs) := by
  intro value slice pins s σ H x y v u Q I rx ry h hs
  obtain ⟨t, ks, p, v0, rfl, rfl, ht, hp, r, q⟩ := h
  cases rx
  cases ry
  obtain ⟨its, rv, e, z⟩ := I.tuple ht
  obtain ⟨es, ep, lk, he⟩ := D.lk
  have hm : s.heap.DictOfH (tupleKind (intKind X.prog X.w)) d xs := ⟨_, es, ep, I.kIn _ _ lk, ⟨rfl, rfl, rfl⟩, rfl, he, fun x hx => by
    obtain ⟨jts, rj, ⟨o, ho, hc, n, hd⟩, _⟩ := I.tuple (D.keys x hx H)
    exact ⟨o, _, n, ho, hc, hd, items_ints rj⟩, D.nd⟩
  have hk : (tupleKind (intKind X.prog X.w)).is s.heap ks t := by
    obtain ⟨o, ho, hc, n, hd⟩ := e
    exact ⟨o, _, n, ho, hc, hd, items_ints rv⟩
  exact tail_any (show s.TypeIs (.ref d) "dict" from ⟨_, I.kIn _ _ lk, rfl⟩) slot_dict_getitem.lookup (wpAny_getItem_heap (show (tupleKind (intKind X.prog X.w)).room X.A.in1 from hu) hk hm hp ⟨v0, H, I.tok _, r, q⟩) hs
end Sq
namespace Sq
open PySem L2 PySem.Spec PyProof.Rows
/-! ### the written dict of the orders: two numbers to a tuple -/
structure OrdD (P : Program) (w : World) (K : PySem.W.Frag) (d : Addr) : Prop where
  ex : ∃ xs, ODict P w K d xs ∧ ∀ a b : Bool, ∃ p q : Addr, atKey xs [if a = true then 1 else 0, if b = true then 1 else 0] = some (p, .ref q)
def okeys : List (List Int) := [[0, 0], [0, 1], [1, 0], [1, 1]]
def thash (ks : List Int) : Int := reduceHash (Builtin.Tuple.tupleHashOf (ks.map hashInt))
theorem thash_eq {P : Program} {w : World} (ks : List Int) : (tupleKind (intKind P w)).hash ks = thash ks := rfl
theorem OrdD.of {P : Program} {w : World} {K : PySem.W.Frag} {d : Addr} {es : Array DictEntry} {n : Nat} (lk : K.lookup d = some ⟨.type "dict", none, .dict es n, #[]⟩)
    (hk : es.toList.map (fun e => tupW K e.key) = okeys.map some) (hh : es.toList.map (·.hash) = okeys.map thash)
    (hv : ∃ q0 q1 q2 q3 : Addr, es.toList.map (·.val) = [.ref q0, .ref q1, .ref q2, .ref q3]) : OrdD P w K d := by
  obtain ⟨q0, q1, q2, q3, hv⟩ := hv
  generalize hes : es.toList = l at *
  have hl : l.length = 4 := by
    have := congrArg List.length hv
    rw [List.length_map] at this
    exact this
  match l, hl with
  | [e0, e1, e2, e3], _ =>
    obtain ⟨k0, hk⟩ := List.cons.inj hk
    obtain ⟨k1, hk⟩ := List.cons.inj hk
    obtain ⟨k2, hk⟩ := List.cons.inj hk
    obtain ⟨k3, hk⟩ := List.cons.inj hk
    obtain ⟨h0, hh⟩ := List.cons.inj hh
    obtain ⟨h1, hh⟩ := List.cons.inj hh
    obtain ⟨h2, hh⟩ := List.cons.inj hh
    obtain ⟨h3, hh⟩ := List.cons.inj hh
    obtain ⟨v0, hv⟩ := List.cons.inj hv
    obtain ⟨v1, hv⟩ := List.cons.inj hv
    obtain ⟨v2, hv⟩ := List.cons.inj hv
    obtain ⟨v3, hv⟩ := List.cons.inj hv
    obtain ⟨a0, f0, g0⟩ := tupW_at k0 (show 2 ≤ 3 by decide)
    obtain ⟨a1, f1, g1⟩ := tupW_at k1 (show 2 ≤ 3 by decide)
    obtain ⟨a2, f2, g2⟩ := tupW_at k2 (show 2 ≤ 3 by decide)
    obtain ⟨a3, f3, g3⟩ := tupW_at k3 (show 2 ≤ 3 by decide)
    refine ⟨[([0, 0], a0, .ref q0), ([0, 1], a1, .ref q1), ([1, 0], a2, .ref q2), ([1, 1], a3, .ref q3)], ⟨⟨es, n, lk, ?_⟩, ?_, ?_⟩, ?_⟩
    · rw [hes]
      have en : ∀ (e : DictEntry) {h : Int} {k v : Value}, e.hash = h → e.key = k → e.val = v → e = ⟨h, k, v⟩ := fun e {h k v} a b c => by
        cases e
        cases a
        cases b
        cases c
        rfl
      rw [en e0 h0 f0 v0, en e1 h1 f1 v1, en e2 h2 f2 v2, en e3 h3 f3 v3]
      simp only [List.map_cons, List.map_nil, entryOfKey, thash_eq]
    · intro x hx H
      simp only [List.mem_cons, List.not_mem_nil, or_false] at hx
      rcases hx with rfl | rfl | rfl | rfl
      · exact g0 H
      · exact g1 H
      · exact g2 H
      · exact g3 H
    · show okeys.Nodup
      decide
    · intro a b
      cases a <;> cases b
      · exact ⟨_, _, rfl⟩
      · exact ⟨_, _, rfl⟩
      · exact ⟨_, _, rfl⟩
      · exact ⟨_, _, rfl⟩
end Sq
namespace Sq
open PySem L2 PySem.Spec PyProof.Rows
/-- __init__ at an instance and two keywords -/
def FnK2 (P : Program) (w : World) (K : PySem.W.Frag) (mg : Str → Option Value) (base : Heap) (k : Nat) (f : Addr) (n1 n2 : Str) (sp : Sp) : Prop :=
  ∀ (A : Around) (fr : List Env) (s : Shared) (H : Hp) (x : Addr) (u1 u2 : Value) (v1 v2 : V) (Q : VK), Room k A → Env0 P w K mg base A fr s H → RelV v1 u1 → RelV v2 u2 →
    sp [.ref x, v1, v2] H Q E0 → codeAny (model P w) A (.call (.ref f) ⟨[.ref x], [(n1, u1), (n2, u2)]⟩) (CR CX0 fr P w H s Q E0) s
section
variable {P : Program} {w : World} {K : PySem.W.Frag} {mg : Str → Option Value} {base : Heap} {k : Nat} {f : Addr} {name qual : Str} {params : Arguments} {body : List Stmt} {scope : Scope} {dV kV doc pm cdv ct oc : Value} {an od : Option Addr}
  {osl : Array (Option Value)} {N : List Str} {sp : Sp} {n0 n1 n2 nv : Str}
/-- def f(self, b, a, *v) called as f(x, a = .., b = ..): the star parameter is an empty tuple -/
theorem fn_starK2 (lk : K.lookup f = some ⟨oc, od, .func (PySem.W.fnOf name qual params body scope dV kV doc pm an cdv ct), osl⟩) (hcd : PySem.W.codeIn K cdv qual = true) (S : FnScope N [n0, n2, n1, nv] scope)
    (hb : ∀ x u1 u2 : Value, bindArgs (PySem.W.fnOf name qual params body scope dV kV doc pm an cdv ct) ⟨[x], [(n1, u1), (n2, u2)]⟩ = (newTuple [] >>= fun t => pure [(n0, x), (n2, u2), (n1, u1), (nv, t)]))
    (hbody : ∀ (A : Around) (outer : List Env) (s : Shared) (H : Hp) (vs : List V) (Q : VK) (E : XK), Room k (A.deeper (envOfC qual scope s.heap.objs.size f cdv)) → sp vs H Q E →
      ∃ t, PSs (cxOf CX0 P w K mg base N qual scope f cdv A outer s H E) body t ∧ t { nx := fun _ H' => Q .non H', rt := Q } (L2.start N vs) H) :
    FnK2 P w K mg base (k + 1) f n1 n2 (fun vs H Q E => ∃ x v1 v2, vs = [x, v1, v2] ∧ ∀ p, H p = none → sp [x, v2, v1, .ref p] (upd H p (.tup [])) Q E) := by
  intro A fr s H x u1 u2 v1 v2 Q hr e0 r1 r2 h
  obtain ⟨x', v1', v2', ev, hq⟩ := h
  cases ev
  have hn : H s.heap.objs.size = none := e0.hok.fresh (Nat.le_refl _)
  refine StX.run_bnd lk hcd S hr e0 (G := fun xs H2 => ∃ p, H p = none ∧ xs = [.ref x, v2, v1, .ref p] ∧ H2 = upd H p (.tup [])) (fun A' Ex Q' hz => ?_) fun s2 H2 xs hx hr' => ?_
  · rw [hb (.ref x) u1 u2]
    refine wpAny_bind (wpAny_newTuple (wpAny_pure ?_) (Nat.zero_le _))
    have new : ObjOk P w (upd H s.heap.objs.size (.tup [])) (s.heap.push ({ cls := .type "tuple", data := .seq (([] : List Value)).toArray } : Obj)) s.heap.objs.size (.tup []) := ⟨Nat.zero_le _, [], .nil, ⟨_, Heap.get?_push_size _ rfl, rfl, _, rfl⟩⟩
    exact hz _ _ [.ref x, v2, v1, .ref s.heap.objs.size] [.ref x, u2, u1, .ref s.heap.objs.size] (StX.env0_laid e0 new) (StX.un_laid hn) rfl (fun _ _ z => z) (.cons rfl (.cons r2 (.cons r1 (.cons rfl .nil)))) rfl ⟨_, hn, rfl, rfl⟩
  · obtain ⟨p, hp, rfl, rfl⟩ := hx
    exact hbody A fr s2 _ _ Q E0 hr' (hq p hp)
end
section
variable {X : Cx} {k : Nat} {f C : Addr} {sp : Sp} {x n1 n2 : Str} {p pos : Pos} {kws : List Keyword} {tk : TA}
def tMakeK2 (C : Addr) (sp : Sp) (tk : TA) : TE := fun σ H Q => tk σ H fun zs H2 => ∃ v1 v2, zs = [v1, v2] ∧ ∀ x dx, H2 x = none → H2 dx = none → dx ≠ x →
  sp [.ref x, v1, v2] (upd (upd H2 dx (.own x)) x (.ins C dx [])) (fun v H3 => v = .non ∧ Q (.ref x) H3) E0
/-- C(a = .., b = ..) -/
theorem pe_makeK2 (M : Mk X.K C f) (F : FnK2 X.prog X.w X.K X.mg X.base k f n1 n2 sp) (hr : Room (k + 1) X.A) (hg : Gl X x) (hm : X.mg x = some (.ref C)) (hkw : PK X kws tk)
    (hall : (backToKw pos (keywordEach kws X.env)).all (·.1.isSome) = true := by rfl) (hks : (backToKw pos (keywordEach kws X.env)).filterMap (·.1) = [n1, n2] := by rfl) (hdb : (x == ("__debug__" : Str)) = false := by decide)
    (hpl : ((backTo pos (starEach [] X.env)).any (·.1) || (backToKw pos (keywordEach kws X.env)).any (·.1.isNone)) = false := by rfl) :
    PE X (.Call (.Name x p) [] kws pos) (tMakeK2 C sp tk) := by
  constructor
  intro pins s σ H Q I h
  refine wpAny_Call_Name_kw (ld_glob I hg hm (PySem.W.callWith_KW0 (h₀ := X.base) I.ok.mod.kin M.kp hall ?_ hpl) hdb)
  refine thn (hkw.run pos pins s σ H _ I h) ?_
  rintro ws s2 ⟨zs, H2, I2, rz, v1, v2, ez, q⟩
  subst ez
  refine ⟨I2.kIn, ?_⟩
  rw [hks]
  obtain ⟨u1, u2, rfl, r1, r2⟩ : ∃ u1 u2, ws = [u1, u2] ∧ RelV v1 u1 ∧ RelV v2 u2 := by
    cases rz with
    | cons a b =>
      cases b with
      | cons c d =>
        cases d
        exact ⟨_, _, rfl, a, c⟩
  have hq := q (s2.heap.objs.size + 1) s2.heap.objs.size (I2.hok.fresh (Nat.le_succ _)) (I2.hok.fresh (Nat.le_refl _)) (Nat.ne_of_lt (Nat.lt_succ_self _))
  have I3 := Inv.made (C := C) I2
  have run := F _ X.stack _ _ (s2.heap.objs.size + 1) u1 u2 v1 v2 _ (hr.make C [] [(n1, u1), (n2, u2)]) (I3.env0.make C [] [(n1, u1), (n2, u2)]) r1 r2 hq
  refine wpAny_call (make_map (f := f) I2.kIn M.makes M.init (beq_iff_eq.mp M.fn) (codeAny_mono run fun z s' hz => ?_))
  match z, hz with
  | .error _, hz => exact False.elim hz
  | .ok .next, hz => exact False.elim hz
  | .ok .brk, hz => exact False.elim hz
  | .ok .cont, hz => exact False.elim hz
  | .ok (.ret u), hz =>
    obtain ⟨v, H', I4, rv, ev, q3⟩ := I3.after hz
    subst ev
    exact ⟨rv, ⟨.ref (s2.heap.objs.size + 1), H', I4, rfl, q3⟩⟩
end
end Sq
namespace Sq
open PySem L2 TL
section
variable {P : Program} {w : World} {K : PySem.W.Frag} {mg : Str → Option Value} {base : Heap}
theorem ko_i : ¬ (("_inner" : Str) = "_outer") := by decide +kernel
/-- the attributes of a nest: its loops and deeds, and what was read in them -/
structure Rd3 where
  b : V
  o : V
  p : V
def nfl (o i : Str) (dp : Addr) (R : Rd3) : List (Str × V) := putF "plans" R.p (putF "orders" R.o (putF "bounds" R.b (putF "_deeds" (.ref dp) (putF "_inner" (.str i) (putF "_outer" (.str o) [])))))
theorem nfl_at (o i : Str) (dp : Addr) (R : Rd3) (m : Str) : (nfl o i dp R).lookup m = if m = "plans" then some R.p else if m = "orders" then some R.o else if m = "bounds" then some R.b else if m = "_deeds" then some (.ref dp) else if m = "_inner" then some (.str i) else if m = "_outer" then some (.str o) else none := by
  unfold nfl
  rw [lookup_putF, lookup_putF, lookup_putF, lookup_putF, lookup_putF, lookup_putF]
  all_goals rfl
theorem nfl_outer (o i : Str) (dp : Addr) (R : Rd3) : (nfl o i dp R).lookup ("_outer" : Str) = some (.str o) := by
  rw [nfl_at]
  rfl
theorem nfl_inner (o i : Str) (dp : Addr) (R : Rd3) : (nfl o i dp R).lookup ("_inner" : Str) = some (.str i) := by
  rw [nfl_at]
  rfl
theorem nfl_deeds (o i : Str) (dp : Addr) (R : Rd3) : (nfl o i dp R).lookup ("_deeds" : Str) = some (.ref dp) := by
  rw [nfl_at]
  rfl
theorem nfl_plans (o i : Str) (dp : Addr) (R : Rd3) : (nfl o i dp R).lookup ("plans" : Str) = some R.p := by
  rw [nfl_at]
  rfl
theorem nfl_orders (o i : Str) (dp : Addr) (R : Rd3) : (nfl o i dp R).lookup ("orders" : Str) = some R.o := by
  rw [nfl_at]
  rfl
theorem nfl_bounds (o i : Str) (dp : Addr) (R : Rd3) : (nfl o i dp R).lookup ("bounds" : Str) = some R.b := by
  rw [nfl_at]
  rfl
theorem nfl_no (o i : Str) (dp : Addr) (R : Rd3) {m : Str} (h1 : ¬ m = "_outer") (h2 : ¬ m = "_inner") (h3 : ¬ m = "_deeds") (h4 : ¬ m = "bounds") (h5 : ¬ m = "orders") (h6 : ¬ m = "plans") : (nfl o i dp R).lookup m = none := by
  rw [nfl_at, if_neg h6, if_neg h5, if_neg h4, if_neg h3, if_neg h2, if_neg h1]
/-- a nest stands at a -/
def NestAt (C : Addr) (H : Hp) (a : Addr) (o i : Str) (ds : List Str) : Prop := ∃ dx dp, (∃ R, H a = some (.ins C dx (nfl o i dp R))) ∧ H dp = some (.tup (ds.map V.str))
theorem NestAt.ext {C : Addr} {H H' : Hp} {a : Addr} {o i : Str} {ds : List Str} (e : Same H H') (h : NestAt C H a o i ds) : NestAt C H' a o i ds := by
  obtain ⟨dx, dp, ⟨R, h1⟩, h2⟩ := h
  exact ⟨dx, dp, ⟨R, e _ _ h1⟩, e _ _ h2⟩
/-- the class Nest as it stands in the text -/
structure Nc (K : PySem.W.Frag) (C : Addr) : Prop where
  cl : Cls K C
  nO : NoAttr K C "_outer"
  nI : NoAttr K C "_inner"
  nD : NoAttr K C "_deeds"
  nB : NoAttr K C "bounds"
  nR : NoAttr K C "orders"
  nP : NoAttr K C "plans"
theorem putF_len (f : Str) (v : V) : ∀ fs : List (Str × V), (putF f v fs).length ≤ fs.length + 1
  | [] => Nat.le_refl _
  | (g, x) :: r => by
    unfold putF
    split
    · exact Nat.le_succ _
    · exact Nat.succ_le_succ (putF_len f v r)
def deedsOk (ds : List Str) : Prop := (∀ d ∈ ds, d.length ≤ 2000) ∧ fw 0 6 (ds.map deedB) = none
theorem fw_le : ∀ (bs : List Bool) (i m : Nat), fw i m bs = none → i ≤ m → i + bs.length ≤ m
  | [], i, m, _, h => h
  | b :: r, i, m, e, h => by
    unfold fw at e
    split at e
    · cases e
    · rename_i hn
      have h1 : ¬ i = m := fun q => hn (.inl q)
      have := fw_le r (i + 1) m e (by omega)
      rw [List.length_cons]
      omega
theorem fw_all : ∀ (bs : List Bool) (i m : Nat), fw i m bs = none → ∀ b ∈ bs, b = true
  | [], _, _, _, b, h => by cases h
  | c :: r, i, m, e, b, h => by
    unfold fw at e
    split at e
    · cases e
    · rename_i hn
      have h1 : c = true := by
        cases c with
        | true => rfl
        | false => exact absurd (.inr rfl) hn
      rcases List.mem_cons.mp h with q | q
      · rw [q, h1]
      · exact fw_all r (i + 1) m e b q
theorem fw_none : ∀ (bs : List Bool) (i m : Nat), (∀ b ∈ bs, b = true) → i + bs.length ≤ m → fw i m bs = none
  | [], _, _, _, _ => rfl
  | c :: r, i, m, h, hl => by
    rw [List.length_cons] at hl
    unfold fw
    rw [if_neg (fun q => q.elim (fun e => by omega) fun e => by have := h c List.mem_cons_self; rw [e] at this; cases this)]
    exact fw_none r (i + 1) m (fun b hb => h b (List.mem_cons_of_mem _ hb)) (by omega)
theorem deeds_len {ds : List Str} (h : deedsOk ds) : ds.length ≤ 6 := by
  have z := fw_le _ _ _ h.2 (Nat.zero_le _)
  rw [List.length_map] at z
  omega
theorem deeds_ok {ds : List Str} (h : deedsOk ds) : ∀ d ∈ ds, deedB d = true := fun d hd => fw_all _ _ _ h.2 _ (List.mem_map_of_mem hd)
/-- the plans of deeds, one behind the other -/
inductive Plans (H : Hp) : List V → List Str → Prop
  | nil : Plans H [] []
  | cons {p : Addr} {z : Str} {qs : List V} {ds : List Str} : PlanAt H p z → Plans H qs ds → Plans H (.ref p :: qs) (z :: ds)
theorem Plans.same {H H' : Hp} (s : Same H H') : ∀ {qs : List V} {ds : List Str}, Plans H qs ds → Plans H' qs ds
  | _, _, .nil => .nil
  | _, _, .cons h r => .cons (h.same s) (r.same s)
theorem Plans.snoc {H : Hp} {p : Addr} {z : Str} (h : PlanAt H p z) : ∀ {qs : List V} {ds : List Str}, Plans H qs ds → Plans H (qs ++ [.ref p]) (ds ++ [z])
  | _, _, .nil => .cons h .nil
  | _, _, .cons h1 r => .cons h1 (r.snoc h)
theorem Plans.refs {H : Hp} : ∀ {qs : List V} {ds : List Str}, Plans H qs ds → ∀ x ∈ qs, ∃ p, x = .ref p
  | _, _, .nil, x, hx => by cases hx
  | _, _, .cons h r, x, hx => by
    rcases List.mem_cons.mp hx with rfl | hx
    · exact ⟨_, rfl⟩
    · exact r.refs x hx
theorem Plans.len {H : Hp} : ∀ {qs : List V} {ds : List Str}, Plans H qs ds → qs.length = ds.length
  | _, _, .nil => rfl
  | _, _, .cons h r => by rw [List.length_cons, List.length_cons, r.len]
theorem st_same {t : TS} {D : Ends} {σ : L2.St} {H : Hp} (J : Hp → Prop) (h : ∀ D' : Ends, (∀ H', J H' → D'.nx σ H') → t D' σ H) (k : ∀ H', J H' → D.nx σ H') : t D σ H := h D k
theorem ne_ins {H : Hp} {x a C dx : Addr} {fs : List (Str × V)} {ys : List V} (hx : H x = some (.ins C dx fs)) (ha : H a = some (.tup ys)) : a ≠ x := fun e => by
  rw [e, hx] at ha
  cases ha
theorem PlanAt.off {H H' : Hp} {x C dx : Addr} {fs : List (Str × V)} (hx : H x = some (.ins C dx fs)) (s : Off x H H') {p : Addr} {z : Str} (h : PlanAt H p z) : PlanAt H' p z := by
  obtain ⟨ts, te, c, h1, h2, h3, h4⟩ := h
  refine ⟨ts, te, c, s _ _ (ne_ins hx h1) h1, s _ _ (ne_ins hx h2) h2, s _ _ (ne_ins hx h3) h3, ?_⟩
  rcases h4 with h4 | ⟨a4, l4, s4, r4, e1, e2, e3⟩
  · exact .inl h4
  · exact .inr ⟨a4, l4, s4, r4, e1, e2, s _ _ (ne_ins hx e3) e3⟩
theorem Plans.off {H H' : Hp} {x C dx : Addr} {fs : List (Str × V)} (hx : H x = some (.ins C dx fs)) (s : Off x H H') : ∀ {qs : List V} {ds : List Str}, Plans H qs ds → Plans H' qs ds
  | _, _, .nil => .nil
  | _, _, .cons h r => .cons (h.off hx s) (r.off hx s)
/-- what was read in a nest's loops and deeds -/
def ReadAt (K : PySem.W.Frag) (H : Hp) (R : Rd3) (o i : Str) (ds : List Str) : Prop := ∃ (bp op pp a1 a2 b1 b2 : Addr) (t1 t2 u1 u2 : Int × Int × Int) (d e : Bool) (qs : List V), R = ⟨.ref bp, .ref op, .ref pp⟩ ∧
  H bp = some (.tup [.ref a1, .ref a2, .ref b1, .ref b2]) ∧ Bd K a1 t1 ∧ Bd K a2 t2 ∧ Bd K b1 u1 ∧ Bd K b2 u2 ∧ LoopR o t1 t2 d ∧ LoopR i u1 u2 e ∧ H pp = some (.tup qs) ∧ Plans H qs ds
def spInit (K : PySem.W.Frag) (C : Addr) : Sp := fun vs H Q _ => ∃ (x dx dp : Addr) (o i : Str) (ds : List Str), vs = [.ref x, .str o, .str i, .ref dp] ∧ H x = some (.ins C dx []) ∧ H dp = some (.tup (ds.map V.str)) ∧ o.length + 2 ≤ sizeLine ∧ i.length + 2 ≤ sizeLine ∧
  loopB obs o = true ∧ loopB (obs ++ ibs) i = true ∧ deedsOk ds ∧ ∀ (R : Rd3) (H' : Hp), ReadAt K H' R o i ds → H' x = some (.ins C dx (nfl o i dp R)) → Off x H H' → Q .non H'
def spFirstN (K : PySem.W.Frag) : Sp := spFirst K
abbrev s_NInit : Stmt := inClass (top 33) 0
theorem sc_NInit : FnScope ["self", "outer", "inner", "deeds", "outer_loop", "inner_loop", "plans", "deed", "index", "plan", "start", "stop", "outer_descends", "low", "high", "inner_descends"] ["self", "outer", "inner", "deeds"] (defScope s_NInit) := ⟨rfl, rfl, rfl, by decide +kernel, rfl, by decide +kernel, by decide +kernel⟩
theorem init_body {C : Addr} (N : Nc K C) (T : Bt mg) (G_read_outer_loop : FB P w K mg base "read_outer_loop" 2 ["value"] (spReadL K obs))(G_read_loop : FB P w K mg base "read_loop" 1 ["value"] (spReadL K (obs ++ ibs)))(G_read_deed : FB P w K mg base "read_deed" 2 ["value"] (spReadD K))(G_first_wrong : FB P w K mg base "first_wrong" 1 ["rights", "most"] (spFirst K)) {u : Tok} (mM : mg "MOST_DEEDS" = some (.int 6 u)) {aR : Addr} (mR : mg "ORDERS" = some (.ref aR)) (DO : OrdD P w K aR) {f : Addr} {cdv : Value} {A : Around} {outer : List Env} {s : Shared} {H : Hp} {vs : List V} {Q : VK} {E : XK} (hr : Room 3 (A.deeper (PyProof.Rows.envOfC "Nest.__init__" (defScope s_NInit) s.heap.objs.size f cdv))) (h : spInit K C vs H Q E) :
    ∃ t, PSs (cxOf CX0 P w K mg base ["self", "outer", "inner", "deeds", "outer_loop", "inner_loop", "plans", "deed", "index", "plan", "start", "stop", "outer_descends", "low", "high", "inner_descends"] "Nest.__init__" (defScope s_NInit) f cdv A outer s H E) (defBody s_NInit) t ∧
      t { nx := fun _ H' => Q .non H', rt := Q } (L2.start ["self", "outer", "inner", "deeds", "outer_loop", "inner_loop", "plans", "deed", "index", "plan", "start", "stop", "outer_descends", "low", "high", "inner_descends"] vs) H := by
  obtain ⟨x, dx, dp, o, i, ds, rfl, hx, hd, ho, hi, lo, li, hds, q⟩ := h
  obtain ⟨xs, DR, hR⟩ := DO.ex
  have hl6 := deeds_len hds
  have bigL : 3000 ≤ sizeLine := by decide
  refine ⟨_, (pss_cons (ps_par (i := 4) (j := 5) (by rfl) sc_NInit.nd rfl rfl (by decide) rfl rfl (pa_cons (pe_fb G_read_outer_loop hr (by decide) (by rfl) (pa_cons (pv 1) pa_nil)) (pa_cons (pe_fb G_read_loop hr (by decide) (by rfl) (pa_cons (pv 2) pa_nil)) pa_nil)) (by rfl))
          (pss_cons (ps_if (pt_cmpR op_isN (pv 4) pe_non (nomark _))
          (pss_one ps_never)
          pss_nil)
          (pss_cons (ps_if (pt_cmpR op_isN (pv 5) pe_non (nomark _))
          (pss_one ps_never)
          pss_nil)
          (pss_cons (ps_setLc (i := 6) (own := [("deed", 7)]) (g := gName 7) (by rfl) sc_NInit.nd rfl rfl (by rfl) (pi_tup (pv 3)) (blkOk_by (own := [("deed", 7)]) (N := ["self", "outer", "inner", "deeds", "outer_loop", "inner_loop", "plans", "deed", "index", "plan", "start", "stop", "outer_descends", "low", "high", "inner_descends"]) (sc := defScope s_NInit) (by decide +kernel))
              (fun _ _ _ _ _ => (pg_name (i := 7) sc_NInit.nd rfl (by first | exact .inl rfl | exact .inr rfl))) (fun _ _ _ _ _ => pts_nil) (fun _ _ _ _ _ => (pe_fb G_read_deed hr (by decide) (by rfl) (pa_cons (pv 7) pa_nil))))
          (pss_cons (ps_set (i := 8) sc_NInit.nd rfl (by first | exact .inl rfl | exact .inr rfl) (pe_fb G_first_wrong hr (by decide) (by rfl) (pa_cons (pe_lc (own := [("plan", 9)]) (g := gName 9) (by rfl) sc_NInit.nd (pi_list (pv 6)) (blkOk_by (own := [("plan", 9)]) (N := ["self", "outer", "inner", "deeds", "outer_loop", "inner_loop", "plans", "deed", "index", "plan", "start", "stop", "outer_descends", "low", "high", "inner_descends"]) (sc := defScope s_NInit) (by decide +kernel))
              (fun _ _ _ _ _ => (pg_name (i := 9) sc_NInit.nd rfl (by first | exact .inl rfl | exact .inr rfl))) (fun _ _ _ _ _ => pts_nil) (fun _ _ _ _ _ => (pe_cmpR op_notN (pv 9) pe_non (nomark _)))) (pa_cons (pe_glob (v := .int 6) (by rfl) mM ⟨_, rfl⟩) pa_nil))))
          (pss_cons (ps_if (pt_cmpR op_notN (pv 8) pe_non (nomark _))
          (pss_one ps_never)
          pss_nil)
          (pss_cons (ps_fld (pv 0) (pv 1) rfl)
          (pss_cons (ps_fld (pv 0) (pv 2) rfl)
          (pss_cons (ps_fld (pv 0) (pv 3) rfl)
          (pss_cons (ps_asg (pv 4) (pg_tup (by rfl) (pgs_cons (pg_name (i := 10) sc_NInit.nd rfl (by first | exact .inl rfl | exact .inr rfl)) (pgs_cons (pg_name (i := 11) sc_NInit.nd rfl (by first | exact .inl rfl | exact .inr rfl)) (pgs_cons (pg_name (i := 12) sc_NInit.nd rfl (by first | exact .inl rfl | exact .inr rfl)) pgs_nil)))))
          (pss_cons (ps_asg (pv 5) (pg_tup (by rfl) (pgs_cons (pg_name (i := 13) sc_NInit.nd rfl (by first | exact .inl rfl | exact .inr rfl)) (pgs_cons (pg_name (i := 14) sc_NInit.nd rfl (by first | exact .inl rfl | exact .inr rfl)) (pgs_cons (pg_name (i := 15) sc_NInit.nd rfl (by first | exact .inl rfl | exact .inr rfl)) pgs_nil)))))
          (pss_cons (ps_fld (pv 0) (pe_tup (pa_cons (pv 10) (pa_cons (pv 11) (pa_cons (pv 13) (pa_cons (pv 14) pa_nil))))) rfl)
          (pss_cons (ps_fld (pv 0) (pe_ix (ix_O DR (un1 hr)) (pe_glob (v := .ref aR) (by rfl) mR rfl) (pe_tup (pa_cons (pv 12) (pa_cons (pv 15) pa_nil))) (fun _ _ => rfl)) rfl)
          (pss_one (ps_fld (pv 0) (pe_tupleOf (by rfl) T.tuple (pv 6)) rfl))))))))))))))), ?_⟩
  refine sq_ ?_
  refine ⟨_, rfl, .str o, rfl, .inl ⟨o, rfl, ho⟩, (fun e => by rw [show okLoop obs (.str o) = true from lo] at e; cases e), fun _ z p1 H1 ez np1 s1 hp1 => ?_⟩
  cases ez
  refine ⟨_, rfl, .str i, rfl, .inl ⟨i, rfl, hi⟩, (fun e => by rw [show okLoop (obs ++ ibs) (.str i) = true from li] at e; cases e), fun _ z p2 H2 ez np2 s2 hp2 => ?_⟩
  cases ez
  refine ⟨_, _, rfl, ?_⟩
  refine pr_seq (if_ ?_)
  refine ⟨_, rfl, rfl, _, rfl, ?_⟩
  refine iteF ?_
  refine pr_seq (if_ ?_)
  refine ⟨_, rfl, rfl, _, rfl, ?_⟩
  refine iteF ?_
  have hp1' := hp1.same s2
  have s12 := s1.trans s2
  refine pr_seq (set_ (gen_of (fun y H' => ∃ (Dq : Addr) (qs : List V), y = .ref Dq ∧ Same H2 H' ∧ H' Dq = some (.lst qs) ∧ Plans H' qs ds) (fun Q' k => ?_) ?_))
  · refine ⟨_, rfl, dp, rfl, ⟨_, SqT.of (s12 _ _ hd)⟩, fun Dq nDq => ?_⟩
    refine lc_tup (K := K) (a := dp) (xs := ds.map V.str) (fun j H' => Same H2 H' ∧ ∃ qs, H' Dq = some (.lst qs) ∧ Plans H' qs (ds.take j)) ⟨same_new nDq, [], upd_same, .nil⟩ (fun j H' _ h => (SqT.of (s12 _ _ hd)).ext h.1) (fun j y H' hy h => ?_) (fun H' h => ?_)
    · obtain ⟨sm, qs, hD, hq⟩ := h
      rw [List.getElem?_map] at hy
      cases hj : ds[j]? with
      | none =>
        rw [hj] at hy
        cases hy
      | some z =>
        rw [hj] at hy
        cases hy
        have hz := List.mem_of_getElem? hj
        refine ⟨rfl, ?_⟩
        have okz : okDeed (.str z) = true := deeds_ok hds z hz
        refine ⟨_, rfl, .str z, rfl, .inl ⟨z, rfl, hds.1 z hz⟩, (fun e => by rw [okz] at e; cases e), fun _ z' p H3 ez np s3 hp => ⟨qs, s3 _ _ hD, ?_, ?_, qs ++ [.ref p], ?_, ?_⟩⟩
        · rw [hq.len, List.length_take]
          omega
        · intro c o' hc
          rw [upd_ne (fun e => by rw [e, nDq] at hc; cases hc)]
          exact s3 c o' (sm c o' hc)
        · exact upd_same
        · cases ez
          rw [List.take_add_one, hj]
          have hD3 := s3 _ _ hD
          have up : ∀ a oo, a ≠ Dq → H3 a = some oo → upd H3 Dq (.lst (qs ++ [.ref p])) a = some oo := fun a oo na e => by
            rw [upd_ne na]
            exact e
          have tupNe : ∀ a ys, H3 a = some (HO.tup ys) → a ≠ Dq := fun a ys e e2 => by
            rw [e2, hD3] at e
            cases e
          have one : ∀ {a : Addr} {zz : Str}, PlanAt H3 a zz → PlanAt (upd H3 Dq (.lst (qs ++ [.ref p]))) a zz := fun {a zz} h => by
            obtain ⟨ts, te, c, h1, h2, h3, h4⟩ := h
            refine ⟨ts, te, c, up _ _ (tupNe _ _ h1) h1, up _ _ (tupNe _ _ h2) h2, up _ _ (tupNe _ _ h3) h3, ?_⟩
            rcases h4 with h4 | ⟨a4, l4, s4, r4, e1, e2, e3⟩
            · exact .inl h4
            · exact .inr ⟨a4, l4, s4, r4, e1, e2, up _ _ (tupNe _ _ e3) e3⟩
          have all : ∀ {ps : List V} {zs : List Str}, Plans H3 ps zs → Plans (upd H3 Dq (.lst (qs ++ [.ref p]))) ps zs := fun h => by
            induction h with
            | nil => exact .nil
            | cons h r ih => exact .cons (one h) ih
          exact (all (hq.same s3)).snoc (one hp)
    · obtain ⟨sm, qs, hD, hq⟩ := h
      rw [List.length_map, List.take_length] at hq
      exact k _ _ ⟨Dq, qs, rfl, sm, hD, hq⟩
  rintro _ H3 ⟨Dq, qs, rfl, s3, hDq, hqs⟩
  refine pr_seq (set_ (gen_of (fun y H' => y = .non ∧ Same H3 H') (fun Q' k => ?_) ?_))
  · refine ⟨_, rfl, Dq, rfl, ⟨_, SqL.of hDq⟩, fun Df nDf => ?_⟩
    refine lc_list (K := K) (a := Dq) (xs := qs) (fun j H' => Same H3 H' ∧ H' Df = some (.lst ((List.replicate j true).map V.bl))) ⟨same_new nDf, upd_same⟩ (fun j H' _ h => (SqL.of hDq).ext h.1) (fun j y H' hy h => ?_) (fun H' h => ?_)
    · obtain ⟨sm, hD⟩ := h
      obtain ⟨p, rfl⟩ := hqs.refs y (List.mem_of_getElem? hy)
      have hj : j < qs.length := by
        obtain ⟨h1, _⟩ := List.getElem?_eq_some_iff.mp hy
        exact h1
      refine ⟨rfl, ?_⟩
      refine ⟨_, rfl, rfl, _, hD, ?_, ?_, ?_⟩
      · rw [List.length_map, List.length_replicate]
        have := hqs.len
        omega
      · intro c o' hc
        rw [upd_ne (fun e => by rw [e, nDf] at hc; cases hc)]
        exact sm c o' hc
      · rw [upd_same, List.replicate_succ', List.map_append]
        rfl
    · obtain ⟨sm, hD⟩ := h
      refine ⟨Df, 6, _, rfl, SqL.of hD, fun H' s' => ?_⟩
      rw [fw_none (List.replicate qs.length true) 0 6 (fun b hb => List.eq_of_mem_replicate hb) (by rw [List.length_replicate, hqs.len]; omega)]
      exact k _ _ ⟨rfl, sm.trans s'⟩
  rintro _ H4 ⟨rfl, s4⟩
  refine pr_seq (if_ ?_)
  refine ⟨_, rfl, rfl, _, rfl, ?_⟩
  refine iteF ?_
  have sm4 : Same H H4 := (s12.trans s3).trans s4
  have hx4 := sm4 _ _ hx
  obtain ⟨a1, a2, t1, t2, d, g1, gb1, gb2, gl⟩ := hp1'
  obtain ⟨b1, b2, u1, u2, e, k1, kb1, kb2, kl⟩ := hp2
  have g1 := s4 _ _ (s3 _ _ g1)
  have k1 := s4 _ _ (s3 _ _ k1)
  have hDq4 := s4 _ _ hDq
  replace hqs := hqs.same s4
  obtain ⟨kp, op, hkey⟩ := hR d e
  have len1 : ∀ (m : Str) (v : V) (fs : List (Str × V)) (n : Nat), fs.length ≤ n → (putF m v fs).length ≤ n + 1 := fun m v fs n h => Nat.le_trans (putF_len m v fs) (Nat.succ_le_succ h)
  refine pr_seq (st_same (fun H' => H' x = some (.ins C dx (putF "_outer" (.str o) [])) ∧ Off x H4 H') (fun D' k => ?_) ?_)
  · exact ⟨_, rfl, _, rfl, x, C, dx, _, rfl, hx4, N.cl, N.nO, (by show 0 < 1000; decide), k _ ⟨upd_same, fun b u hb e => by rw [upd_ne hb]; exact e⟩⟩
  rintro H5 ⟨hx5, o5⟩
  refine pr_seq (st_same (fun H' => H' x = some (.ins C dx (putF "_inner" (.str i) (putF "_outer" (.str o) []))) ∧ Off x H4 H') (fun D' k => ?_) ?_)
  · refine ⟨_, rfl, _, rfl, x, C, dx, _, rfl, hx5, N.cl, N.nI, ?_, k _ ⟨upd_same, fun b u hb e => by rw [upd_ne hb]; exact o5 _ _ hb e⟩⟩
    have := len1 "_outer" (.str o) [] 0 (Nat.le_refl _)
    omega
  rintro H6 ⟨hx6, o6⟩
  refine pr_seq (st_same (fun H' => H' x = some (.ins C dx (putF "_deeds" (.ref dp) (putF "_inner" (.str i) (putF "_outer" (.str o) [])))) ∧ Off x H4 H') (fun D' k => ?_) ?_)
  · refine ⟨_, rfl, _, rfl, x, C, dx, _, rfl, hx6, N.cl, N.nD, ?_, k _ ⟨upd_same, fun b u hb e => by rw [upd_ne hb]; exact o6 _ _ hb e⟩⟩
    have := len1 "_inner" (.str i) _ _ (len1 "_outer" (.str o) [] 0 (Nat.le_refl _))
    omega
  rintro H7 ⟨hx7, o7⟩
  refine pr_seq (asg_ ?_)
  refine ⟨_, rfl, p1, _, rfl, SqT.of (o7 _ _ (ne_ins hx4 g1) g1), rfl, _, _, rfl, _, _, rfl, _, _, rfl, rfl, ?_⟩
  refine pr_seq (asg_ ?_)
  refine ⟨_, rfl, p2, _, rfl, SqT.of (o7 _ _ (ne_ins hx4 k1) k1), rfl, _, _, rfl, _, _, rfl, _, _, rfl, rfl, ?_⟩
  refine pr_seq (st_same (fun H' => ∃ bp : Addr, H' bp = some (.tup [.ref a1, .ref a2, .ref b1, .ref b2]) ∧ H' x = some (.ins C dx (putF "bounds" (.ref bp) (putF "_deeds" (.ref dp) (putF "_inner" (.str i) (putF "_outer" (.str o) []))))) ∧ Off x H4 H') (fun D' k => ?_) ?_)
  · refine ⟨_, rfl, _, rfl, _, rfl, _, rfl, (by show 4 ≤ sizeLine; decide), fun bp nbp => ?_⟩
    have sb := same_new (o := .tup [.ref a1, .ref a2, .ref b1, .ref b2]) nbp
    have nx : bp ≠ x := fun e => by rw [e, hx7] at nbp; cases nbp
    refine ⟨_, rfl, x, C, dx, _, rfl, sb _ _ hx7, N.cl, N.nB, ?_, k _ ⟨bp, ?_, upd_same, fun b u hb e => by rw [upd_ne hb]; exact sb _ _ (o7 _ _ hb e)⟩⟩
    · have := len1 "_deeds" (.ref dp) _ _ (len1 "_inner" (.str i) _ _ (len1 "_outer" (.str o) [] 0 (Nat.le_refl _)))
      omega
    · rw [upd_ne nx]
      exact upd_same
  rintro H8 ⟨bp, hbp, hx8, o8⟩
  refine pr_seq (st_same (fun H' => H' x = some (.ins C dx (putF "orders" (.ref op) (putF "bounds" (.ref bp) (putF "_deeds" (.ref dp) (putF "_inner" (.str i) (putF "_outer" (.str o) [])))))) ∧ Off x H8 H') (fun D' k => ?_) ?_)
  · refine ⟨_, rfl, _, rfl, (by show 2 ≤ sizeLine; decide), fun tp ntp => ?_⟩
    have st := same_new (o := .tup [.int (if d = true then 1 else 0), .int (if e = true then 1 else 0)]) ntp
    refine ⟨tp, [if d = true then 1 else 0, if e = true then 1 else 0], (kp, .ref op), .ref op, rfl, rfl, SqT.of upd_same, hkey, rfl, ?_⟩
    refine ⟨_, rfl, x, C, dx, _, rfl, st _ _ hx8, N.cl, N.nR, ?_, k _ ⟨upd_same, fun b u hb e => by rw [upd_ne hb]; exact st _ _ e⟩⟩
    have := len1 "bounds" (.ref bp) _ _ (len1 "_deeds" (.ref dp) _ _ (len1 "_inner" (.str i) _ _ (len1 "_outer" (.str o) [] 0 (Nat.le_refl _))))
    omega
  rintro H9 ⟨hx9, o9⟩
  have o49 : Off x H4 H9 := fun b u hb e => o9 _ _ hb (o8 _ _ hb e)
  have nDq : Dq ≠ x := fun e => by rw [e, hx4] at hDq4; cases hDq4
  refine pr_one ?_
  refine ⟨_, rfl, .inl ⟨Dq, qs, rfl, SqL.of (o49 _ _ nDq hDq4), fun pp npp => ?_⟩⟩
  have sp := same_new (o := .tup qs) npp
  have npx : pp ≠ x := fun e => by rw [e, hx9] at npp; cases npp
  refine ⟨_, rfl, x, C, dx, _, rfl, sp _ _ hx9, N.cl, N.nP, ?_, ?_⟩
  · have := len1 "orders" (.ref op) _ _ (len1 "bounds" (.ref bp) _ _ (len1 "_deeds" (.ref dp) _ _ (len1 "_inner" (.str i) _ _ (len1 "_outer" (.str o) [] 0 (Nat.le_refl _)))))
    omega
  have fin : ∀ b u, b ≠ x → H9 b = some u → upd (upd H9 pp (.tup qs)) x (.ins C dx (putF "plans" (.ref pp) (putF "orders" (.ref op) (putF "bounds" (.ref bp) (putF "_deeds" (.ref dp) (putF "_inner" (.str i) (putF "_outer" (.str o) []))))))) b = some u := fun b u hb e => by
    rw [upd_ne hb]
    exact sp _ _ e
  refine q ⟨.ref bp, .ref op, .ref pp⟩ _ ⟨bp, op, pp, a1, a2, b1, b2, t1, t2, u1, u2, d, e, qs, rfl, fin _ _ (ne_ins hx8 hbp) (o9 _ _ (ne_ins hx8 hbp) hbp), gb1, gb2, kb1, kb2, gl, kl, ?_, ?_⟩ upd_same fun b u hb e => fin _ _ hb (o49 _ _ hb (sm4 _ _ e))
  · rw [upd_ne npx]
    exact upd_same
  · exact hqs.off hx4 fun b u hb e => fin _ _ hb (o49 _ _ hb e)
end
end Sq
namespace Sq
open PySem L2 TL
section
variable {X : Cx} {k : Nat} {f C : Addr} {sp : Sp}
/-- len(o), o an instance of a class of the text with a __len__ -/
theorem call_lenO (hs : PySem.W.findIn X.K (.ref C) "__len__" = some (some (.ref f))) (hf : PySem.W.isFn X.K (.ref f) = true) (F : FnR X.prog X.w X.K X.mg X.base CX0 k f sp) (hr : Room (k + 1) X.A) :
    CallR X (.builtin "len") (fun xs H Q => ∃ a dx fs, xs = [.ref a] ∧ H a = some (.ins C dx fs) ∧ sp [.ref a] H (fun v H' => ∃ n : Int, v = .int n ∧ 0 ≤ n ∧ n < 2 ^ 63 ∧ Q (.int n) H') E0) := by
  intro pins s σ H xs us Q I r h
  obtain ⟨a, dx, fs, rfl, ha, q⟩ := h
  obtain ⟨u, rfl, r1⟩ := vals1 r
  cases r1
  obtain ⟨mA, J, _⟩ := ins_get I.hok ha
  obtain ⟨od, J, _⟩ := J.look
  obtain ⟨m, hF⟩ := I.fr
  refine PySem.W.len_K hF I.ok.mod.kin J hs hf ?_
  refine wpAny_mono (run_below F hr.in1 rfl I (rel1 a) q) (fun v s' hv => ?_) fun _ _ z => z
  obtain ⟨y, H', I', ry, n, ey, h0, h1, q'⟩ := hv
  subst ey
  obtain ⟨t, rfl⟩ := ry
  exact ⟨⟨h0, h1⟩, .int n, H', I'.tok _, ⟨_, rfl⟩, q'⟩
end
theorem eqv_strs : ∀ ds es : List Str, PyData.eqvAll (ds.map .str) (es.map .str) = decide (ds = es)
  | [], [] => rfl
  | d :: ds, e :: es => by
    have ih := eqv_strs ds es
    show (PyData.eqv (.str d) (.str e) && PyData.eqvAll (ds.map .str) (es.map .str)) = _
    rw [ih]
    show ((d == e) && decide (ds = es)) = decide (d :: ds = e :: es)
    by_cases h1 : d = e
    · by_cases h2 : ds = es
      · simp [h1, h2]
      · simp [h1, h2]
    · simp [h1]
  | [], e :: es => by
    show false = decide (([] : List Str) = e :: es)
    simp
  | d :: ds, [] => by
    show false = decide (d :: ds = ([] : List Str))
    simp
theorem dp_strs {K : PySem.W.Frag} {H : Hp} : ∀ ds : List Str, DpAll K H (ds.map V.str) (ds.map PyData.str)
  | [] => .nil
  | d :: ds => .cons (.str d) (dp_strs ds)
section
variable {P : Program} {w : World} {K : PySem.W.Frag} {mg : Str → Option Value} {base : Heap}
variable {C : Addr}
abbrev sNOuter : Stmt := inClass (top 33) 1
abbrev sNInner : Stmt := inClass (top 33) 2
abbrev sNDeeds : Stmt := inClass (top 33) 3
abbrev sNLen : Stmt := inClass (top 33) 4
abbrev sNBool : Stmt := inClass (top 33) 5
abbrev sNEq : Stmt := inClass (top 33) 6
def spMade (K : PySem.W.Frag) (C : Addr) : Sp := fun vs H Q E => ∃ ws rest, vs = ws ++ rest ∧ ws.length = (["self", "outer", "inner"] : List Str).length ∧ rest.length ≤ sizeLine ∧ ∀ p, H p = none → spInit K C (ws ++ [V.ref p]) (upd H p (.tup rest)) Q E
def spKw (K : PySem.W.Frag) (C : Addr) : Sp := fun vs H Q E => ∃ x v1 v2, vs = [x, v1, v2] ∧ ∀ p, H p = none → spInit K C [x, v2, v1, .ref p] (upd H p (.tup [])) Q E
theorem ok_initR {C : Addr} {f : Addr} {fd : FuncData} (F : Fun K "__init__" "Nest.__init__" s_NInit f fd) (N : Nc K C) (T : Bt mg) (G_read_outer_loop : FB P w K mg base "read_outer_loop" 2 ["value"] (spReadL K obs))(G_read_loop : FB P w K mg base "read_loop" 1 ["value"] (spReadL K (obs ++ ibs)))(G_read_deed : FB P w K mg base "read_deed" 2 ["value"] (spReadD K))(G_first_wrong : FB P w K mg base "first_wrong" 1 ["rights", "most"] (spFirst K)) {u : Tok} (mM : mg "MOST_DEEDS" = some (.int 6 u)) {aR : Addr} (mR : mg "ORDERS" = some (.ref aR)) (DO : OrdD P w K aR) :
    FnR P w K mg base CX0 4 f (spMade K C) := by
  obtain ⟨oc, od, kV, doc, pm, an, cdv, ct, osl, rfl, lk, hcd⟩ := F.ex
  refine StX.fn_star (ps := ["self", "outer", "inner"]) (pv := "deeds") (sp := spInit K C) lk hcd sc_NInit StX.cxUp_none (fun us rest hl => ?_) fun A outer s H vs Q E hr h => init_body N T G_read_outer_loop G_read_loop G_read_deed G_first_wrong mM mR DO hr h
  match us, rest, hl with
  | [a, b, c], [], _ => rfl
  | [a, b, c], r :: rs, _ => rfl
theorem ok_initK {C : Addr} {f : Addr} {fd : FuncData} (F : Fun K "__init__" "Nest.__init__" s_NInit f fd) (N : Nc K C) (T : Bt mg) (G_read_outer_loop : FB P w K mg base "read_outer_loop" 2 ["value"] (spReadL K obs))(G_read_loop : FB P w K mg base "read_loop" 1 ["value"] (spReadL K (obs ++ ibs)))(G_read_deed : FB P w K mg base "read_deed" 2 ["value"] (spReadD K))(G_first_wrong : FB P w K mg base "first_wrong" 1 ["rights", "most"] (spFirst K)) {u : Tok} (mM : mg "MOST_DEEDS" = some (.int 6 u)) {aR : Addr} (mR : mg "ORDERS" = some (.ref aR)) (DO : OrdD P w K aR) :
    FnK2 P w K mg base 4 f "inner" "outer" (spKw K C) := by
  obtain ⟨oc, od, kV, doc, pm, an, cdv, ct, osl, rfl, lk, hcd⟩ := F.ex
  exact fn_starK2 (n0 := "self") (nv := "deeds") lk hcd sc_NInit (fun x u1 u2 => rfl) fun A outer s H vs Q E hr h => init_body N T G_read_outer_loop G_read_loop G_read_deed G_first_wrong mM mR DO hr h
theorem scGet1 : FnScope ["self"] ["self"] (defScope sNOuter) := ⟨rfl, rfl, rfl, by decide +kernel, rfl, by decide +kernel, by decide +kernel⟩
theorem ok_get1 {f : Addr} {fd : FuncData} (F : Fun K "outer" "Nest.outer" sNOuter f fd) (N : Nc K C) : FnOk P w K mg base CX0 1 f fd ["self"] (getSp C "_outer") := by
  obtain ⟨oc, od, kV, doc, pm, an, cdv, ct, osl, rfl, lk, hcd⟩ := F.ex
  exact fn_getter lk hcd scGet1 rfl rfl N.cl N.nO
theorem scGet2 : FnScope ["self"] ["self"] (defScope sNInner) := ⟨rfl, rfl, rfl, by decide +kernel, rfl, by decide +kernel, by decide +kernel⟩
theorem ok_get2 {f : Addr} {fd : FuncData} (F : Fun K "inner" "Nest.inner" sNInner f fd) (N : Nc K C) : FnOk P w K mg base CX0 1 f fd ["self"] (getSp C "_inner") := by
  obtain ⟨oc, od, kV, doc, pm, an, cdv, ct, osl, rfl, lk, hcd⟩ := F.ex
  exact fn_getter lk hcd scGet2 rfl rfl N.cl N.nI
theorem scGet3 : FnScope ["self"] ["self"] (defScope sNDeeds) := ⟨rfl, rfl, rfl, by decide +kernel, rfl, by decide +kernel, by decide +kernel⟩
theorem ok_get3 {f : Addr} {fd : FuncData} (F : Fun K "deeds" "Nest.deeds" sNDeeds f fd) (N : Nc K C) : FnOk P w K mg base CX0 1 f fd ["self"] (getSp C "_deeds") := by
  obtain ⟨oc, od, kV, doc, pm, an, cdv, ct, osl, rfl, lk, hcd⟩ := F.ex
  exact fn_getter lk hcd scGet3 rfl rfl N.cl N.nD
/-- __len__, __bool__, __eq__ of nests -/
def spNLen (C : Addr) : Sp := fun vs H Q _ => ∃ (a : Addr) (o i : Str) (ds : List Str), vs = [.ref a] ∧ NestAt C H a o i ds ∧ Q (.int (ds.length : Int)) H
theorem scNLen : FnScope ["self"] ["self"] (defScope sNLen) := ⟨rfl, rfl, rfl, by decide +kernel, rfl, by decide +kernel, by decide +kernel⟩
theorem ok_nlen {f : Addr} {fd : FuncData} (F : Fun K "__len__" "Nest.__len__" sNLen f fd) (N : Nc K C) (T : Bt mg) : FnOk P w K mg base CX0 1 f fd ["self"] (spNLen C) := by
  refine F.ok scNLen (fun vs H Q E h => ?_) (fun cdv A outer s H vs Q E hr h => ?_)
  · obtain ⟨a, o, i, ds, rfl, _⟩ := h
    rfl
  · obtain ⟨a, o, i, ds, rfl, ⟨dx, dp, ⟨R, h1⟩, h2⟩, q⟩ := h
    refine ⟨_, pss_one (ps_ret (pe_callB call_len_seq (by rfl) T.len PySem.boot_len (pa_cons (pe_fld (pv 0) rfl) pa_nil))), ?_⟩
    refine ⟨_, rfl, a, C, dx, _, _, rfl, h1, N.cl, N.nD, nfl_deeds _ _ _ _, dp, _, rfl, .inr (SqT.of h2), ?_⟩
    rw [List.length_map]
    exact q
def spNBool (C : Addr) : Sp := fun vs H Q _ => ∃ (a : Addr), vs = [.ref a] ∧ Q (.bl true) H
theorem scNBool : FnScope ["self"] ["self"] (defScope sNBool) := ⟨rfl, rfl, rfl, by decide +kernel, rfl, by decide +kernel, by decide +kernel⟩
theorem ok_nbool {f : Addr} {fd : FuncData} (F : Fun K "__bool__" "Nest.__bool__" sNBool f fd) : FnOk P w K mg base CX0 1 f fd ["self"] (spNBool C) := by
  refine F.ok scNBool (fun vs H Q E h => ?_) (fun cdv A outer s H vs Q E hr h => ?_)
  · obtain ⟨a, rfl, _⟩ := h
    rfl
  · obtain ⟨a, rfl, q⟩ := h
    exact ⟨_, pss_one (ps_ret pe_bl), q⟩
/-- what isinstance asks of an instance's class -/
structure Isn (K : PySem.W.Frag) (C : Addr) : Prop where
  c1 : PySem.W.findIn K (.ref C) "__class__" = some (some (.builtin "object.__class__"))
  c2 : PySem.W.specialIn K (.builtin "object.__class__") "__get__" = some (some (.builtin "getset_descriptor.__get__"))
  c3 : PySem.W.takesIn K (.builtin "object.__class__") = some true
  c4 : PySem.W.mroIn K C (.type "object") = some true
def spNEq (C : Addr) : Sp := fun vs H Q _ => ∃ (a b : Addr) (o i o2 i2 : Str) (ds es : List Str), vs = [.ref a, .ref b] ∧ NestAt C H a o i ds ∧ NestAt C H b o2 i2 es ∧ SeqAt.shaped (.tuple (ds.map .str)) = true ∧ SeqAt.shaped (.tuple (es.map .str)) = true ∧
  Q (.bl (decide (o = o2 ∧ i = i2 ∧ ds = es))) H
theorem scNEq : FnScope ["self", "other"] ["self", "other"] (defScope sNEq) := ⟨rfl, rfl, rfl, by decide +kernel, rfl, by decide +kernel, by decide +kernel⟩
theorem kit_self (K : PySem.W.Frag) (C : Addr) : PySem.W.kitOne K (.ref C) (.ref C) = some true := by
  unfold PySem.W.kitOne
  rw [if_pos (by simp)]
theorem ok_neq {f : Addr} {fd : FuncData} (F : Fun K "__eq__" "Nest.__eq__" sNEq f fd) (N : Nc K C) (I : Isn K C) (mN : mg "Nest" = some (.ref C)) (T : Bt mg) : FnOk P w K mg base CX0 1 f fd ["self", "other"] (spNEq C) := by
  refine F.ok scNEq (fun vs H Q E h => ?_) (fun cdv A outer s H vs Q E hr h => ?_)
  · obtain ⟨a, b, o, i, o2, i2, ds, es, rfl, _⟩ := h
    rfl
  · obtain ⟨a, b, o, i, o2, i2, ds, es, rfl, ⟨dx, dp, ⟨R, h1⟩, h2⟩, ⟨dy, dq, ⟨S, g1⟩, g2⟩, z1, z2, q⟩ := h
    refine ⟨_, pss_one (ps_ret (pe_and (pe_callB call_isi (by rfl) T.isinstance (by decide +kernel) (pa_cons (pv 1) (pa_cons (pe_glob (v := .ref C) (by rfl) mN rfl) pa_nil)))
      (pe_and (pe_cmpR op_eq (pe_fld (pv 0) rfl) (pe_fld (pv 1) rfl) (nomark _))
      (pe_and (pe_cmpR op_eq (pe_fld (pv 0) rfl) (pe_fld (pv 1) rfl) (nomark _))
      (pe_one (pe_cmpR (op_eqD hr.units) (pe_fld (pv 0) rfl) (pe_fld (pv 1) rfl) (nomark _))))))), ?_⟩
    refine ⟨_, rfl, _, _, .ref C, .ref C, true, rfl, .own C, .base (.ins g1 N.cl I.c1 I.c2 I.c3 I.c4), kit_self K C, true, rfl, ?_⟩
    refine iteT ?_
    refine ⟨_, rfl, a, C, dx, _, _, rfl, h1, N.cl, N.nO, nfl_outer _ _ _ _, _, rfl, b, C, dy, _, _, rfl, g1, N.cl, N.nO, nfl_outer _ _ _ _, rfl, _, rfl, ?_⟩
    refine ite2 (fun ho => ?_) (fun ho => ?_)
    · have eo : o = o2 := V.str.inj (of_decide_eq_true ho)
      refine ⟨_, rfl, a, C, dx, _, _, rfl, h1, N.cl, N.nI, nfl_inner _ _ _ _, _, rfl, b, C, dy, _, _, rfl, g1, N.cl, N.nI, nfl_inner _ _ _ _, rfl, _, rfl, ?_⟩
      refine ite2 (fun hi => ?_) (fun hi => ?_)
      · have ei : i = i2 := V.str.inj (of_decide_eq_true hi)
        refine ⟨_, rfl, a, C, dx, _, _, rfl, h1, N.cl, N.nD, nfl_deeds _ _ _ _, _, rfl, b, C, dy, _, _, rfl, g1, N.cl, N.nD, nfl_deeds _ _ _ _, ?_⟩
        refine ⟨.tuple (ds.map .str), .tuple (es.map .str), .tup (SqT.of h2) (dp_strs ds), .tup (SqT.of g2) (dp_strs es), ?_, ?_, ?_⟩
        · exact z1
        · exact z2
        · rw [show PyData.eqv (.tuple (ds.map .str)) (.tuple (es.map .str)) = decide (ds = es) from (by rw [PyData.eqv]; exact eqv_strs ds es)]
          simpa [eo, ei] using q
      · have ei : ¬ i = i2 := fun e => hi (decide_eq_true (by rw [e]))
        simpa [ei] using q
    · have eo : ¬ o = o2 := fun e => ho (decide_eq_true (by rw [e]))
      simpa [eo] using q
end
/-- all that is known of the class Nest -/
structure NestK (P : Program) (w : World) (K : PySem.W.Frag) (mg : Str → Option Value) (base : Heap) (C : Addr) : Prop where
  nc : Nc K C
  mN : mg "Nest" = some (.ref C)
  mks : ∃ fi, Mk K C fi ∧ FnR P w K mg base CX0 4 fi (spMade K C) ∧ FnK2 P w K mg base 4 fi "inner" "outer" (spKw K C)
  p1 : ∃ p g d, PropOf K C "outer" p g ∧ FnOk P w K mg base CX0 1 g d ["self"] (getSp C "_outer") ∧ Binds K d ["self"] []
  p2 : ∃ p g d, PropOf K C "inner" p g ∧ FnOk P w K mg base CX0 1 g d ["self"] (getSp C "_inner") ∧ Binds K d ["self"] []
  p3 : ∃ p g d, PropOf K C "deeds" p g ∧ FnOk P w K mg base CX0 1 g d ["self"] (getSp C "_deeds") ∧ Binds K d ["self"] []
  len : ∃ f, PySem.W.findIn K (.ref C) "__len__" = some (some (.ref f)) ∧ PySem.W.isFn K (.ref f) = true ∧ FnR P w K mg base CX0 1 f (spNLen C)
  bool : ∃ f, PySem.W.findIn K (.ref C) "__bool__" = some (some (.ref f)) ∧ PySem.W.isFn K (.ref f) = true ∧ FnR P w K mg base CX0 1 f (spNBool C)
  eq : ∃ f, PySem.W.findIn K (.ref C) "__eq__" = some (some (.ref f)) ∧ PySem.W.isFn K (.ref f) = true ∧ FnR P w K mg base CX0 1 f (spNEq C)
  ne : PySem.W.findIn K (.ref C) "__ne__" = some (some (.builtin "object.__ne__"))
  ob : PySem.W.subIn K (.ref C) (.type "object") = some true
end Sq
namespace Sq.N4
open PySem L2 TL
def edge (b : Nat) : Str := (obs ++ ibs).getD b ""
def walkS (a b : Str) (down : Bool) : Str := a ++ " to " ++ b ++ (if down = true then (" down" : Str) else "")
theorem walk_split {a b : Str} (ha : 32 ∉ tl a) (hb : 32 ∉ tl b) (d : Bool) : Txt.split (walkS a b d) " " = [a, "to", b] ++ (if d = true then [("down" : Str)] else []) := by
  have key : ∀ parts : List Str, parts ≠ [] → (∀ p ∈ parts, 32 ∉ tl p) → walkS a b d = Txt.join " " parts → Txt.split (walkS a b d) " " = parts := fun parts h1 h2 e => by
    rw [e]
    exact split_join (s := 32) (S := []) (by decide +kernel) (by decide +kernel) h1 h2
  have ht : 32 ∉ tl ("to" : Str) := by decide +kernel
  have hd : 32 ∉ tl ("down" : Str) := by decide +kernel
  have e1 : tl (" to " : Str) = 32 :: (tl ("to" : Str) ++ [32]) := by decide +kernel
  have e2 : tl (" down" : Str) = 32 :: tl ("down" : Str) := by decide +kernel
  have e3 : tl (" " : Str) = [32] := by decide +kernel
  refine key _ (by cases d <;> simp) (fun p hp => ?_) (ext_tl ?_)
  · cases d
    · rcases (by simpa using hp : p = a ∨ p = "to" ∨ p = b) with rfl | rfl | rfl <;> assumption
    · rcases (by simpa using hp : p = a ∨ p = "to" ∨ p = b ∨ p = "down") with rfl | rfl | rfl | rfl <;> assumption
  · rw [join_eq, tl_join, e3]
    unfold walkS
    cases d
    · rw [tl_append, tl_append, tl_append, e1]
      simp [joinL]
      rfl
    · rw [tl_append, tl_append, tl_append, e1]
      simp [joinL, e2]
theorem walk_ok {bs : List Str} {a b : Str} (ha : 32 ∉ tl a) (hb : 32 ∉ tl b) (nb : b ≠ "down") (ma : memB bs a = true) (mb : memB bs b = true) (d : Bool) : loopB bs (walkS a b d) = true := by
  unfold loopB cutDown
  rw [walk_split ha hb]
  cases d
  · have e : ([a, "to", b] ++ (if false = true then [("down" : Str)] else []) : List Str) = [a, "to", b] := rfl
    rw [e]
    rw [if_neg (show ¬ ([a, "to", b] : List Str).getLast? = some ("down" : Str) from fun z => nb (Option.some.inj z))]
    simp [loopW, ma, mb]
  · have e : ([a, "to", b] ++ (if true = true then [("down" : Str)] else []) : List Str) = [a, "to", b, "down"] := rfl
    rw [e]
    rw [if_pos (show ([a, "to", b, "down"] : List Str).getLast? = some ("down" : Str) from rfl)]
    show loopW bs [a, "to", b] = true
    simp [loopW, ma, mb]
theorem edge_plain : ∀ a : _root_.Fin 18, 32 ∉ tl (edge a.val) ∧ edge a.val ≠ "down" ∧ memB (obs ++ ibs) (edge a.val) = true ∧ (edge a.val).length ≤ 12 := by decide +kernel
theorem edge_outer : ∀ a : _root_.Fin 12, memB obs (edge a.val) = true := by decide +kernel
def rowOf (a b d : Nat) : Str := walkS (edge a) (edge b) (decide (d = 1))
theorem row_outer {a b : Nat} (d : Nat) (ha : a < 12) (hb : b < 12) : loopB obs (rowOf a b d) = true :=
  walk_ok (edge_plain ⟨a, by omega⟩).1 (edge_plain ⟨b, by omega⟩).1 (edge_plain ⟨b, by omega⟩).2.1 (edge_outer ⟨a, ha⟩) (edge_outer ⟨b, hb⟩) _
theorem row_inner {a b : Nat} (d : Nat) (ha : a < 18) (hb : b < 18) : loopB (obs ++ ibs) (rowOf a b d) = true :=
  walk_ok (edge_plain ⟨a, ha⟩).1 (edge_plain ⟨b, hb⟩).1 (edge_plain ⟨b, hb⟩).2.1 (edge_plain ⟨a, ha⟩).2.2.1 (edge_plain ⟨b, hb⟩).2.2.1 _
theorem str_len_append (x y : Str) : (x ++ y).length = x.length + y.length := by
  rw [len_tl, tl_append, List.length_append, ← len_tl, ← len_tl]
theorem row_len {a b : Nat} (d : Nat) (ha : a < 18) (hb : b < 18) : (rowOf a b d).length ≤ 40 := by
  have h1 : (edge a).length ≤ 12 := (edge_plain ⟨a, ha⟩).2.2.2
  have h2 : (edge b).length ≤ 12 := (edge_plain ⟨b, hb⟩).2.2.2
  unfold rowOf walkS
  rw [str_len_append, str_len_append, str_len_append]
  have h3 : (if decide (d = 1) = true then (" down" : Str) else "").length ≤ 5 := by split <;> decide +kernel
  have h4 : (" to " : Str).length = 4 := by decide +kernel
  omega
abbrev sBehind : Stmt := top 38
abbrev sRowsBy : Stmt := top 36
/-! ### what stands behind a row's start -/
theorem starts_pre (x y : Str) : Txt.startswith x y = pre (tl y) (tl x) := by
  have hl := len_tl y
  have hx := len_tl x
  unfold Txt.startswith
  rw [StrLaws.subAt_eq, hl, List.drop_zero]
  show (decide (0 + y.length ≤ x.length) && ((tl x).take (tl y).length == tl y)) = ((tl x).take (tl y).length == tl y)
  cases e : ((tl x).take (tl y).length == tl y) with
  | false => simp
  | true =>
    have e1 := congrArg List.length (eq_of_beq e)
    rw [List.length_take] at e1
    simp
    omega
theorem starts_app (y x : Str) : Txt.startswith (y ++ x) y = true := by
  rw [starts_pre, tl_append]
  unfold pre
  rw [List.take_left, beq_self_eq_true]
theorem cut_app (y x : Str) : Txt.removeprefix (y ++ x) y = x := by
  have hs := starts_app y x
  unfold Txt.startswith at hs
  have h2 : Builtin.Str.subAt (y ++ x) y 0 = true := (Bool.and_eq_true_iff.mp hs).2
  unfold Txt.removeprefix
  rw [if_pos h2]
  have hl : (y ++ x).length = y.length + x.length := str_len_append y x
  show (if (y ++ x).length - y.length == (y ++ x).length then (y ++ x) else Builtin.Str.strSub (y ++ x) y.length (y ++ x).length) = x
  refine ext_tl ?_
  by_cases h0 : y.length = 0
  · have e0 : tl y = [] := List.eq_nil_of_length_eq_zero (by rw [← len_tl]; exact h0)
    rw [if_pos (by rw [hl]; simp; omega), tl_append, e0, List.nil_append]
  · rw [if_neg (by rw [hl]; simp; omega), tl_strSub, tl_append, len_tl y, List.drop_left, List.take_of_length_le (by rw [hl, len_tl x, len_tl y]; omega)]
def behindV (y x : Str) : V := if Txt.startswith x y = true then .str (Txt.removeprefix x y) else .non
theorem behind_app (y x : Str) : behindV y (y ++ x) = .str x := by
  unfold behindV
  rw [if_pos (starts_app y x), cut_app]
def spBehind : Sp := fun vs H Q _ => ∃ (y x : Str), vs = [.str y, .str x] ∧ x.length ≤ sizeLine ∧ Q (behindV y x) H
section
variable {P : Program} {w : World} {K : PySem.W.Frag} {mg : Str → Option Value} {base : Heap}
theorem scBehind : FnScope ["start", "row"] ["start", "row"] (defScope sBehind) := ⟨rfl, rfl, rfl, by decide +kernel, rfl, by decide +kernel, by decide +kernel⟩
theorem ok_behind {f : Addr} {fd : FuncData} (F : Fun K "behind" "behind" sBehind f fd) : FnOk P w K mg base CX0 1 f fd ["start", "row"] spBehind := by
  refine F.ok scBehind (fun vs H Q E h => ?_) (fun cdv A outer s H vs Q E hr h => ?_)
  · obtain ⟨y, x, rfl, _⟩ := h
    rfl
  · obtain ⟨y, x, rfl, hx, q⟩ := h
    refine ⟨_, pss_one (ps_ret (pe_ifExp (pt_val (pe_m1 PySem.F.slot_str_startswith PySem.F.type_str_startswith mt_startswith (pv 1) (pv 0))) (pe_m1 PySem.F.slot_str_removeprefix PySem.F.type_str_removeprefix mt_removeprefix (pv 1) (pv 0)) pe_non)), ?_⟩
    refine ⟨_, rfl, ⟨_, rfl⟩, _, rfl, _, _, rfl, rfl, _, rfl, ?_⟩
    unfold behindV at q
    cases e : Txt.startswith x y with
    | true =>
      rw [e, if_pos rfl] at q
      refine iteT ?_
      exact ⟨_, rfl, ⟨_, rfl⟩, _, rfl, _, _, rfl, rfl, hx, q⟩
    | false =>
      rw [e, if_neg (by decide)] at q
      exact iteF q
end
/-! ### the rows of a text, nest by nest -/
def ofrom : Str := "i from "
def jfrom : Str := "j from "
def addRow (gs : List (List Str)) (r : Str) : List (List Str) := if gs = [] ∨ Txt.startswith r ofrom = true then gs ++ [[r]] else gs.dropLast ++ [gs.getLast?.getD [] ++ [r]]
def grp (rows : List Str) : List (List Str) := rows.foldl addRow []
def partsOf (z : Str) : List (List Str) := if z = "" then [] else grp (Txt.split z "\n")
/-- lists of texts, listed at p -/
def Grps (H0 H : Hp) (p : Addr) (gs : List (List Str)) : Prop := ∃ as : List Addr, H p = some (.lst (as.map V.ref)) ∧ as.length = gs.length ∧ as.Nodup ∧ p ∉ as ∧ H0 p = none ∧ (∀ a ∈ as, H0 a = none) ∧
  ∀ (i : Nat) (a : Addr) (g : List Str), as[i]? = some a → gs[i]? = some g → H a = some (.lst (g.map V.str))
theorem addRow_len {gs : List (List Str)} {r : Str} {i : Nat} (h1 : gs.length ≤ i) (h2 : ∀ g ∈ gs, g.length ≤ i) : (addRow gs r).length ≤ i + 1 ∧ ∀ g ∈ addRow gs r, g.length ≤ i + 1 := by
  unfold addRow
  split
  · refine ⟨by rw [List.length_append]; exact Nat.add_le_add_right h1 1, fun g hg => ?_⟩
    rcases List.mem_append.mp hg with h | h
    · exact Nat.le_succ_of_le (h2 g h)
    · rw [List.mem_singleton.mp h]
      exact Nat.succ_le_succ (Nat.zero_le _)
  · rename_i hn
    have hne : gs ≠ [] := fun e => hn (.inl e)
    refine ⟨by rw [List.length_append, List.length_dropLast]; show gs.length - 1 + 1 ≤ i + 1; omega, fun g hg => ?_⟩
    rcases List.mem_append.mp hg with h | h
    · exact Nat.le_succ_of_le (h2 g (List.dropLast_subset _ h))
    · rw [List.mem_singleton.mp h, List.getLast?_eq_some_getLast hne]
      show (gs.getLast hne ++ [r]).length ≤ i + 1
      rw [List.length_append]
      exact Nat.add_le_add_right (h2 _ (List.getLast_mem hne)) 1
theorem nodup_snoc {as : List Addr} {q : Addr} (h : as.Nodup) (hq : q ∉ as) : (as ++ [q]).Nodup := by
  rw [List.nodup_append]
  exact ⟨h, List.nodup_cons.mpr ⟨List.not_mem_nil, List.nodup_nil⟩, fun a ha b hb e => hq (by rw [List.mem_singleton.mp hb] at e; rw [← e]; exact ha)⟩
theorem Grps.snoc {H0 H : Hp} {p q : Addr} {gs : List (List Str)} {as : List Addr} (sm : Same H0 H) (hq : H q = none) (h1 : H p = some (.lst (as.map V.ref))) (h2 : as.length = gs.length) (h3 : as.Nodup) (h4 : p ∉ as) (h5 : H0 p = none) (h6 : ∀ a ∈ as, H0 a = none)
    (h7 : ∀ (i : Nat) (a : Addr) (g : List Str), as[i]? = some a → gs[i]? = some g → H a = some (.lst (g.map V.str))) :
    Grps H0 (upd (upd H q (.lst [])) p (.lst (as.map V.ref ++ [.ref q]))) p (gs ++ [[]]) := by
  have npq : p ≠ q := ne_of_none h1 hq
  have nq0 : H0 q = none := by
    cases e : H0 q with
    | none => rfl
    | some o => rw [sm _ _ e] at hq; cases hq
  have nqa : q ∉ as := fun hm => by
    obtain ⟨i, hi⟩ := List.mem_iff_getElem?.mp hm
    have hl : i < gs.length := by rw [← h2]; exact (List.getElem?_eq_some_iff.mp hi).1
    have z := h7 i q _ hi (List.getElem?_eq_getElem hl)
    rw [hq] at z
    cases z
  refine ⟨as ++ [q], by rw [upd_same, List.map_append]; rfl, by rw [List.length_append, List.length_append, h2]; rfl, nodup_snoc h3 nqa, fun hm => ?_, h5, fun a ha => ?_, fun i a g hi hg => ?_⟩
  · rcases List.mem_append.mp hm with h | h
    · exact h4 h
    · exact npq (List.mem_singleton.mp h)
  · rcases List.mem_append.mp ha with h | h
    · exact h6 a h
    · rw [List.mem_singleton.mp h]
      exact nq0
  · by_cases hl : i < as.length
    · rw [List.getElem?_append_left hl] at hi
      rw [List.getElem?_append_left (by omega)] at hg
      have z := h7 i a g hi hg
      have ma : a ∈ as := List.mem_of_getElem? hi
      rw [upd_ne (fun e => h4 (by rw [← e]; exact ma)), upd_ne (fun e => nqa (by rw [← e]; exact ma))]
      exact z
    · rw [List.getElem?_append_right (by omega)] at hi
      rw [List.getElem?_append_right (by omega), ← h2] at hg
      cases hd : i - as.length with
      | zero =>
        rw [hd] at hi hg
        cases hi
        cases hg
        rw [upd_ne npq.symm]
        exact upd_same
      | succ n =>
        rw [hd] at hi
        cases hi
theorem Grps.last {H0 H : Hp} {p : Addr} {gs : List (List Str)} {g : List Str} (h : Grps H0 H p (gs ++ [g])) : ∃ (as : List Addr) (a : Addr), H p = some (.lst (as.map V.ref ++ [.ref a])) ∧ H a = some (.lst (g.map V.str)) ∧
    ∀ r : Str, Grps H0 (upd H a (.lst (g.map V.str ++ [.str r]))) p (gs ++ [g ++ [r]]) := by
  obtain ⟨bs, h1, h2, h3, h4, h5, h6, h7⟩ := h
  have hne : bs ≠ [] := fun e => by rw [e, List.length_append] at h2; cases h2
  obtain ⟨as, a, rfl⟩ : ∃ as a, bs = as ++ [a] := ⟨bs.dropLast, bs.getLast hne, (List.dropLast_concat_getLast hne).symm⟩
  have hl : as.length = gs.length := by rw [List.length_append, List.length_append] at h2; exact Nat.add_right_cancel h2
  have ma : a ∈ as ++ [a] := List.mem_append_right _ (List.mem_singleton.mpr rfl)
  have npa : p ≠ a := fun e => h4 (by rw [e]; exact ma)
  have haa : H a = some (.lst (g.map V.str)) := h7 as.length a g (by rw [List.getElem?_append_right (Nat.le_refl _), Nat.sub_self]; rfl) (by rw [hl, List.getElem?_append_right (Nat.le_refl _), Nat.sub_self]; rfl)
  refine ⟨as, a, by rw [h1, List.map_append]; rfl, haa, fun r => ⟨as ++ [a], by rw [upd_ne npa]; exact h1, by rw [List.length_append, List.length_append, hl]; rfl, h3, h4, h5, h6, fun i b g' hi hg => ?_⟩⟩
  by_cases hli : i < as.length
  · have hi2 := hi
    rw [List.getElem?_append_left hli] at hi
    rw [List.getElem?_append_left (by omega)] at hg
    have nba : b ≠ a := fun e => by
      have mb : b ∈ as := List.mem_of_getElem? hi
      exact (List.nodup_append.mp h3).2.2 b mb a (List.mem_singleton.mpr rfl) e
    rw [upd_ne nba]
    exact h7 i b g' hi2 (by rw [List.getElem?_append_left (by omega)]; exact hg)
  · rw [List.getElem?_append_right (by omega)] at hi
    rw [List.getElem?_append_right (by omega), ← hl] at hg
    cases hd : i - as.length with
    | zero =>
      rw [hd] at hi hg
      cases hi
      cases hg
      rw [upd_same, List.map_append]
      rfl
    | succ n =>
      rw [hd] at hi
      cases hi
theorem partsOf_step {ws : List Str} {i : Nat} {r : Str} (h : ws[i]? = some r) : grp (ws.take (i + 1)) = addRow (grp (ws.take i)) r := by
  unfold grp
  rw [List.take_add_one, h, List.foldl_append]
  rfl
theorem same_old {H0 H : Hp} {a : Addr} {o : HO} (sm : Same H0 H) (h : H0 a = none) : Same H0 (upd H a o) := fun b u e => by
  rw [upd_ne (fun z => by rw [z, h] at e; cases e)]
  exact sm b u e
def spRowsBy (K : PySem.W.Frag) : Sp := fun vs H Q _ => ∃ z : Str, vs = [.str z] ∧ z.length + 2 ≤ sizeLine ∧ (Txt.split z "\n").length < sizeLine ∧ (∀ r ∈ Txt.split z "\n", r.length ≤ sizeLine) ∧
  ∀ (p : Addr) (H' : Hp), Same H H' → Grps H H' p (partsOf z) → Q (.ref p) H'
section
variable {P : Program} {w : World} {K : PySem.W.Frag} {mg : Str → Option Value} {base : Heap}
theorem scRowsBy : FnScope ["text", "parts", "row"] ["text"] (defScope sRowsBy) := ⟨rfl, rfl, rfl, by decide +kernel, rfl, by decide +kernel, by decide +kernel⟩
theorem ok_rowsBy {f : Addr} {fd : FuncData} (F : Fun K "rows_by_nest" "rows_by_nest" sRowsBy f fd) {u : Tok} (mS : mg "OUTER_START" = some (.str ofrom u)) : FnOk P w K mg base CX0 1 f fd ["text"] (spRowsBy K) := by
  refine F.ok scRowsBy (fun vs H Q E h => ?_) (fun cdv A outer s H vs Q E hr h => ?_)
  · obtain ⟨z, rfl, _⟩ := h
    rfl
  · obtain ⟨z, rfl, hz, hn, hrow, q⟩ := h
    refine ⟨_, pss_cons (ps_if (pt_cmpR op_eq (pv 0) pe_str (nomark _)) (pss_one (ps_ret (pe_lst pa_nil))) pss_nil)
      (pss_cons (ps_set (i := 1) scRowsBy.nd rfl (.inl rfl) (pe_lst pa_nil))
      (pss_cons (ps_for PassesOwn.never rfl (pi_list (pe_split (pv 0) pe_str)) (pg_name (i := 2) scRowsBy.nd rfl (.inl rfl))
        (pss_cons (ps_if (PW.pt (pw_or (pt_not (pt_truth (pv 1) (by intro _; rfl))) (pw_or1 (pt_val (pe_m1 PySem.F.slot_str_startswith PySem.F.type_str_startswith mt_startswith (pv 2) (pe_glob (v := .str ofrom) (by rfl) mS ⟨_, rfl⟩))))))
          (pss_one (ps_expr (pe_bm PySem.F.plainAttrs_list PySem.F.slot_list_append PySem.F.type_list_append mt_append (pv 1) (pa_cons (pe_lst pa_nil) pa_nil)))) pss_nil)
        (pss_one (ps_expr (pe_bm PySem.F.plainAttrs_list PySem.F.slot_list_append PySem.F.type_list_append mt_append (pe_ix ix_list (pv 1) (pe_un un_neg pe_int) (fun _ _ => rfl)) (pa_cons (pv 2) pa_nil))))))
      (pss_one (ps_ret (pv 1))))), ?_⟩
    refine ⟨_, rfl, rfl, _, rfl, ?_⟩
    refine ite2 (fun he => ?_) (fun he => ?_)
    · have ez : z = "" := V.str.inj (of_decide_eq_true he)
      refine ⟨Nat.zero_le _, fun p np => ?_⟩
      refine q p _ (same_new np) ?_
      unfold partsOf
      rw [if_pos ez]
      exact ⟨[], upd_same, rfl, List.nodup_nil, List.not_mem_nil, np, fun a ha => absurd ha List.not_mem_nil, fun i a g hi _ => by cases hi⟩
    · have ez : ¬ z = "" := fun e => he (decide_eq_true (by rw [e]))
      refine ⟨Nat.zero_le _, fun p np => ?_⟩
      refine ⟨_, rfl, ⟨_, rfl⟩, _, _, rfl, rfl, rfl, hz, fun l nl => ?_⟩
      have eP : partsOf z = grp (Txt.split z "\n") := by
        unfold partsOf
        rw [if_neg ez]
      rw [eP] at q
      have g0 : Grps H (upd H p (.lst [])) p [] := ⟨[], upd_same, rfl, List.nodup_nil, List.not_mem_nil, np, fun a ha => absurd ha List.not_mem_nil, fun i a g hi _ => by cases hi⟩
      refine ⟨l, rfl, ⟨_, SqL.of upd_same⟩, ?_⟩
      generalize hws : Txt.split z "\n" = ws at *
      have nlp : l ≠ p := fun e => by rw [e, upd_same] at nl; cases nl
      have nlH : H l = none := by rw [upd_ne nlp] at nl; exact nl
      refine for_list (xs := ws.map V.str) (fun i σ H' => (∃ v, σ = [some (.str z), some (.ref p), v]) ∧ Same H H' ∧ H' l = some (.lst (ws.map V.str)) ∧ (∃ gs, gs = grp (ws.take i) ∧ Grps H H' p gs ∧ (∀ as : List Addr, H' p = some (.lst (as.map V.ref)) → l ∉ as) ∧ gs.length ≤ i ∧ ∀ g ∈ gs, g.length ≤ i)) ?_ (fun i σ H' _ h => SqL.of h.2.2.1) (fun i x σ H' hi h => ?_) (fun σ H' h => ?_)
      · refine ⟨⟨_, rfl⟩, (same_new np).trans (same_new nl), upd_same, [], rfl, ⟨[], by rw [upd_ne nlp.symm]; exact upd_same, rfl, List.nodup_nil, List.not_mem_nil, np, fun a ha => absurd ha List.not_mem_nil, fun i a g hi _ => by cases hi⟩, fun as has => ?_, Nat.le_refl _, fun g hg => absurd hg List.not_mem_nil⟩
        rw [upd_ne nlp.symm, upd_same] at has
        cases as with
        | nil => exact List.not_mem_nil
        | cons a r => cases has
      · obtain ⟨⟨v, rfl⟩, sm, hl, gs, eg, hg, hlas, n1, n2⟩ := h
        obtain ⟨r, hr1, rfl⟩ : ∃ r, ws[i]? = some r ∧ x = .str r := by
          rw [List.getElem?_map] at hi
          cases e : ws[i]? with
          | none => rw [e] at hi; cases hi
          | some r => rw [e] at hi; exact ⟨r, rfl, (Option.some.inj hi).symm⟩
        have hiw : i < ws.length := (List.getElem?_eq_some_iff.mp hr1).1
        have st : grp (ws.take (i + 1)) = addRow gs r := by rw [partsOf_step hr1, ← eg]
        have al := addRow_len (r := r) n1 n2
        obtain ⟨bs, h1, h2, h3, h4, h5, h6, h7⟩ := id hg
        have hfresh : ∀ q, H' q = none → l ≠ q := fun q nq e => by rw [← e, hl] at nq; cases nq
        refine ⟨_, rfl, _, .inl ⟨_, SqL.of h1, rfl⟩, ?_⟩
        have hpl : p ≠ l := nlp.symm
        cases gs with
        | nil =>
          cases bs with
          | cons _ _ => cases h2
          | nil =>
            refine iteT ?_
            refine ⟨_, rfl, .inl ⟨rfl, _, SqL.of h1⟩, Nat.zero_le _, fun q nq => ⟨p, _, _, rfl, rfl, (by rw [upd_ne (ne_of_none h1 nq)]; exact h1), (by show 0 < sizeLine; decide), ?_⟩⟩
            have hG := Grps.snoc sm nq h1 h2 h3 h4 h5 h6 h7
            have nq0 : H q = none := by
              cases e : H q with
              | none => rfl
              | some o => rw [sm _ _ e] at nq; cases nq
            have smG := same_old (o := .lst (([] : List Addr).map V.ref ++ [.ref q])) (same_old (o := .lst []) sm nq0) h5
            have hlG : (upd (upd H' q (.lst [])) p (.lst (([] : List Addr).map V.ref ++ [.ref q]))) l = some (.lst (ws.map V.str)) := by
              rw [upd_ne nlp, upd_ne (hfresh q nq)]
              exact hl
            have hlas : ∀ as : List Addr, (upd (upd H' q (.lst [])) p (.lst (([] : List Addr).map V.ref ++ [.ref q]))) p = some (.lst (as.map V.ref)) → l ∉ as := fun as has hm => by
              rw [upd_same] at has
              have zz := HO.lst.inj (Option.some.inj has)
              have me : (V.ref l) ∈ as.map V.ref := List.mem_map.mpr ⟨l, hm, rfl⟩
              rw [← zz] at me
              cases (List.mem_singleton.mp me)
              exact hfresh l nq rfl
            have e4 : [] ++ [[] ++ [r]] = grp (ws.take (i + 1)) := by
              rw [st]
              rfl
            have e5 : ([] ++ [[] ++ [r]] : List (List Str)).length ≤ i + 1 ∧ ∀ g ∈ ([] ++ [[] ++ [r]] : List (List Str)), g.length ≤ i + 1 := by
              rw [e4, st]
              exact al
            -- the row goes to the last list
            obtain ⟨as2, a, e1, e2, e3⟩ := Grps.last hG
            have nla : l ≠ a := fun e => hlas (as2 ++ [a]) (by rw [e1, List.map_append]; rfl) (by rw [e]; exact List.mem_append_right _ (List.mem_singleton.mpr rfl))
            have npa : p ≠ a := fun e => by
              have z := e2
              rw [← e, e1] at z
              cases hGG : ([] : List Str) with
              | nil => rw [hGG] at z; have zz := HO.lst.inj (Option.some.inj z); cases as2 with
                | nil => cases zz
                | cons _ _ => cases zz
              | cons x y => rw [hGG] at z; have zz := HO.lst.inj (Option.some.inj z); cases as2 with
                | nil => cases zz
                | cons _ _ => cases zz
            have na0 : H a = none := by
              obtain ⟨bs, b1, _, _, _, _, b6, _⟩ := hG
              refine b6 a ?_
              have zz := HO.lst.inj (Option.some.inj (e1.symm.trans b1))
              have me : (V.ref a) ∈ bs.map V.ref := by rw [← zz]; exact List.mem_append_right _ (List.mem_singleton.mpr rfl)
              obtain ⟨b, hb, eb⟩ := List.mem_map.mp me
              cases eb
              exact hb
            refine ⟨_, rfl, _, rfl, p, _, _, _, rfl, rfl, SqL.of e1, atI_last _ _, .inl ⟨rfl, _, SqL.of e2⟩, _, rfl, a, _, _, rfl, rfl, e2, (by show 0 < sizeLine; decide), ?_⟩
            refine ⟨⟨_, rfl⟩, same_old smG na0, by rw [upd_ne nla]; exact hlG, _, e4, e3 r, fun as has => ?_, ?_⟩
            · rw [upd_ne npa] at has
              exact hlas as has
            · exact e5
        | cons g0 gr =>
          cases bs with
          | nil => cases h2
          | cons b0 br =>
            refine iteF ?_
            refine ⟨_, rfl, ⟨_, rfl⟩, _, _, rfl, rfl, _, rfl, ?_⟩
            cases hs : Txt.startswith r ofrom with
            | true =>
              refine iteT ?_
              have hlen : (b0 :: br).length < sizeLine := by rw [h2]; omega
              refine ⟨_, rfl, .inl ⟨rfl, _, SqL.of h1⟩, Nat.zero_le _, fun q nq => ⟨p, _, _, rfl, rfl, (by rw [upd_ne (ne_of_none h1 nq)]; exact h1), (by rw [List.length_map]; exact hlen), ?_⟩⟩
              have hG := Grps.snoc sm nq h1 h2 h3 h4 h5 h6 h7
              have nq0 : H q = none := by
                cases e : H q with
                | none => rfl
                | some o => rw [sm _ _ e] at nq; cases nq
              have smG := same_old (o := .lst ((b0 :: br).map V.ref ++ [.ref q])) (same_old (o := .lst []) sm nq0) h5
              have hlG : (upd (upd H' q (.lst [])) p (.lst ((b0 :: br).map V.ref ++ [.ref q]))) l = some (.lst (ws.map V.str)) := by
                rw [upd_ne nlp, upd_ne (hfresh q nq)]
                exact hl
              have hlas : ∀ as : List Addr, (upd (upd H' q (.lst [])) p (.lst ((b0 :: br).map V.ref ++ [.ref q]))) p = some (.lst (as.map V.ref)) → l ∉ as := fun as has hm => by
                rw [upd_same] at has
                have zz := HO.lst.inj (Option.some.inj has)
                have me : (V.ref l) ∈ as.map V.ref := List.mem_map.mpr ⟨l, hm, rfl⟩
                rw [← zz] at me
                rcases List.mem_append.mp me with me | me
                · obtain ⟨b, hb, eb⟩ := List.mem_map.mp me
                  cases eb
                  exact hlas _ h1 hb
                · cases (List.mem_singleton.mp me)
                  exact hfresh l nq rfl
              have e4 : (g0 :: gr) ++ [[] ++ [r]] = grp (ws.take (i + 1)) := by
                rw [st]
                unfold addRow
                rw [if_pos (.inr hs)]
                rfl
              have e5 : ((g0 :: gr) ++ [[] ++ [r]] : List (List Str)).length ≤ i + 1 ∧ ∀ g ∈ ((g0 :: gr) ++ [[] ++ [r]] : List (List Str)), g.length ≤ i + 1 := by
                rw [e4, st]
                exact al
              -- the row goes to the last list
              obtain ⟨as2, a, e1, e2, e3⟩ := Grps.last hG
              have nla : l ≠ a := fun e => hlas (as2 ++ [a]) (by rw [e1, List.map_append]; rfl) (by rw [e]; exact List.mem_append_right _ (List.mem_singleton.mpr rfl))
              have npa : p ≠ a := fun e => by
                have z := e2
                rw [← e, e1] at z
                cases hGG : ([] : List Str) with
                | nil => rw [hGG] at z; have zz := HO.lst.inj (Option.some.inj z); cases as2 with
                  | nil => cases zz
                  | cons _ _ => cases zz
                | cons x y => rw [hGG] at z; have zz := HO.lst.inj (Option.some.inj z); cases as2 with
                  | nil => cases zz
                  | cons _ _ => cases zz
              have na0 : H a = none := by
                obtain ⟨bs, b1, _, _, _, _, b6, _⟩ := hG
                refine b6 a ?_
                have zz := HO.lst.inj (Option.some.inj (e1.symm.trans b1))
                have me : (V.ref a) ∈ bs.map V.ref := by rw [← zz]; exact List.mem_append_right _ (List.mem_singleton.mpr rfl)
                obtain ⟨b, hb, eb⟩ := List.mem_map.mp me
                cases eb
                exact hb
              refine ⟨_, rfl, _, rfl, p, _, _, _, rfl, rfl, SqL.of e1, atI_last _ _, .inl ⟨rfl, _, SqL.of e2⟩, _, rfl, a, _, _, rfl, rfl, e2, (by show 0 < sizeLine; decide), ?_⟩
              refine ⟨⟨_, rfl⟩, same_old smG na0, by rw [upd_ne nla]; exact hlG, _, e4, e3 r, fun as has => ?_, ?_⟩
              · rw [upd_ne npa] at has
                exact hlas as has
              · exact e5
            | false =>
              refine iteF ?_
              have hne : g0 :: gr ≠ [] := List.cons_ne_nil _ _
              have eL : (g0 :: gr).dropLast ++ [(g0 :: gr).getLast hne] = g0 :: gr := List.dropLast_concat_getLast hne
              have hG : Grps H H' p ((g0 :: gr).dropLast ++ [(g0 :: gr).getLast hne]) := by rw [eL]; exact hg
              have hgl : ((g0 :: gr).getLast hne).length ≤ i := n2 _ (List.getLast_mem hne)
              have smG := sm
              have hlG := hl
              have e4 : (g0 :: gr).dropLast ++ [(g0 :: gr).getLast hne ++ [r]] = grp (ws.take (i + 1)) := by
                rw [st]
                unfold addRow
                rw [if_neg (fun e => e.elim hne (fun z => by rw [hs] at z; cases z)), List.getLast?_eq_some_getLast hne]
                rfl
              have e5 : ((g0 :: gr).dropLast ++ [(g0 :: gr).getLast hne ++ [r]] : List (List Str)).length ≤ i + 1 ∧ ∀ g ∈ ((g0 :: gr).dropLast ++ [(g0 :: gr).getLast hne ++ [r]] : List (List Str)), g.length ≤ i + 1 := by
                rw [e4, st]
                exact al
              -- the row goes to the last list
              obtain ⟨as2, a, e1, e2, e3⟩ := Grps.last hG
              have nla : l ≠ a := fun e => hlas (as2 ++ [a]) (by rw [e1, List.map_append]; rfl) (by rw [e]; exact List.mem_append_right _ (List.mem_singleton.mpr rfl))
              have npa : p ≠ a := fun e => by
                have z := e2
                rw [← e, e1] at z
                cases hGG : (g0 :: gr).getLast hne with
                | nil => rw [hGG] at z; have zz := HO.lst.inj (Option.some.inj z); cases as2 with
                  | nil => cases zz
                  | cons _ _ => cases zz
                | cons x y => rw [hGG] at z; have zz := HO.lst.inj (Option.some.inj z); cases as2 with
                  | nil => cases zz
                  | cons _ _ => cases zz
              have na0 : H a = none := by
                obtain ⟨bs, b1, _, _, _, _, b6, _⟩ := hG
                refine b6 a ?_
                have zz := HO.lst.inj (Option.some.inj (e1.symm.trans b1))
                have me : (V.ref a) ∈ bs.map V.ref := by rw [← zz]; exact List.mem_append_right _ (List.mem_singleton.mpr rfl)
                obtain ⟨b, hb, eb⟩ := List.mem_map.mp me
                cases eb
                exact hb
              refine ⟨_, rfl, _, rfl, p, _, _, _, rfl, rfl, SqL.of e1, atI_last _ _, .inl ⟨rfl, _, SqL.of e2⟩, _, rfl, a, _, _, rfl, rfl, e2, (by rw [List.length_map]; omega), ?_⟩
              refine ⟨⟨_, rfl⟩, same_old smG na0, by rw [upd_ne nla]; exact hlG, _, e4, e3 r, fun as has => ?_, ?_⟩
              · rw [upd_ne npa] at has
                exact hlas as has
              · exact e5
      · obtain ⟨⟨v, rfl⟩, sm, _, gs, e, hg, _⟩ := h
        rw [List.length_map, List.take_length] at e
        rw [e] at hg
        exact ⟨_, rfl, q p H' sm hg⟩
end
end Sq.N4
namespace Sq.N4
open PySem L2 TL
abbrev sNestOf : Stmt := top 37
theorem pe_never {X : Cx} {e : Expr} : PE X e (fun _ _ _ => False) := ⟨fun _ _ _ _ _ _ h => h.elim⟩
/-- a def of the module that keeps a promise -/
def Kn (P : Program) (w : World) (K : PySem.W.Frag) (mg : Str → Option Value) (base : Heap) (x : Str) (k : Nat) (ps : List Str) (sp : Sp) : Prop :=
  ∃ f d, mg x = some (.ref f) ∧ PySem.W.keepIn K (.ref f) = true ∧ Binds K d ps [] ∧ FnOk P w K mg base CX0 k f d ps sp
theorem cut_len (x y : Str) : (Txt.removeprefix x y).length ≤ x.length := by
  unfold Txt.removeprefix Txt.affix
  split
  · split
    · exact Nat.le_refl _
    · rw [len_tl, tl_strSub, List.length_take, List.length_drop, len_tl x]
      omega
  · exact Nat.le_refl _
theorem any_behind {K : PySem.W.Frag} {H : Hp} (y x : Str) (h : x.length + 2 ≤ sizeLine) : Any K H (behindV y x) := by
  unfold behindV
  split
  · exact .inl ⟨_, rfl, Nat.le_trans (Nat.add_le_add_right (cut_len x y) 2) h⟩
  · exact .inr ⟨fun z e => V.noConfusion e, .type "NoneType", .base .non, kit_ty (by decide +kernel)⟩
def nestB : List Str → Bool
  | o :: i :: ds => okLoop obs (behindV ofrom o) && (okLoop (obs ++ ibs) (behindV jfrom i) && decide (fw 0 6 (ds.map deedB) = none))
  | _ => false
theorem nestB_cons (o i : Str) (ds : List Str) : nestB (o :: i :: ds) = (okLoop obs (behindV ofrom o) && (okLoop (obs ++ ibs) (behindV jfrom i) && decide (fw 0 6 (ds.map deedB) = none))) := rfl
theorem optV_non (o : Option Nat) : decide (optV o = .non) = decide (o = none) := by
  cases o with
  | none => rfl
  | some i => rfl
section
variable {P : Program} {w : World} {K : PySem.W.Frag} {mg : Str → Option Value} {base : Heap} {fF fD : Addr} {dF dD : FuncData}
/-- what the readers of texts call -/
structure Rd1 (P : Program) (w : World) (K : PySem.W.Frag) (mg : Str → Option Value) (base : Heap) : Prop where
  behind : Kn P w K mg base "behind" 1 ["start", "row"] spBehind
  rows : Kn P w K mg base "rows_by_nest" 1 ["text"] (spRowsBy K)
  mS : ∃ u, mg "OUTER_START" = some (.str ofrom u)
  mJ : ∃ u, mg "INNER_START" = some (.str jfrom u)
  mM : ∃ u, mg "MOST_NESTS" = some (.int 4 u)

def progB (z : Str) : Bool := decide ((partsOf z).length ≤ 4) && (partsOf z).all nestB
/-- texts of a size that may be read -/
structure TextOk (z : Str) : Prop where
  lz : z.length + 2 ≤ sizeLine
  ln : (Txt.split z "\n").length ≤ 1000
  lr : ∀ r ∈ Txt.split z "\n", r.length ≤ 2000
theorem addRow_in {gs : List (List Str)} {r : Str} {A : Str → Prop} (h : ∀ g ∈ gs, ∀ x ∈ g, A x) (hr : A r) : ∀ g ∈ addRow gs r, ∀ x ∈ g, A x := by
  unfold addRow
  split
  · intro g hg x hx
    rcases List.mem_append.mp hg with e | e
    · exact h g e x hx
    · rw [List.mem_singleton.mp e] at hx
      rw [List.mem_singleton.mp hx]
      exact hr
  · rename_i hn
    have hne : gs ≠ [] := fun e => hn (.inl e)
    intro g hg x hx
    rcases List.mem_append.mp hg with e | e
    · exact h g (List.dropLast_subset _ e) x hx
    · rw [List.mem_singleton.mp e, List.getLast?_eq_some_getLast hne] at hx
      rcases List.mem_append.mp hx with e2 | e2
      · exact h _ (List.getLast_mem hne) x e2
      · rw [List.mem_singleton.mp e2]
        exact hr
theorem grp_in {A : Str → Prop} : ∀ (rows : List Str) (gs : List (List Str)), (∀ g ∈ gs, ∀ x ∈ g, A x) → (∀ r ∈ rows, A r) → ∀ g ∈ rows.foldl addRow gs, ∀ x ∈ g, A x
  | [], _, h, _ => h
  | r :: rows, gs, h, hr => grp_in rows (addRow gs r) (addRow_in h (hr r List.mem_cons_self)) fun x hx => hr x (List.mem_cons_of_mem _ hx)
theorem grp_lens : ∀ (rows : List Str) (gs : List (List Str)) (i : Nat), gs.length ≤ i → (∀ g ∈ gs, g.length ≤ i) → (rows.foldl addRow gs).length ≤ i + rows.length ∧ ∀ g ∈ rows.foldl addRow gs, g.length ≤ i + rows.length
  | [], _, _, h1, h2 => ⟨h1, h2⟩
  | r :: rows, gs, i, h1, h2 => by
    have z := addRow_len (r := r) h1 h2
    have y := grp_lens rows (addRow gs r) (i + 1) z.1 z.2
    rw [List.length_cons, show i + (rows.length + 1) = i + 1 + rows.length by omega]
    exact y
theorem parts_rows {z : Str} (h : TextOk z) : (partsOf z).length ≤ 1000 ∧ ∀ g ∈ partsOf z, g.length ≤ 1000 ∧ ∀ r ∈ g, r.length ≤ 2000 := by
  unfold partsOf
  split
  · exact ⟨by decide, fun g hg => absurd hg List.not_mem_nil⟩
  · have y := grp_lens (Txt.split z "\n") [] 0 (Nat.le_refl _) (fun g hg => absurd hg List.not_mem_nil)
    have hn := h.ln
    refine ⟨by unfold grp; omega, fun g hg => ⟨by have := y.2 g hg; omega, ?_⟩⟩
    exact grp_in (A := fun r => r.length ≤ 2000) _ [] (fun g hg => absurd hg List.not_mem_nil) h.lr g hg
theorem Grps.ext {H0 H H' : Hp} {p : Addr} {gs : List (List Str)} (e : Same H H') (h : Grps H0 H p gs) : Grps H0 H' p gs := by
  obtain ⟨as, h1, h2, h3, h4, h5, h6, h7⟩ := h
  exact ⟨as, e _ _ h1, h2, h3, h4, h5, h6, fun i a g hi hg => e _ _ (h7 i a g hi hg)⟩
end
end Sq.N4
namespace Sq.N4
open PySem L2 TL
abbrev sPInit : Stmt := inClass (top 34) 0
abbrev sPRead : Stmt := inClass (top 34) 1
abbrev sPNests : Stmt := inClass (top 34) 2
abbrev NestD := Str × Str × List Str
/-- a nest stands at a, with what was read in it -/
def NestIs (K : PySem.W.Frag) (C : Addr) (H : Hp) (a : Addr) (n : NestD) : Prop := ∃ dx dp, (∃ R, H a = some (.ins C dx (nfl n.1 n.2.1 dp R)) ∧ ReadAt K H R n.1 n.2.1 n.2.2) ∧ H dp = some (.tup (n.2.2.map V.str))
theorem NestIs.at {K : PySem.W.Frag} {C : Addr} {H : Hp} {a : Addr} {n : NestD} (h : NestIs K C H a n) : NestAt C H a n.1 n.2.1 n.2.2 := by
  obtain ⟨dx, dp, ⟨R, h1, _⟩, h2⟩ := h
  exact ⟨dx, dp, ⟨R, h1⟩, h2⟩
/-- the tuples that stand at places other than D's -/
def ButL (D : Addr) (H H' : Hp) : Prop := ∀ c xs, c ≠ D → H c = some (.tup xs) → H' c = some (.tup xs)
theorem PlanAt.put {D : Addr} {H H' : Hp} {xs : List V} (hD : H D = some (.lst xs)) (s : ∀ c o, c ≠ D → H c = some o → H' c = some o) {p : Addr} {z : Str} (h : PlanAt H p z) : PlanAt H' p z := by
  have ne : ∀ {a : Addr} {ys : List V}, H a = some (.tup ys) → a ≠ D := fun h e => by rw [e, hD] at h; cases h
  obtain ⟨ts, te, c, h1, h2, h3, h4⟩ := h
  refine ⟨ts, te, c, s _ _ (ne h1) h1, s _ _ (ne h2) h2, s _ _ (ne h3) h3, ?_⟩
  rcases h4 with h4 | ⟨a4, l4, s4, r4, e1, e2, e3⟩
  · exact .inl h4
  · exact .inr ⟨a4, l4, s4, r4, e1, e2, s _ _ (ne e3) e3⟩
theorem Plans.put {D : Addr} {H H' : Hp} {xs : List V} (hD : H D = some (.lst xs)) (s : ∀ c o, c ≠ D → H c = some o → H' c = some o) : ∀ {qs : List V} {ds : List Str}, Plans H qs ds → Plans H' qs ds
  | _, _, .nil => .nil
  | _, _, .cons h r => .cons (PlanAt.put hD s h) (Plans.put hD s r)
theorem ReadAt.put {K : PySem.W.Frag} {D : Addr} {H H' : Hp} {xs : List V} (hD : H D = some (.lst xs)) (s : ∀ c o, c ≠ D → H c = some o → H' c = some o) {R : Rd3} {o i : Str} {ds : List Str} (h : ReadAt K H R o i ds) : ReadAt K H' R o i ds := by
  have ne : ∀ {a : Addr} {ys : List V}, H a = some (.tup ys) → a ≠ D := fun h e => by rw [e, hD] at h; cases h
  obtain ⟨bp, op, pp, a1, a2, b1, b2, t1, t2, u1, u2, d, e, qs, hR, h1, k1, k2, k3, k4, l1, l2, h2, h3⟩ := h
  exact ⟨bp, op, pp, a1, a2, b1, b2, t1, t2, u1, u2, d, e, qs, hR, s _ _ (ne h1) h1, k1, k2, k3, k4, l1, l2, s _ _ (ne h2) h2, Plans.put hD s h3⟩
theorem ReadAt.same {K : PySem.W.Frag} {H H' : Hp} (s : Same H H') {R : Rd3} {o i : Str} {ds : List Str} (h : ReadAt K H R o i ds) : ReadAt K H' R o i ds := by
  obtain ⟨bp, op, pp, a1, a2, b1, b2, t1, t2, u1, u2, d, e, qs, hR, h1, k1, k2, k3, k4, l1, l2, h2, h3⟩ := h
  exact ⟨bp, op, pp, a1, a2, b1, b2, t1, t2, u1, u2, d, e, qs, hR, s _ _ h1, k1, k2, k3, k4, l1, l2, s _ _ h2, h3.same s⟩
theorem NestIs.ext {K : PySem.W.Frag} {C : Addr} {H H' : Hp} {a : Addr} {n : NestD} (h : NestIs K C H a n) (e : Same H H') : NestIs K C H' a n := by
  obtain ⟨dx, dp, ⟨R, h1, h3⟩, h2⟩ := h
  exact ⟨dx, dp, ⟨R, e _ _ h1, ReadAt.same e h3⟩, e _ _ h2⟩
theorem NestIs.put {K : PySem.W.Frag} {C : Addr} {D : Addr} {H H' : Hp} {xs : List V} (hD : H D = some (.lst xs)) (s : ∀ c o, c ≠ D → H c = some o → H' c = some o) {a : Addr} {n : NestD} (h : NestIs K C H a n) : NestIs K C H' a n := by
  obtain ⟨dx, dp, ⟨R, h1, h3⟩, h2⟩ := h
  exact ⟨dx, dp, ⟨R, s _ _ (fun e => by rw [e, hD] at h1; cases h1) h1, ReadAt.put hD s h3⟩, s _ _ (fun e => by rw [e, hD] at h2; cases h2) h2⟩
/-- nests that may be made -/
structure NestOk (n : NestD) : Prop where
  l1 : n.1.length + 2 ≤ sizeLine
  l2 : n.2.1.length + 2 ≤ sizeLine
  b1 : loopB obs n.1 = true
  b2 : loopB (obs ++ ibs) n.2.1 = true
  ds : deedsOk n.2.2
theorem made_deeds {K : PySem.W.Frag} {C x dx : Addr} {H : Hp} {n : NestD} {R : Hp → Prop} {E : XK} (nx : H x = none) (ndx : H dx = none) (h : NestOk n) (q : ∀ H', Same H H' → NestIs K C H' x n → R H') :
    spMade K C (.ref x :: .str n.1 :: .str n.2.1 :: n.2.2.map V.str) (upd (upd H dx (.own x)) x (.ins C dx [])) (fun v H2 => v = .non ∧ R H2) E := by
  have hl := deeds_len h.ds
  refine ⟨[.ref x, .str n.1, .str n.2.1], n.2.2.map V.str, rfl, rfl, (by rw [List.length_map]; exact Nat.le_trans hl (by decide)), fun p np => ?_⟩
  have npx : p ≠ x := fun e => by rw [e, upd_same] at np; cases np
  refine ⟨x, dx, p, n.1, n.2.1, n.2.2, rfl, by rw [upd_ne npx.symm]; exact upd_same, upd_same, h.l1, h.l2, h.b1, h.b2, h.ds, fun R H' rd hx off => ⟨rfl, q H' (fun b o e => ?_) ⟨dx, p, ⟨R, hx, rd⟩, off p _ npx upd_same⟩⟩⟩
  have nbx : b ≠ x := ne_of_none e nx
  have nbd : b ≠ dx := ne_of_none e ndx
  refine off b o nbx ?_
  have e1 : (upd (upd H dx (.own x)) x (.ins C dx [])) b = some o := by rw [upd_ne nbx, upd_ne nbd]; exact e
  rw [upd_ne (ne_of_none e1 np)]
  exact e1
def nestOf : List Str → NestD
  | o :: i :: ds => (Txt.removeprefix o ofrom, Txt.removeprefix i jfrom, ds)
  | _ => ("", "", [])
theorem behind_str {bs : List Str} {y x : Str} (h : okLoop bs (behindV y x) = true) : behindV y x = .str (Txt.removeprefix x y) ∧ loopB bs (Txt.removeprefix x y) = true := by
  unfold behindV at h ⊢
  split
  · rename_i e
    rw [if_pos e] at h
    exact ⟨rfl, h⟩
  · rename_i e
    rw [if_neg e] at h
    cases h
theorem nest_rows {g : List Str} (h : nestB g = true) (hz : ∀ r ∈ g, r.length ≤ 2000) : ∃ o i ds, g = o :: i :: ds ∧ behindV ofrom o = .str (nestOf g).1 ∧ behindV jfrom i = .str (nestOf g).2.1 ∧ (nestOf g).2.2 = ds ∧ NestOk (nestOf g) := by
  match g, h, hz with
  | o :: i :: ds, h, hz =>
    rw [nestB_cons] at h
    obtain ⟨h1, h⟩ := Bool.and_eq_true_iff.mp h
    obtain ⟨h2, h3⟩ := Bool.and_eq_true_iff.mp h
    obtain ⟨a1, a2⟩ := behind_str h1
    obtain ⟨b1, b2⟩ := behind_str h2
    have ho := hz o List.mem_cons_self
    have hi := hz i (List.mem_cons_of_mem _ List.mem_cons_self)
    have big : 3000 ≤ sizeLine := by decide
    have c1 := cut_len o ofrom
    have c2 := cut_len i jfrom
    exact ⟨o, i, ds, rfl, a1, b1, rfl, ⟨by show (Txt.removeprefix o ofrom).length + 2 ≤ _; omega, by show (Txt.removeprefix i jfrom).length + 2 ≤ _; omega, a2, b2, fun d hd => hz d (List.mem_cons_of_mem _ (List.mem_cons_of_mem _ hd)), of_decide_eq_true h3⟩⟩
/-- a program stands at a -/
def ProgAt (K : PySem.W.Frag) (CP CN : Addr) (H : Hp) (a : Addr) (ns : List NestD) : Prop := ∃ dx tp, ∃ xs : List Addr, H a = some (.ins CP dx (putF "_nests" (.ref tp) [])) ∧ H tp = some (.tup (xs.map V.ref)) ∧ xs.length = ns.length ∧ ∀ (i : Nat) (x : Addr) (n : NestD), xs[i]? = some x → ns[i]? = some n → NestIs K CN H x n
theorem ProgAt.ext {K : PySem.W.Frag} {CP CN : Addr} {H H' : Hp} {a : Addr} {ns : List NestD} (e : Same H H') (h : ProgAt K CP CN H a ns) : ProgAt K CP CN H' a ns := by
  obtain ⟨dx, tp, xs, h1, h2, h3, h4⟩ := h
  exact ⟨dx, tp, xs, e _ _ h1, e _ _ h2, h3, fun i x n hx hn => (h4 i x n hx hn).ext e⟩
def spPInit (CP CN : Addr) : Sp := fun vs H Q _ => ∃ (x dx tp : Addr) (xs : List Addr), vs = [.ref x, .ref tp] ∧ H x = some (.ins CP dx []) ∧ H tp = some (.tup (xs.map V.ref)) ∧ xs.length ≤ 4 ∧ (∀ y ∈ xs, ∃ dy fs, H y = some (.ins CN dy fs)) ∧
  ∀ H' : Hp, H' x = some (.ins CP dx (putF "_nests" (.ref tp) [])) → Off x H H' → Q .non H'
def spPMade (CP CN : Addr) : Sp := fun vs H Q E => ∃ ws rest, vs = ws ++ rest ∧ ws.length = (["self"] : List Str).length ∧ rest.length ≤ sizeLine ∧ ∀ p, H p = none → spPInit CP CN (ws ++ [V.ref p]) (upd H p (.tup rest)) Q E
def nestsOf (z : Str) : List NestD := (partsOf z).map nestOf
def spPRead (K : PySem.W.Frag) (CP CN : Addr) : Sp := fun vs H Q _ => ∃ z : Str, vs = [.ref CP, .str z] ∧ TextOk z ∧ progB z = true ∧ ∀ (x : Addr) (H' : Hp), Same H H' → ProgAt K CP CN H' x (nestsOf z) → Q (.ref x) H'
def spNestOf (K : PySem.W.Frag) (C : Addr) : Sp := fun vs H Q _ => ∃ (l : Addr) (g : List Str), vs = [.ref l] ∧ SqL K H l (g.map V.str) ∧ nestB g = true ∧ (∀ r ∈ g, r.length ≤ 2000) ∧ ∀ (x : Addr) (H' : Hp), Same H H' → NestIs K C H' x (nestOf g) → Q (.ref x) H'
/-- all that is known of the class Program -/
structure Pc (K : PySem.W.Frag) (C : Addr) : Prop where
  cl : Cls K C
  nN : NoAttr K C "_nests"
section
variable {P : Program} {w : World} {K : PySem.W.Frag} {mg : Str → Option Value} {base : Heap} {C CP : Addr}
theorem scNestOf : FnScope ["rows", "outer", "inner", "deeds"] ["rows"] (defScope sNestOf) := ⟨rfl, rfl, rfl, by decide +kernel, rfl, by decide +kernel, by decide +kernel⟩
theorem ok_nestOf {f fi : Addr} {fd : FuncData} (F : Fun K "nest_of_rows" "nest_of_rows" sNestOf f fd) (T : Bt mg) (R : Rd1 P w K mg base) (mN : mg "Nest" = some (.ref C)) (mk : Mk K C fi) (GR : FnR P w K mg base CX0 4 fi (spMade K C)) : FnOk P w K mg base CX0 6 f fd ["rows"] (spNestOf K C) := by
  obtain ⟨fB, dB, mB, kB, bB, GB⟩ := R.behind
  obtain ⟨u1, mS⟩ := R.mS
  obtain ⟨u2, mJ⟩ := R.mJ
  refine F.ok scNestOf (fun vs H Q E h => ?_) (fun cdv A outer s H vs Q E hr h => ?_)
  · obtain ⟨l, g, rfl, _⟩ := h
    rfl
  · obtain ⟨l, g, rfl, hl, hg, hz, q⟩ := h
    have hr1 := hr.mono (show 1 ≤ 5 by decide)
    have big : 3000 ≤ sizeLine := by decide
    refine ⟨_, pss_cons (ps_asg (pe_ifExp (pt_cmpR op_gt (pe_callB call_len_seq (by rfl) T.len PySem.boot_len (pa_cons (pv 0) pa_nil)) pe_int (nomark _)) (pv 0) pe_never) (pg_starL (i := 2) rfl (pgs_cons (pg_name (i := 1) scNestOf.nd rfl (.inl rfl)) (pgs_cons (pg_name (i := 2) scNestOf.nd rfl (.inl rfl)) (pgs_star (pg_name (i := 3) scNestOf.nd rfl (.inl rfl)))))))
      (pss_one (ps_ret (pe_makeS2 mk GR hr (by rfl) mN pass0 (pa_cons (pe_call GB hr1 (by rfl) mB kB bB .nil pass0 (pa_cons (pe_glob (v := .str ofrom) (by rfl) mS ⟨_, rfl⟩) (pa_cons (pv 1) pa_nil)))
        (pa_cons (pe_call GB hr1 (by rfl) mB kB bB .nil pass0 (pa_cons (pe_glob (v := .str jfrom) (by rfl) mJ ⟨_, rfl⟩) (pa_cons (pv 2) pa_nil))) (StX.pa_star (pv 3) pa_nil)))))), ?_⟩
    obtain ⟨o, i, ds, rfl, e1, e2, e3, ok⟩ := nest_rows hg hz
    have ho := hz o List.mem_cons_self
    have hi := hz i (List.mem_cons_of_mem _ List.mem_cons_self)
    refine ⟨_, rfl, l, _, rfl, .inl hl, _, _, rfl, rfl, _, rfl, ?_⟩
    rw [decide_eq_true (by rw [List.length_map]; show (1 : Int) < ((ds.length + 1 + 1 : Nat) : Int); omega)]
    refine iteT ?_
    refine ⟨_, rfl, l, _, rfl, hl, (by rw [List.length_map]; show 2 ≤ (ds.length + 1) + 1; omega), fun D nD => ?_⟩
    refine ⟨_, _, rfl, _, _, rfl, _, _, rfl, rfl, ?_⟩
    refine ⟨_, rfl, ofrom, o, rfl, by omega, _, rfl, jfrom, i, rfl, by omega, _, rfl, D, ds.map V.str, rfl, .inr (SqL.of upd_same), ?_⟩
    rw [e1, e2]
    have s1 := same_new (o := .lst (((o :: i :: ds).map V.str).drop 2)) nD
    refine fun x dx nx ndx _ => ?_
    have z := made_deeds (K := K) (C := C) (n := nestOf (o :: i :: ds)) (R := fun H' => Q (.ref x) H') (E := E0) nx ndx ok fun H' s2 n => q x H' (s1.trans s2) n
    rw [List.append_nil]
    exact z
theorem scPInit : FnScope ["self", "nests", "index", "nest"] ["self", "nests"] (defScope sPInit) := ⟨rfl, rfl, rfl, by decide +kernel, rfl, by decide +kernel, by decide +kernel⟩
theorem ok_pinitR {f : Addr} {fd : FuncData} (F : Fun K "__init__" "Program.__init__" sPInit f fd) (N : Pc K CP) (Cn : Cls K C) (I : Isn K C) (mN : mg "Nest" = some (.ref C)) (Ck : Ck K mg) (R : Rd1 P w K mg base) (KF : Kn P w K mg base "first_wrong" 1 ["rights", "most"] (spFirst K)) :
    FnR P w K mg base CX0 2 f (spPMade CP C) := by
  obtain ⟨fF, dF, mF, kF, bF, GF⟩ := KF
  obtain ⟨u1, mM⟩ := R.mM
  obtain ⟨oc, od, kV, doc, pm, an, cdv, ct, osl, rfl, lk, hcd⟩ := F.ex
  refine StX.fn_star (ps := ["self"]) (pv := "nests") (sp := spPInit CP C) lk hcd scPInit StX.cxUp_none (fun us rest hl => ?_) fun A outer s H vs Q E hr h => ?_
  · match us, rest, hl with
    | [a], [], _ => rfl
    | [a], r :: rs, _ => rfl
  · obtain ⟨x, dx, tp, xs, rfl, hx, ht, hn, hins, q⟩ := h
    refine ⟨_, pss_cons (ps_set (i := 2) scPInit.nd rfl (.inl rfl) (pe_call GF hr (by rfl) mF kF bF .nil pass0 (pa_cons (pe_lc (own := [("nest", 3)]) (g := gName 3) (by rfl) scPInit.nd (pi_tup (pv 1))
      (blkOk_by (own := [("nest", 3)]) (N := ["self", "nests", "index", "nest"]) (sc := defScope sPInit) (by decide +kernel)) (fun _ _ _ _ _ => pg_name (i := 3) scPInit.nd rfl (Or.inl rfl)) (fun _ _ _ _ _ => pts_nil)
      (fun _ _ _ _ _ => (show PE _ _ (tCB (rIsi K) (tCons (tVar 3) (tCons (tC (V.ref C)) tNil))) from pe_callB call_isi (by rfl) Ck.isinstance (by decide +kernel) (pa_cons (pv 3) (pa_cons (pe_glob (v := .ref C) (by rfl) mN rfl) pa_nil))))) (pa_cons (pe_glob (v := .int 4) (by rfl) mM ⟨_, rfl⟩) pa_nil))))
      (pss_cons (ps_if (pt_cmpR op_notN (pv 2) pe_non (nomark _)) (pss_one ps_never) pss_nil)
      (pss_one (ps_fld (pv 0) (pv 1) rfl))), ?_⟩
    refine ⟨_, rfl, tp, rfl, ⟨_, SqT.of ht⟩, fun D hD => ?_⟩
    refine lc_tup (K := K) (a := tp) (xs := xs.map V.ref) (fun i H' => Same H H' ∧ H' D = some (.lst (((xs.take i).map (fun _ => true)).map V.bl))) ⟨same_new hD, upd_same⟩ (fun i H' _ h => (SqT.of ht).ext h.1) (fun i y H' hi h => ?_) (fun H' h => ?_)
    · obtain ⟨sm, hL⟩ := h
      refine ⟨rfl, ?_⟩
      obtain ⟨a, ha, rfl⟩ : ∃ a, xs[i]? = some a ∧ y = .ref a := by
        rw [List.getElem?_map] at hi
        cases e : xs[i]? with
        | none => rw [e] at hi; cases hi
        | some r => rw [e] at hi; exact ⟨r, rfl, (Option.some.inj hi).symm⟩
      obtain ⟨dy, fs, hy⟩ := hins a (List.mem_of_getElem? ha)
      refine ⟨_, rfl, _, _, .ref C, .ref C, true, rfl, .own C, .base (.ins (sm _ _ hy) Cn I.c1 I.c2 I.c3 I.c4), kit_self K C, _, hL, ?_, ?_, ?_⟩
      · rw [List.length_map, List.length_map, List.length_take]
        exact Nat.lt_of_le_of_lt (Nat.min_le_right _ _) (Nat.lt_of_le_of_lt hn (by decide))
      · intro c o hc
        rw [upd_ne (fun e => by rw [e, hD] at hc; cases hc)]
        exact sm c o hc
      · rw [upd_same, List.take_add_one, ha, List.map_append, List.map_append]
        rfl
    · obtain ⟨sm, hL⟩ := h
      rw [List.length_map, List.take_length] at hL
      refine ⟨D, 4, _, rfl, SqL.of hL, fun H2 s2 => ?_⟩
      have ef : fw 0 4 (xs.map fun _ => true) = none := fw_none _ _ _ (fun b hb => by obtain ⟨_, _, e⟩ := List.mem_map.mp hb; exact e.symm) (by rw [List.length_map]; omega)
      rw [ef]
      refine ⟨_, rfl, rfl, _, rfl, ?_⟩
      refine iteF ?_
      have hx2 := s2 _ _ (sm _ _ hx)
      refine ⟨_, rfl, _, rfl, x, CP, dx, _, rfl, hx2, N.cl, N.nN, (by show 0 < 1000; decide), ?_⟩
      refine q _ upd_same fun b u hb e => ?_
      rw [upd_ne hb]
      exact s2 _ _ (sm _ _ e)
theorem scPNests : FnScope ["self"] ["self"] (defScope sPNests) := ⟨rfl, rfl, rfl, by decide +kernel, rfl, by decide +kernel, by decide +kernel⟩
theorem ok_pnests {f : Addr} {fd : FuncData} (F : Fun K "nests" "Program.nests" sPNests f fd) (N : Pc K CP) : FnOk P w K mg base CX0 1 f fd ["self"] (getSp CP "_nests") := by
  obtain ⟨oc, od, kV, doc, pm, an, cdv, ct, osl, rfl, lk, hcd⟩ := F.ex
  exact fn_getter lk hcd scPNests rfl rfl N.cl N.nN
theorem made_prog {x dx : Addr} {H : Hp} {xs : List Addr} {R : Hp → Prop} {E : XK} (nx : H x = none) (ndx : H dx = none) (hn : xs.length ≤ 4) (hy : ∀ y ∈ xs, ∃ dy fs, H y = some (.ins C dy fs))
    (q : ∀ H' tp, Same H H' → H' x = some (.ins CP dx (putF "_nests" (.ref tp) [])) → H' tp = some (.tup (xs.map V.ref)) → R H') :
    spPMade CP C (.ref x :: xs.map V.ref) (upd (upd H dx (.own x)) x (.ins CP dx [])) (fun v H2 => v = .non ∧ R H2) E := by
  refine ⟨[.ref x], xs.map V.ref, rfl, rfl, (by rw [List.length_map]; exact Nat.le_trans hn (by decide)), fun p np => ?_⟩
  have npx : p ≠ x := fun e => by rw [e, upd_same] at np; cases np
  have up : ∀ b o, H b = some o → (upd (upd (upd H dx (.own x)) x (.ins CP dx [])) p (.tup (xs.map V.ref))) b = some o := fun b o e => by
    have nbx : b ≠ x := ne_of_none e nx
    have nbd : b ≠ dx := ne_of_none e ndx
    have e1 : (upd (upd H dx (.own x)) x (.ins CP dx [])) b = some o := by rw [upd_ne nbx, upd_ne nbd]; exact e
    rw [upd_ne (ne_of_none e1 np)]
    exact e1
  refine ⟨x, dx, p, xs, rfl, by rw [upd_ne npx.symm]; exact upd_same, upd_same, hn, fun y my => ?_, fun H' hx off => ⟨rfl, q H' p (fun b o e => off b o (ne_of_none e nx) (up b o e)) hx (off p _ npx upd_same)⟩⟩
  obtain ⟨dy, fs, e⟩ := hy y my
  exact ⟨dy, fs, up y _ e⟩
theorem scPRead : FnScope ["cls", "text", "nests", "rows"] ["cls", "text"] (defScope sPRead) := ⟨rfl, rfl, rfl, by decide +kernel, rfl, by decide +kernel, by decide +kernel⟩
theorem ok_pread {f fi : Addr} {fd : FuncData} (F : Fun K "read" "Program.read" sPRead f fd) (R : Rd1 P w K mg base) (Cc : Ck K mg) (KN : Kn P w K mg base "nest_of_rows" 6 ["rows"] (spNestOf K C))
    (mk : Mk K CP fi) (GI : FnR P w K mg base CX0 2 fi (spPMade CP C)) : FnOk P w K mg base CX0 7 f fd ["cls", "text"] (spPRead K CP C) := by
  obtain ⟨fR, dR, mR, kR, bR, GR⟩ := R.rows
  obtain ⟨fN, dN, mN, kN, bN, GN⟩ := KN
  refine F.ok scPRead (fun vs H Q E h => ?_) (fun cdv A outer s H vs Q E hr h => ?_)
  · obtain ⟨z, rfl, _⟩ := h
    rfl
  · obtain ⟨z, rfl, hz, hp, q⟩ := h
    have hr1 := hr.mono (show 1 ≤ 6 by decide)
    have hr3 := hr.mono (show 3 ≤ 6 by decide)
    have hr5 := hr.mono (show 5 ≤ 6 by decide)
    refine ⟨_, pss_cons (ps_if (pt_not (pt_val (pe_callB call_isi (by rfl) Cc.isinstance (by decide +kernel) (pa_cons (pv 1) (pa_cons (pe_bltn (v := .ty "str") (by rfl) Cc.str (by decide +kernel) rfl) pa_nil))))) (pss_one ps_never) pss_nil)
      (pss_one (ps_try_thru0 (pss_cons (ps_setLc (i := 2) (own := [("rows", 3)]) (g := gName 3) (by rfl) scPRead.nd rfl rfl (sw_true rfl rfl rfl (by decide +kernel)) (pi_list (pe_call GR hr1 (by rfl) mR kR bR .nil pass0 (pa_cons (pv 1) pa_nil)))
          (blkOk_by (own := [("rows", 3)]) (N := ["cls", "text", "nests", "rows"]) (sc := defScope sPRead) (by decide +kernel)) (fun _ _ _ _ _ => pg_name (i := 3) scPRead.nd rfl (Or.inl rfl)) (fun _ _ _ _ _ => pts_nil)
          (fun _ _ _ _ _ => pe_call GN hr (by rfl) mN kN bN .nil pass0 (pa_cons (pv 3) pa_nil)))
      (pss_one (ps_ret (pe_makeSL (i := 0) mk GI hr3 rfl (.inl rfl) pass0 (pv 2))))))), ?_⟩
    refine ⟨_, rfl, _, _, .type "str", _, true, rfl, .ty "str", .base (.str z), kit_ty (by decide +kernel), true, rfl, ?_⟩
    refine iteF ?_
    have s1 : Same H H := Same.refl H
    obtain ⟨hp4, hpB⟩ := Bool.and_eq_true_iff.mp hp
    have hp4 : (partsOf z).length ≤ 4 := of_decide_eq_true hp4
    have hpB : ∀ g ∈ partsOf z, nestB g = true := fun g hg => List.all_eq_true.mp hpB g hg
    refine ⟨_, rfl, z, rfl, hz.lz, Nat.lt_of_le_of_lt hz.ln (by decide), fun r hr => Nat.le_trans (hz.lr r hr) (by decide), fun p H2 s2 hg => ?_⟩
    obtain ⟨as, h1, h2, h3, h4, h5, h6, h7⟩ := id hg
    obtain ⟨l1, l2⟩ := parts_rows hz
    refine ⟨p, rfl, ⟨_, SqL.of h1⟩, fun D hD => ?_⟩
    refine lc_list (K := K) (a := p) (xs := as.map V.ref) (fun i H' => Same H2 H' ∧ ∃ xs : List Addr, H' D = some (.lst (xs.map V.ref)) ∧ xs.length = i ∧ ∀ (j : Nat) (x : Addr) (n : NestD), xs[j]? = some x → (nestsOf z)[j]? = some n → NestIs K C H' x n)
      ⟨same_new hD, [], upd_same, rfl, fun j x n hx _ => by cases hx⟩ (fun i H' _ h => (SqL.of h1).ext h.1) (fun i x H' hi h => ?_) (fun H' h => ?_)
    · obtain ⟨sm, xs, hL, hxl, hxs⟩ := h
      refine ⟨rfl, ?_⟩
      obtain ⟨a, ha, rfl⟩ : ∃ a, as[i]? = some a ∧ x = .ref a := by
        rw [List.getElem?_map] at hi
        cases e : as[i]? with
        | none => rw [e] at hi; cases hi
        | some r => rw [e] at hi; exact ⟨r, rfl, (Option.some.inj hi).symm⟩
      have hil : i < (partsOf z).length := by rw [← h2]; exact (List.getElem?_eq_some_iff.mp ha).1
      have hgi : (partsOf z)[i]? = some (partsOf z)[i] := List.getElem?_eq_getElem hil
      have ng := l2 _ (List.getElem_mem hil)
      refine ⟨_, rfl, a, (partsOf z)[i], rfl, (SqL.of (h7 i a _ ha hgi)).ext sm, hpB _ (List.getElem_mem hil), ng.2, fun x H3 s3 hx => ⟨_, s3 _ _ hL, ?_, ?_, ?_⟩⟩
      · rw [List.length_map, hxl]
        exact Nat.lt_of_lt_of_le (Nat.lt_of_lt_of_le hil hp4) (by decide)
      · intro c o hc
        rw [upd_ne (fun e => by rw [e, hD] at hc; cases hc)]
        exact s3 c o (sm c o hc)
      · have up : ∀ y n, NestIs K C H3 y n → NestIs K C (upd H3 D (.lst (xs.map V.ref ++ [.ref x]))) y n := fun y n hy => NestIs.put (s3 _ _ hL) (fun c o hc ho => by rw [upd_ne hc]; exact ho) hy
        refine ⟨xs ++ [x], by rw [upd_same, List.map_append]; rfl, by rw [List.length_append, hxl]; rfl, fun j y n hj hn => ?_⟩
        by_cases hjl : j < xs.length
        · rw [List.getElem?_append_left hjl] at hj
          exact up y n ((hxs j y n hj hn).ext s3)
        · rw [List.getElem?_append_right (by omega)] at hj
          cases hd : j - xs.length with
          | zero =>
            rw [hd] at hj
            cases hj
            have ej : j = i := by omega
            rw [ej] at hn
            unfold nestsOf at hn
            rw [List.getElem?_map, hgi] at hn
            cases hn
            exact up _ _ hx
          | succ n =>
            rw [hd] at hj
            cases hj
    · obtain ⟨sm, xs, hL, hxl, hxs⟩ := h
      rw [List.length_map, h2] at hxl
      have nl : (nestsOf z).length = (partsOf z).length := List.length_map ..
      refine ⟨rfl, _, rfl, D, xs.map V.ref, rfl, .inr (SqL.of hL), fun x dx nx ndx _ => ?_⟩
      refine made_prog nx ndx (by omega) (fun y my => ?_) fun H3 tp s3 hx ht => ?_
      · obtain ⟨j, hj⟩ := List.mem_iff_getElem?.mp my
        have hjl : j < (nestsOf z).length := by have := (List.getElem?_eq_some_iff.mp hj).1; omega
        obtain ⟨dy, dp, ⟨R2, y1, _⟩, _⟩ := hxs j y _ hj (List.getElem?_eq_getElem hjl)
        exact ⟨dy, _, y1⟩
      · exact q x H3 (((s1.trans s2).trans sm).trans s3) ⟨dx, tp, xs, hx, ht, by omega, fun j y n hj hn => (hxs j y n hj hn).ext s3⟩
end
end Sq.N4
namespace Sq.N4
open PySem L2 TL
/-! ### the rows of deeds -/
def wds : List Str := ["swap", "copy", "order", "turn"]
def wdN (i : Nat) : Str := wds.getD i ""
def plN (i : Nat) : Str := plcs.getD i ""
def nuN (i : Nat) : Str := nmz.getD i ""
def cmN (i : Nat) : Str := cmps.getD i ""
def guardW : Option (Nat × Nat × Nat) → List Str
  | none => []
  | some (a, b, c) => ["if", nuN a, cmN b, nuN c]
def actW (w : Nat) (ps : List Nat) (g : Option (Nat × Nat × Nat)) : List Str := wdN w :: (ps.map plN ++ guardW g)
def actS (w : Nat) (ps : List Nat) (g : Option (Nat × Nat × Nat)) : Str := Txt.join " " (actW w ps g)
structure ActOk (w : Nat) (ps : List Nat) (g : Option (Nat × Nat × Nat)) : Prop where
  w4 : w < 4
  two : w < 3 → ps.length = 2
  more : w = 3 → 3 ≤ ps.length ∧ ps.length ≤ 8
  nd : ps.Nodup
  lt : ∀ p ∈ ps, p < 8
  gd : ∀ a b c, g = some (a, b, c) → a < 4 ∧ b < 4 ∧ c < 4 ∧ a ≠ c
/-- a row that is a deed, as the law makes them -/
structure DeedRow (d : Str) : Prop where
  ok : deedB d = true
  ln : d.length ≤ 200
  nl : 10 ∉ tl d
  st : Txt.startswith d ofrom = false
  cp : ∀ c ∈ tl d, c < 128
def plainW (z : Str) : Bool := decide (z.length ≤ 5) && !(tl z).contains 32 && !(tl z).contains 10 && (tl z).all (· < 128)
structure PlainW (z : Str) : Prop where
  ln : z.length ≤ 5
  sp : 32 ∉ tl z
  nl : 10 ∉ tl z
  cp : ∀ c ∈ tl z, c < 128
theorem plainW_ok {z : Str} (h : plainW z = true) : PlainW z := by
  unfold plainW at h
  simp only [Bool.and_eq_true, decide_eq_true_eq, Bool.not_eq_true', List.all_eq_true] at h
  obtain ⟨⟨⟨h1, h2⟩, h3⟩, h4⟩ := h
  exact ⟨h1, fun m => (by rw [List.contains_iff_mem.mpr m] at h2; cases h2), fun m => (by rw [List.contains_iff_mem.mpr m] at h3; cases h3), fun c hc => h4 c hc⟩
theorem wd_plain : ∀ i : _root_.Fin 4, plainW (wdN i.val) = true := by decide +kernel
theorem pl_plain : ∀ i : _root_.Fin 8, plainW (plN i.val) = true := by decide +kernel
theorem nu_plain : ∀ i : _root_.Fin 4, plainW (nuN i.val) = true := by decide +kernel
theorem cm_plain : ∀ i : _root_.Fin 4, plainW (cmN i.val) = true := by decide +kernel
theorem if_plain : plainW "if" = true := by decide +kernel
theorem pl_mem : ∀ i : _root_.Fin 8, memB plcs (plN i.val) = true := by decide +kernel
theorem nu_mem : ∀ i : _root_.Fin 4, memB nmz (nuN i.val) = true := by decide +kernel
theorem cm_mem : ∀ i : _root_.Fin 4, memB cmps (cmN i.val) = true := by decide +kernel
theorem nu_inj : ∀ i j : _root_.Fin 4, nuN i.val = nuN j.val → i = j := by decide +kernel
theorem pl_inj : ∀ i j : _root_.Fin 8, plN i.val = plN j.val → i = j := by decide +kernel
theorem wd_not_if : ∀ i : _root_.Fin 4, wdN i.val ≠ "if" := by decide +kernel
theorem pl_not_if : ∀ i : _root_.Fin 8, plN i.val ≠ "if" := by decide +kernel
theorem wd_counts : ∀ i : _root_.Fin 4, counts (wdN i.val) = if i.val = 3 then some (3, 8) else some (2, 2) := by decide +kernel
theorem wd_head : ∀ i : _root_.Fin 4, (tl (wdN i.val)).head? ≠ some 105 ∧ tl (wdN i.val) ≠ [] := by decide +kernel
theorem dcount_nodup : ∀ xs : List Str, xs.Nodup → dcount xs = xs.length
  | [], _ => rfl
  | x :: r, h => by
    obtain ⟨h1, h2⟩ := List.nodup_cons.mp h
    unfold dcount
    rw [if_neg (fun e => h1 (by obtain ⟨y, hy, e⟩ := List.any_eq_true.mp e; rw [← eq_of_beq e]; exact hy)), dcount_nodup r h2]
    rfl
theorem joinL_mem {S : List Nat} {c : Nat} : ∀ {ps : List (List Nat)}, c ∈ joinL S ps → c ∈ S ∨ ∃ p ∈ ps, c ∈ p
  | [p], h => .inr ⟨p, List.mem_cons_self, h⟩
  | p :: q :: r, h => by
    rcases List.mem_append.mp (show c ∈ p ++ (S ++ joinL S (q :: r)) from h) with e | e
    · exact .inr ⟨p, List.mem_cons_self, e⟩
    · rcases List.mem_append.mp e with e | e
      · exact .inl e
      · rcases joinL_mem e with e | ⟨z, hz, e⟩
        · exact .inl e
        · exact .inr ⟨z, List.mem_cons_of_mem _ hz, e⟩
theorem joinL_len {S : List Nat} {m : Nat} : ∀ {ps : List (List Nat)}, (∀ p ∈ ps, p.length ≤ m) → (joinL S ps).length ≤ ps.length * (m + S.length)
  | [], _ => Nat.zero_le _
  | [p], h => by
    show p.length ≤ 1 * (m + S.length)
    have := h p List.mem_cons_self
    omega
  | p :: q :: r, h => by
    have ih := joinL_len (S := S) (ps := q :: r) fun x hx => h x (List.mem_cons_of_mem _ hx)
    show (p ++ (S ++ joinL S (q :: r))).length ≤ ((q :: r).length + 1) * (m + S.length)
    rw [List.length_append, List.length_append, Nat.add_mul]
    have := h p List.mem_cons_self
    omega
theorem joinL_head {S : List Nat} {p : List Nat} (hp : p ≠ []) : ∀ r : List (List Nat), (joinL S (p :: r)).head? = p.head?
  | [] => rfl
  | q :: r => by
    show (p ++ (S ++ joinL S (q :: r))).head? = _
    cases p with
    | nil => exact absurd rfl hp
    | cons a l => rfl
theorem tl_act (ws : List Str) : tl (Txt.join " " ws) = joinL [32] (ws.map tl) := by
  rw [join_eq, tl_join]
  rfl
section
variable {w : Nat} {ps : List Nat} {g : Option (Nat × Nat × Nat)}
theorem actW_plain (h : ActOk w ps g) : ∀ z ∈ actW w ps g, PlainW z := by
  intro z hz
  rcases List.mem_cons.mp hz with e | e
  · rw [e]
    exact plainW_ok (wd_plain ⟨w, h.w4⟩)
  · rcases List.mem_append.mp e with e | e
    · obtain ⟨i, hi, rfl⟩ := List.mem_map.mp e
      exact plainW_ok (pl_plain ⟨i, h.lt i hi⟩)
    · match g, h, e with
      | some (a, b, c), h, e =>
        obtain ⟨ha, hb, hc, _⟩ := h.gd a b c rfl
        rcases (by simpa [guardW] using e : z = "if" ∨ z = nuN a ∨ z = cmN b ∨ z = nuN c) with rfl | rfl | rfl | rfl
        · exact plainW_ok if_plain
        · exact plainW_ok (nu_plain ⟨a, ha⟩)
        · exact plainW_ok (cm_plain ⟨b, hb⟩)
        · exact plainW_ok (nu_plain ⟨c, hc⟩)
theorem ps_len (h : ActOk w ps g) : 2 ≤ ps.length ∧ ps.length ≤ 8 := by
  have h1 := h.w4
  by_cases e : w = 3
  · have := h.more e
    omega
  · have := h.two (by omega)
    omega
theorem actW_len (h : ActOk w ps g) : (actW w ps g).length ≤ 13 := by
  have hp := ps_len h
  unfold actW
  rw [List.length_cons, List.length_append, List.length_map]
  match g with
  | none => show ps.length + 0 + 1 ≤ 13; omega
  | some (a, b, c) => show ps.length + 4 + 1 ≤ 13; omega
theorem act_split (h : ActOk w ps g) : Txt.split (actS w ps g) " " = actW w ps g :=
  split_join (s := 32) (S := []) (by decide +kernel) (by decide +kernel) (List.cons_ne_nil _ _) fun p hp => (actW_plain h p hp).sp
theorem deedW_act (h : ActOk w ps g) : deedW (actW w ps g) = ⟨wdN w, ps.map plN, (guardW g).drop 1⟩ := by
  match g, h with
  | none, h =>
    have e : actW w ps none = wdN w :: ps.map plN := by
      unfold actW guardW
      rw [List.append_nil]
    rw [e]
    unfold deedW
    rw [if_neg]
    · rfl
    · rintro ⟨hl, he⟩
      have hm : ("if" : Str) ∈ wdN w :: ps.map plN := List.mem_of_getElem? he
      rcases List.mem_cons.mp hm with e | e
      · exact wd_not_if ⟨w, h.w4⟩ e.symm
      · obtain ⟨i, hi, e⟩ := List.mem_map.mp e
        exact pl_not_if ⟨i, h.lt i hi⟩ e
  | some (a, b, c), h =>
    have hl : (actW w ps (some (a, b, c))).length = ps.length + 5 := by
      unfold actW guardW
      rw [List.length_cons, List.length_append, List.length_map]
      rfl
    have hp := ps_len h
    have e : actW w ps (some (a, b, c)) = (wdN w :: ps.map plN) ++ guardW (some (a, b, c)) := rfl
    have pl : (wdN w :: ps.map plN).length = ps.length + 1 := by rw [List.length_cons, List.length_map]
    unfold deedW
    rw [hl, if_pos]
    · show (⟨wdN w, ((actW w ps (some (a, b, c))).drop 1).take (ps.length + 5 - 5), (actW w ps (some (a, b, c))).drop (ps.length + 5 - 3)⟩ : Deed) = _
      have e1 : ((actW w ps (some (a, b, c))).drop 1).take (ps.length + 5 - 5) = ps.map plN := by
        show ((ps.map plN) ++ guardW (some (a, b, c))).take (ps.length + 5 - 5) = _
        rw [show ps.length + 5 - 5 = (ps.map plN).length by rw [List.length_map]; omega, List.take_left]
      have e2 : (actW w ps (some (a, b, c))).drop (ps.length + 5 - 3) = [nuN a, cmN b, nuN c] := by
        rw [e, show ps.length + 5 - 3 = (wdN w :: ps.map plN).length + 1 by rw [pl]; omega, List.drop_append, List.drop_eq_nil_of_le (Nat.le_succ _), Nat.add_sub_cancel_left]
        rfl
      rw [e1, e2]
      rfl
    · refine ⟨by omega, ?_⟩
      rw [e, show ps.length + 5 - 4 = (wdN w :: ps.map plN).length by rw [pl]; omega, List.getElem?_append_right (Nat.le_refl _), Nat.sub_self]
      rfl
theorem map_nodup {f : Nat → Str} : ∀ ps : List Nat, ps.Nodup → (∀ p ∈ ps, ∀ q ∈ ps, f p = f q → p = q) → (ps.map f).Nodup
  | [], _, _ => List.nodup_nil
  | p :: ps, h, hf => by
    obtain ⟨h1, h2⟩ := List.nodup_cons.mp h
    rw [List.map_cons]
    refine List.nodup_cons.mpr ⟨fun hm => ?_, map_nodup ps h2 fun a ha b hb => hf a (List.mem_cons_of_mem _ ha) b (List.mem_cons_of_mem _ hb)⟩
    obtain ⟨q, hq, e⟩ := List.mem_map.mp hm
    exact h1 (by rw [← hf q (List.mem_cons_of_mem _ hq) p List.mem_cons_self e]; exact hq)
theorem act_places (h : ActOk w ps g) : placesB (wdN w) (ps.map plN) = true := by
  have hp := ps_len h
  have nd : (ps.map plN).Nodup := map_nodup ps h.nd fun p hp q hq e => congrArg Fin.val (pl_inj ⟨p, h.lt p hp⟩ ⟨q, h.lt q hq⟩ e)
  have d1 : dcount (ps.map plN).reverse = (ps.map plN).length := by
    rw [dcount_nodup _ ((List.reverse_perm _).nodup_iff.mpr nd), List.length_reverse]
  have m1 : (ps.map plN).all (memB plcs) = true := by
    rw [List.all_map, List.all_eq_true]
    exact fun p hp => pl_mem ⟨p, h.lt p hp⟩
  have c1 := wd_counts ⟨w, h.w4⟩
  unfold placesB
  have c2 : counts (wdN w) = if w = 3 then some (3, 8) else some (2, 2) := c1
  rw [c2]
  by_cases e : w = 3
  · have := h.more e
    rw [if_pos e]
    show ((decide (3 ≤ (ps.map plN).length) && decide ((ps.map plN).length ≤ 8)) && (decide (dcount (ps.map plN).reverse = (ps.map plN).length) && (ps.map plN).all (memB plcs))) = true
    rw [d1, m1, List.length_map, decide_eq_true this.1, decide_eq_true this.2, decide_eq_true rfl]
    rfl
  · have h1 := h.w4
    have := h.two (by omega)
    rw [if_neg e]
    show ((decide (2 ≤ (ps.map plN).length) && decide ((ps.map plN).length ≤ 2)) && (decide (dcount (ps.map plN).reverse = (ps.map plN).length) && (ps.map plN).all (memB plcs))) = true
    rw [d1, m1, List.length_map, decide_eq_true (show 2 ≤ ps.length by omega), decide_eq_true (show ps.length ≤ 2 by omega), decide_eq_true rfl]
    rfl
theorem act_cond (h : ActOk w ps g) : condB ((guardW g).drop 1) = true := by
  match g, h with
  | none, _ => rfl
  | some (a, b, c), h =>
    obtain ⟨ha, hb, hc, hn⟩ := h.gd a b c rfl
    have m1 : memB nmz (nuN a) = true := nu_mem ⟨a, ha⟩
    have m2 : memB cmps (cmN b) = true := cm_mem ⟨b, hb⟩
    have m3 : memB nmz (nuN c) = true := nu_mem ⟨c, hc⟩
    have ne : ¬ nuN a = nuN c := fun e => hn (congrArg Fin.val (nu_inj ⟨a, ha⟩ ⟨c, hc⟩ e))
    show (memB nmz (nuN a) && (memB cmps (cmN b) && (memB nmz (nuN c) && !decide (nuN a = nuN c)))) = true
    rw [m1, m2, m3, decide_eq_false ne]
    rfl
theorem act_deed (h : ActOk w ps g) : DeedRow (actS w ps g) := by
  have ht := tl_act (actW w ps g)
  have pl := actW_plain h
  have hn := actW_len h
  refine ⟨?_, ?_, fun hm => ?_, ?_, fun c hc => ?_⟩
  · unfold deedB deedD
    rw [act_split h, deedW_act h]
    show (placesB (wdN w) (ps.map plN) && condB ((guardW g).drop 1)) = true
    rw [act_places h, act_cond h]
    rfl
  · rw [len_tl]
    show (tl (Txt.join " " (actW w ps g))).length ≤ 200
    rw [ht]
    have z := joinL_len (S := [32]) (m := 5) (ps := (actW w ps g).map tl) fun p hp => by
      obtain ⟨z, hz, rfl⟩ := List.mem_map.mp hp
      have := (pl z hz).ln
      rw [len_tl] at this
      exact this
    rw [List.length_map] at z
    have : ([32] : List Nat).length = 1 := rfl
    rw [this] at z
    omega
  · have hm : 10 ∈ tl (Txt.join " " (actW w ps g)) := hm
    rw [ht] at hm
    rcases joinL_mem hm with e | ⟨p, hp, e⟩
    · exact absurd e (by decide)
    · obtain ⟨z, hz, rfl⟩ := List.mem_map.mp hp
      exact (pl z hz).nl e
  · rw [starts_pre]
    show pre (tl ofrom) (tl (Txt.join " " (actW w ps g))) = false
    have hd := wd_head ⟨w, h.w4⟩
    have e1 : (tl (Txt.join " " (actW w ps g))).head? = (tl (wdN w)).head? := by
      rw [ht]
      exact joinL_head hd.2 _
    have e2 : ∃ r, tl ofrom = 105 :: r := ⟨(tl ofrom).drop 1, by decide +kernel⟩
    obtain ⟨r, e2⟩ := e2
    rw [e2]
    cases e3 : tl (Txt.join " " (actW w ps g)) with
    | nil => rfl
    | cons c l =>
      rw [e3] at e1
      have nc : c ≠ 105 := fun e => hd.1 (by rw [e] at e1; exact e1.symm)
      show (((c :: l).take (r.length + 1)) == (105 :: r)) = false
      rw [List.take_succ_cons, List.cons_beq_cons, show (c == 105) = false from beq_eq_false_iff_ne.mpr nc, Bool.false_and]
  · have hc : c ∈ tl (Txt.join " " (actW w ps g)) := hc
    rw [ht] at hc
    rcases joinL_mem hc with e | ⟨p, hp, e⟩
    · rw [List.mem_singleton.mp e]
      decide
    · obtain ⟨z, hz, rfl⟩ := List.mem_map.mp hp
      exact (pl z hz).cp c e
end
/-! ### the text of a program and what is read of it -/
/-- nests whose texts are as the law makes them -/
structure NestT (n : NestD) : Prop where
  l1 : n.1.length ≤ 40
  l2 : n.2.1.length ≤ 40
  c1 : ∀ c ∈ tl n.1, c < 128
  c2 : ∀ c ∈ tl n.2.1, c < 128
  n1 : 10 ∉ tl n.1
  n2 : 10 ∉ tl n.2.1
  b1 : loopB obs n.1 = true
  b2 : loopB (obs ++ ibs) n.2.1 = true
  dl : n.2.2.length ≤ 6
  ds : ∀ d ∈ n.2.2, DeedRow d
theorem NestT.ok {n : NestD} (h : NestT n) : NestOk n := by
  have big : 100 ≤ sizeLine := by decide
  have h1 := h.l1
  have h2 := h.l2
  exact ⟨by omega, by omega, h.b1, h.b2, fun d hd => Nat.le_trans (h.ds d hd).ln (by decide), fw_none _ _ _ (fun b hb => by obtain ⟨d, hd, rfl⟩ := List.mem_map.mp hb; exact (h.ds d hd).ok) (by rw [List.length_map]; have := h.dl; omega)⟩
def rowsOf (n : NestD) : List Str := (ofrom ++ n.1) :: (jfrom ++ n.2.1) :: n.2.2
def progT (ns : List NestD) : Str := Txt.join "\n" (ns.map rowsOf).flatten
theorem nestOf_rows (n : NestD) : nestOf (rowsOf n) = n := by
  show (Txt.removeprefix (ofrom ++ n.1) ofrom, Txt.removeprefix (jfrom ++ n.2.1) jfrom, n.2.2) = n
  rw [cut_app, cut_app]
theorem nestB_rows {n : NestD} (h : NestT n) : nestB (rowsOf n) = true := by
  unfold rowsOf
  rw [nestB_cons, behind_app, behind_app, show okLoop obs (.str n.1) = true from h.b1, show okLoop (obs ++ ibs) (.str n.2.1) = true from h.b2, h.ok.ds.2]
  rfl
theorem j_not (x : Str) : Txt.startswith (jfrom ++ x) ofrom = false := by
  rw [starts_pre, tl_append]
  have e1 : tl ofrom = [105, 32, 102, 114, 111, 109, 32] := by decide +kernel
  have e2 : tl jfrom = [106, 32, 102, 114, 111, 109, 32] := by decide +kernel
  rw [e1, e2]
  rfl
theorem add_first {gs : List (List Str)} {r : Str} (h : Txt.startswith r ofrom = true) : addRow gs r = gs ++ [[r]] := by
  unfold addRow
  rw [if_pos (.inr h)]
theorem add_next {gs : List (List Str)} {g : List Str} {r : Str} (h : Txt.startswith r ofrom = false) : addRow (gs ++ [g]) r = gs ++ [g ++ [r]] := by
  unfold addRow
  rw [if_neg (fun e => e.elim (fun e => by simp at e) (fun e => by rw [h] at e; cases e)), List.dropLast_concat, List.getLast?_concat]
  rfl
theorem add_all {gs : List (List Str)} : ∀ (rs g : List Str), (∀ r ∈ rs, Txt.startswith r ofrom = false) → rs.foldl addRow (gs ++ [g]) = gs ++ [g ++ rs]
  | [], g, _ => by rw [List.append_nil]; rfl
  | r :: rs, g, h => by
    show rs.foldl addRow (addRow (gs ++ [g]) r) = _
    rw [add_next (h r List.mem_cons_self), add_all rs (g ++ [r]) fun x hx => h x (List.mem_cons_of_mem _ hx), List.append_assoc]
    rfl
theorem add_nest {gs : List (List Str)} {n : NestD} (h : NestT n) : (rowsOf n).foldl addRow gs = gs ++ [rowsOf n] := by
  show ((jfrom ++ n.2.1) :: n.2.2).foldl addRow (addRow gs (ofrom ++ n.1)) = _
  rw [add_first (starts_app ofrom n.1), add_all]
  · rfl
  · intro r hr
    rcases List.mem_cons.mp hr with e | e
    · rw [e]
      exact j_not _
    · exact (h.ds r e).st
theorem add_nests : ∀ (ns : List NestD) (gs : List (List Str)), (∀ n ∈ ns, NestT n) → (ns.map rowsOf).flatten.foldl addRow gs = gs ++ ns.map rowsOf
  | [], gs, _ => by simp
  | n :: ns, gs, h => by
    rw [List.map_cons, List.flatten_cons, List.foldl_append, add_nest (h n List.mem_cons_self), add_nests ns _ fun m hm => h m (List.mem_cons_of_mem _ hm), List.append_assoc]
    rfl
theorem rows_nl {n : NestD} (h : NestT n) : ∀ r ∈ rowsOf n, 10 ∉ tl r ∧ r.length ≤ 200 := by
  have e1 : 10 ∉ tl ofrom := by decide +kernel
  have e2 : 10 ∉ tl jfrom := by decide +kernel
  have l1 : ofrom.length = 7 := by decide +kernel
  have l2 : jfrom.length = 7 := by decide +kernel
  have h1 := h.l1
  have h2 := h.l2
  intro r hr
  rcases List.mem_cons.mp hr with e | e
  · rw [e, tl_append, str_len_append]
    exact ⟨fun m => (List.mem_append.mp m).elim e1 h.n1, by omega⟩
  · rcases List.mem_cons.mp e with e | e
    · rw [e, tl_append, str_len_append]
      exact ⟨fun m => (List.mem_append.mp m).elim e2 h.n2, by omega⟩
    · exact ⟨(h.ds r e).nl, (h.ds r e).ln⟩
theorem flat_all {ns : List NestD} (h : ∀ n ∈ ns, NestT n) : ∀ r ∈ (ns.map rowsOf).flatten, 10 ∉ tl r ∧ r.length ≤ 200 := by
  intro r hr
  obtain ⟨g, hg, hr⟩ := List.mem_flatten.mp hr
  obtain ⟨n, hn, rfl⟩ := List.mem_map.mp hg
  exact rows_nl (h n hn) r hr
theorem flat_len : ∀ {ns : List NestD}, (∀ n ∈ ns, NestT n) → (ns.map rowsOf).flatten.length ≤ 8 * ns.length
  | [], _ => Nat.zero_le _
  | n :: ns, h => by
    have ih := flat_len (ns := ns) fun m hm => h m (List.mem_cons_of_mem _ hm)
    rw [List.map_cons, List.flatten_cons, List.length_append, List.length_cons]
    have h1 : (rowsOf n).length = n.2.2.length + 2 := rfl
    have h2 := (h n List.mem_cons_self).dl
    omega
theorem prog_split {ns : List NestD} (h : ∀ n ∈ ns, NestT n) (hne : ns ≠ []) : Txt.split (progT ns) "\n" = (ns.map rowsOf).flatten := by
  refine split_join (s := 10) (S := []) (by decide +kernel) (by decide +kernel) ?_ fun r hr => (flat_all h r hr).1
  cases ns with
  | nil => exact absurd rfl hne
  | cons n ns => exact List.cons_ne_nil _ _
theorem prog_len {ns : List NestD} (h : ∀ n ∈ ns, NestT n) (hl : ns.length ≤ 5) : (progT ns).length ≤ 8040 := by
  rw [len_tl]
  unfold progT
  rw [join_eq, tl_join, show tl ("\n" : Str) = [10] from by decide +kernel]
  have z := joinL_len (S := [10]) (m := 200) (ps := ((ns.map rowsOf).flatten).map tl) fun p hp => by
    obtain ⟨r, hr, rfl⟩ := List.mem_map.mp hp
    have := (flat_all h r hr).2
    rw [len_tl] at this
    exact this
  rw [List.length_map] at z
  have y := flat_len h
  have : ([10] : List Nat).length = 1 := rfl
  rw [this] at z
  have k : (ns.map rowsOf).flatten.length * (200 + 1) ≤ 40 * 201 := Nat.mul_le_mul_right _ (by omega)
  omega
theorem prog_ne {ns : List NestD} (hne : ns ≠ []) : progT ns ≠ "" := by
  intro e
  have e1 := congrArg tl e
  unfold progT at e1
  rw [join_eq, tl_join] at e1
  cases ns with
  | nil => exact hne rfl
  | cons n ns =>
    have e2 : tl (ofrom ++ n.1) ≠ [] := by
      rw [tl_append, show tl ofrom = [105, 32, 102, 114, 111, 109, 32] from by decide +kernel]
      exact List.cons_ne_nil _ _
    have e3 := congrArg List.head? e1
    rw [List.map_cons, List.flatten_cons] at e3
    have e4 := joinL_head (S := tl ("\n" : Str)) e2 (((jfrom ++ n.2.1) :: n.2.2 ++ (ns.map rowsOf).flatten).map tl)
    have e5 : (tl ("" : Str)).head? = none := by decide +kernel
    rw [e5] at e3
    have e6 : (tl (ofrom ++ n.1)).head? = none := e4.symm.trans e3
    rw [tl_append, show tl ofrom = [105, 32, 102, 114, 111, 109, 32] from by decide +kernel] at e6
    cases e6
theorem prog_parts {ns : List NestD} (h : ∀ n ∈ ns, NestT n) : partsOf (progT ns) = ns.map rowsOf := by
  unfold partsOf
  by_cases hne : ns = []
  · rw [hne]
    rfl
  · rw [if_neg (prog_ne hne), prog_split h hne]
    exact add_nests ns [] h
theorem prog_nests {ns : List NestD} (h : ∀ n ∈ ns, NestT n) : nestsOf (progT ns) = ns := by
  unfold nestsOf
  rw [prog_parts h, List.map_map]
  have e : (nestOf ∘ rowsOf) = id := funext nestOf_rows
  rw [e, List.map_id]
theorem prog_right {ns : List NestD} (h : ∀ n ∈ ns, NestT n) (hl : ns.length ≤ 4) : progB (progT ns) = true := by
  unfold progB
  rw [prog_parts h, List.length_map, decide_eq_true hl, Bool.true_and, List.all_map, List.all_eq_true]
  exact fun n hn => nestB_rows (h n hn)
theorem split_empty : Txt.split "" "\n" = [("" : Str)] := by
  exact split_join (y := "\n") (s := 10) (S := []) (by decide +kernel) (by decide +kernel) (parts := [("" : Str)]) (List.cons_ne_nil _ _) fun p hp => by
    rw [List.mem_singleton.mp hp]
    decide +kernel
theorem prog_ok {ns : List NestD} (h : ∀ n ∈ ns, NestT n) (hl : ns.length ≤ 5) : TextOk (progT ns) := by
  have h1 := prog_len h hl
  have big : 10000 ≤ sizeLine := by decide
  by_cases hne : ns = []
  · rw [hne]
    have e : progT [] = "" := rfl
    rw [e]
    have l0 : ("" : Str).length = 0 := by decide +kernel
    refine ⟨by omega, by rw [split_empty]; exact Nat.succ_le_of_lt (by decide), fun r hr => ?_⟩
    rw [split_empty] at hr
    rw [List.mem_singleton.mp hr, l0]
    exact Nat.zero_le _
  · have h2 := flat_len h
    exact ⟨by omega, by rw [prog_split h hne]; omega, fun r hr => by rw [prog_split h hne] at hr; exact Nat.le_trans (flat_all h r hr).2 (by decide)⟩
/-! ### data to be shown -/
theorem strs_show : ∀ ds : List Str, PyData.showableAll (ds.map PyData.str) = true
  | [] => by rw [List.map_nil]; simp [PyData.showableAll]
  | d :: ds => by rw [List.map_cons]; simp [PyData.showableAll, PyData.showable, strs_show ds]
theorem strs_dict : ∀ ds : List Str, PyData.hasDictAll (ds.map PyData.str) = false
  | [] => by rw [List.map_nil]; simp [PyData.hasDictAll]
  | d :: ds => by rw [List.map_cons]; simp [PyData.hasDictAll, PyData.hasDict, strs_dict ds]
theorem strs_depth : ∀ ds : List Str, PyData.depthAll (ds.map PyData.str) ≤ 1
  | [] => by rw [List.map_nil]; simp [PyData.depthAll]
  | d :: ds => by rw [List.map_cons]; simp [PyData.depthAll, PyData.depth, strs_depth ds]
theorem strs_short : ∀ ds : List Str, (∀ d ∈ ds, ∀ c ∈ tl d, c < 128) → PyData.leavesShortAll 8 (ds.map PyData.str) = true
  | [], _ => by rw [List.map_nil]; simp [PyData.leavesShortAll]
  | d :: ds, h => by
    have h1 : d.cps.toList.all (fun c => decide (c < 16 ^ 8)) = true := List.all_eq_true.mpr fun c hc => decide_eq_true (Nat.lt_trans (h d List.mem_cons_self c hc) (by decide))
    rw [List.map_cons]
    simp only [PyData.leavesShortAll, PyData.leavesShort, h1, Bool.true_and]
    exact strs_short ds fun e he => h e (List.mem_cons_of_mem _ he)
theorem strs_bulk {m : Nat} : ∀ ds : List Str, (∀ d ∈ ds, d.length ≤ m) → PyData.bulkAll (ds.map PyData.str) ≤ (m + 1) * ds.length
  | [], _ => by rw [List.map_nil]; simp [PyData.bulkAll]
  | d :: ds, h => by
    have ih := strs_bulk (m := m) ds fun e he => h e (List.mem_cons_of_mem _ he)
    have h1 : d.cps.size ≤ m := h d List.mem_cons_self
    rw [List.map_cons, List.length_cons, Nat.mul_add]
    simp only [PyData.bulkAll, PyData.bulk]
    omega
def dR (n : NestD) : PyData := .list [.str n.1, .str n.2.1, .tuple (n.2.2.map .str), .int (n.2.2.length : Int)]
def dT (ds : List Str) : PyData := .tuple (ds.map .str)
structure Shows (d : PyData) : Prop where
  sh : d.showable = true
  di : d.hasDict = false
  de : d.depth ≤ 20
  ln : d.shown.length ≤ sizeLine
theorem int_short : ∀ n : _root_.Fin 7, (PyData.shown (.int (n.val : Int))).length ≤ 8 := by decide +kernel
theorem dT_ok {n : NestD} (h : NestT n) : Shows (dT n.2.2) := by
  have dl := h.dl
  have hd := strs_depth n.2.2
  refine ⟨by simp [dT, PyData.showable, strs_show], by simp [dT, PyData.hasDict, strs_dict], by simp only [dT, PyData.depth]; omega, ?_⟩
  have z := PyData.shown_le_bulk 8 (Nat.le_refl _) (dT n.2.2) (by simp only [dT, PyData.leavesShort]; exact strs_short _ fun d hd => (h.ds d hd).cp)
  have b := strs_bulk (m := 200) n.2.2 fun d hd => (h.ds d hd).ln
  have e : (dT n.2.2).bulk = PyData.bulkAll (n.2.2.map .str) := by simp only [dT, PyData.bulk]
  have k : (200 + 1) * n.2.2.length ≤ 201 * 6 := Nat.mul_le_mul_left _ dl
  have big : 20000 ≤ sizeLine := by decide
  rw [e] at z
  omega
theorem log_small {n : Nat} (h : n ≤ 6) : n.log2 < 1920 :=
  have k : ∀ i : _root_.Fin 7, i.val.log2 < 1920 := by decide +kernel
  k ⟨n, by omega⟩
theorem dR_ok {n : NestD} (h : NestT n) : Shows (dR n) := by
  have dl := h.dl
  have hd := strs_depth n.2.2
  have h1 : n.1.cps.toList.all (fun c => decide (c < 16 ^ 8)) = true := List.all_eq_true.mpr fun c hc => decide_eq_true (Nat.lt_trans (h.c1 c hc) (by decide))
  have h2 : n.2.1.cps.toList.all (fun c => decide (c < 16 ^ 8)) = true := List.all_eq_true.mpr fun c hc => decide_eq_true (Nat.lt_trans (h.c2 c hc) (by decide))
  have h3 := strs_short n.2.2 fun d hd => (h.ds d hd).cp
  have h4 : (PyData.shown (.int (n.2.2.length : Int))).length ≤ 8 := int_short ⟨n.2.2.length, by omega⟩
  refine ⟨by simp [dR, PyData.showable, PyData.showableAll, strs_show]; exact log_small dl, by simp [dR, PyData.hasDict, PyData.hasDictAll, strs_dict], by simp only [dR, PyData.depth, PyData.depthAll]; omega, ?_⟩
  have z := PyData.shown_le_bulk 8 (Nat.le_refl _) (dR n) (by simp only [dR, PyData.leavesShort, PyData.leavesShortAll, h1, h2, h3, decide_eq_true h4, Bool.and_true])
  have b := strs_bulk (m := 200) n.2.2 fun d hd => (h.ds d hd).ln
  have e : (dR n).bulk = n.1.cps.size + 1 + (n.2.1.cps.size + 1 + (PyData.bulkAll (n.2.2.map .str) + 1 + (0 + 1 + 0))) := by simp only [dR, PyData.bulk, PyData.bulkAll]
  have k : (200 + 1) * n.2.2.length ≤ 201 * 6 := Nat.mul_le_mul_left _ dl
  have l1 : n.1.cps.size ≤ 40 := h.l1
  have l2 : n.2.1.cps.size ≤ 40 := h.l2
  have big : 20000 ≤ sizeLine := by decide
  rw [e] at z
  omega
end Sq.N4
namespace Sq.N4
open PySem L2 TL
theorem sum_le {m : Nat} : ∀ {ys : List Str}, (∀ y ∈ ys, y.length ≤ m) → (ys.map (·.length)).sum ≤ m * ys.length
  | [], _ => Nat.zero_le _
  | y :: ys, h => by
    have ih := sum_le (m := m) (ys := ys) fun z hz => h z (List.mem_cons_of_mem _ hz)
    have h1 := h y List.mem_cons_self
    rw [List.map_cons, List.sum_cons, List.length_cons, Nat.mul_add]
    omega
/-- a nest's getters -/
structure NestP (P : Program) (w : World) (K : PySem.W.Frag) (mg : Str → Option Value) (base : Heap) (C : Addr) : Prop where
  nc : Nc K C
  p1 : ∃ p g d, PropOf K C "outer" p g ∧ FnOk P w K mg base CX0 1 g d ["self"] (getSp C "_outer") ∧ Binds K d ["self"] []
  p2 : ∃ p g d, PropOf K C "inner" p g ∧ FnOk P w K mg base CX0 1 g d ["self"] (getSp C "_inner") ∧ Binds K d ["self"] []
  p3 : ∃ p g d, PropOf K C "deeds" p g ∧ FnOk P w K mg base CX0 1 g d ["self"] (getSp C "_deeds") ∧ Binds K d ["self"] []
abbrev sNestText : Stmt := top 35
abbrev sPLen : Stmt := inClass (top 34) 3
abbrev sPBool : Stmt := inClass (top 34) 4
abbrev sPEq : Stmt := inClass (top 34) 5
abbrev sPStr : Stmt := inClass (top 34) 6
/-! ### joined texts, joined -/
theorem joinL_cons {S p : List Nat} : ∀ {r : List (List Nat)}, r ≠ [] → joinL S (p :: r) = p ++ (S ++ joinL S r)
  | [], h => absurd rfl h
  | _ :: _, _ => rfl
theorem joinL_app {S : List Nat} : ∀ {a b : List (List Nat)}, a ≠ [] → b ≠ [] → joinL S (a ++ b) = joinL S a ++ (S ++ joinL S b)
  | [], _, h, _ => absurd rfl h
  | [p], b, _, hb => joinL_cons hb
  | p :: q :: r, b, _, hb => by
    show p ++ (S ++ joinL S ((q :: r) ++ b)) = (p ++ (S ++ joinL S (q :: r))) ++ (S ++ joinL S b)
    rw [joinL_app (List.cons_ne_nil q r) hb]
    simp only [List.append_assoc]
theorem joinL_flat {S : List Nat} : ∀ {gs : List (List (List Nat))}, (∀ g ∈ gs, g ≠ []) → joinL S (gs.map (joinL S)) = joinL S gs.flatten
  | [], _ => rfl
  | [g], _ => by
    show joinL S g = joinL S (g ++ [].flatten)
    rw [List.flatten_nil, List.append_nil]
  | g :: h :: r, hne => by
    have ih := joinL_flat (S := S) (gs := h :: r) fun x hx => hne x (List.mem_cons_of_mem _ hx)
    have hf : (h :: r).flatten ≠ [] := by
      rw [List.flatten_cons]
      exact fun e => hne h (List.mem_cons_of_mem _ List.mem_cons_self) (List.append_eq_nil_iff.mp e).1
    rw [List.flatten_cons, joinL_app (hne g List.mem_cons_self) hf, ← ih]
    exact joinL_cons (List.cons_ne_nil _ _)
def nestT (n : NestD) : Str := Txt.join "\n" (rowsOf n)
theorem join_nests (ns : List NestD) : Txt.join "\n" (ns.map nestT) = progT ns := by
  refine ext_tl ?_
  unfold progT
  rw [join_eq, tl_join, join_eq, tl_join, List.map_map, List.map_flatten, List.map_map]
  have e : (tl ∘ nestT) = (joinL (tl ("\n" : Str))) ∘ (List.map tl ∘ rowsOf) := by
    funext n
    show tl (Txt.join "\n" (rowsOf n)) = _
    rw [join_eq, tl_join]
    rfl
  rw [e, ← List.map_map]
  refine joinL_flat fun g hg => ?_
  obtain ⟨n, _, rfl⟩ := List.mem_map.mp hg
  exact List.cons_ne_nil _ _
def spNestText (K : PySem.W.Frag) (C : Addr) : Sp := fun vs H Q _ => ∃ (a : Addr) (n : NestD), vs = [.ref a] ∧ NestIs K C H a n ∧ NestT n ∧ ∀ H', Same H H' → Q (.str (nestT n)) H'
section
variable {P : Program} {w : World} {K : PySem.W.Frag} {mg : Str → Option Value} {base : Heap} {C CP : Addr}
theorem scNestText : FnScope ["nest", "deeds"] ["nest"] (defScope sNestText) := ⟨rfl, rfl, rfl, by decide +kernel, rfl, by decide +kernel, by decide +kernel⟩
theorem ok_nestText {f : Addr} {fd : FuncData} (F : Fun K "nest_text" "nest_text" sNestText f fd) (R : Rd1 P w K mg base) (NK : NestP P w K mg base C) : FnOk P w K mg base CX0 3 f fd ["nest"] (spNestText K C) := by
  obtain ⟨p1, g1, d1, P1, G1, B1⟩ := NK.p1
  obtain ⟨p2, g2, d2, P2, G2, B2⟩ := NK.p2
  obtain ⟨p3, g3, d3, P3, G3, B3⟩ := NK.p3
  obtain ⟨u1, mS⟩ := R.mS
  obtain ⟨u2, mJ⟩ := R.mJ
  refine F.ok scNestText (fun vs H Q E h => ?_) (fun cdv A outer s H vs Q E hr h => ?_)
  · obtain ⟨a, n, rfl, _⟩ := h
    rfl
  · obtain ⟨a, n, rfl, hn, ok, q⟩ := h
    obtain ⟨dx, dp, ⟨R1, x1, _⟩, x2⟩ := id hn
    have big : 10000 ≤ sizeLine := by decide
    have dl := ok.dl
    have l1 := ok.l1
    have l2 := ok.l2
    have o7 : ofrom.length = 7 := by decide +kernel
    have j7 : jfrom.length = 7 := by decide +kernel
    refine ⟨_, pss_cons (ps_set (i := 1) scNestText.nd rfl (.inl rfl) (pe_prop (pv 0) NK.nc.cl P3 G3 hr B3 .nil pass0 rfl))
      (pss_one (ps_ret (pe_join pe_str (pe_lst (pa_cons (pe_joined (.cons (pe_fmt (pe_glob (v := .str ofrom) (by rfl) mS ⟨_, rfl⟩)) (.cons (pe_fmt (pe_prop (pv 0) NK.nc.cl P1 G1 hr B1 .nil pass0 rfl)) .nil)))
        (pa_cons (pe_joined (.cons (pe_fmt (pe_glob (v := .str jfrom) (by rfl) mJ ⟨_, rfl⟩)) (.cons (pe_fmt (pe_prop (pv 0) NK.nc.cl P2 G2 hr B2 .nil pass0 rfl)) .nil))) (StX.pa_star (pv 1) pa_nil))))))), ?_⟩
    refine ⟨_, rfl, a, _, _, rfl, x1, a, _, _, .ref dp, rfl, x1, nfl_deeds _ _ _ _, ?_⟩
    have z0 : Str.empty.length = 0 := rfl
    have b1 : (Str.empty ++ ofrom).length ≤ sizeLine := by rw [str_len_append]; omega
    have b2 : (Str.empty ++ ofrom ++ n.1).length ≤ sizeLine := by rw [str_len_append, str_len_append]; omega
    have c1 : (Str.empty ++ jfrom).length ≤ sizeLine := by rw [str_len_append]; omega
    have c2 : (Str.empty ++ jfrom ++ n.2.1).length ≤ sizeLine := by rw [str_len_append, str_len_append]; omega
    refine ⟨⟨_, rfl⟩, ?_⟩
    refine .inl ⟨ofrom, rfl, by omega, ofrom, rfl, b1, ?_⟩
    refine ⟨_, rfl, a, _, _, rfl, x1, a, _, _, .str n.1, rfl, x1, nfl_outer _ _ _ _, .inl ⟨n.1, rfl, by omega, n.1, rfl, b2, ?_⟩⟩
    refine .inl ⟨jfrom, rfl, by omega, jfrom, rfl, c1, ?_⟩
    refine ⟨_, rfl, a, _, _, rfl, x1, a, _, _, .str n.2.1, rfl, x1, nfl_inner _ _ _ _, .inl ⟨n.2.1, rfl, by omega, n.2.1, rfl, c2, ?_⟩⟩
    refine ⟨_, rfl, dp, n.2.2.map V.str, rfl, .inl (SqT.of x2), ?_⟩
    rw [Str.empty_append, Str.empty_append]
    have hlen : ((rowsOf n).map V.str).length ≤ sizeLine := by rw [List.length_map]; show n.2.2.length + 1 + 1 ≤ sizeLine; omega
    refine ⟨by rw [List.append_nil]; exact hlen, fun l nl => ?_⟩
    rw [List.append_nil]
    refine ⟨"\n", l, rowsOf n, rfl, rfl, .inl (SqL.of upd_same), ?_, q _ (same_new nl)⟩
    have b1 := sum_le (m := 200) (ys := rowsOf n) fun r hr => (rows_nl ok r hr).2
    have b2 : (rowsOf n).length = n.2.2.length + 2 := rfl
    have b3 : ("\n" : Str).length = 1 := by decide +kernel
    rw [b3, b2]
    rw [b2] at b1
    omega
end
def spPStr (K : PySem.W.Frag) (CP C : Addr) : Sp := fun vs H Q _ => ∃ (a : Addr) (ns : List NestD), vs = [.ref a] ∧ ProgAt K CP C H a ns ∧ (∀ n ∈ ns, NestT n) ∧ ns.length ≤ 5 ∧ ∀ H', Same H H' → Q (.str (progT ns)) H'
def spPLen (K : PySem.W.Frag) (CP C : Addr) : Sp := fun vs H Q _ => ∃ (a : Addr) (ns : List NestD), vs = [.ref a] ∧ ProgAt K CP C H a ns ∧ Q (.int (ns.length : Int)) H
section
variable {P : Program} {w : World} {K : PySem.W.Frag} {mg : Str → Option Value} {base : Heap} {C CP : Addr}
theorem putN (tp : Addr) : (putF "_nests" (.ref tp) []).lookup ("_nests" : Str) = some (V.ref tp) := by rw [lookup_putF, if_pos rfl]
theorem scPStr : FnScope ["self", "nest"] ["self"] (defScope sPStr) := ⟨rfl, rfl, rfl, by decide +kernel, rfl, by decide +kernel, by decide +kernel⟩
theorem ok_pstr {f : Addr} {fd : FuncData} (F : Fun K "__str__" "Program.__str__" sPStr f fd) (N : Pc K CP) (KT : Kn P w K mg base "nest_text" 3 ["nest"] (spNestText K C)) : FnOk P w K mg base CX0 4 f fd ["self"] (spPStr K CP C) := by
  obtain ⟨fT, dT, mT, kT, bT, GT⟩ := KT
  refine F.ok scPStr (fun vs H Q E h => ?_) (fun cdv A outer s H vs Q E hr h => ?_)
  · obtain ⟨a, ns, rfl, _⟩ := h
    rfl
  · obtain ⟨a, ns, rfl, ha, ok, hl, q⟩ := h
    obtain ⟨dx, tp, xs, h1, h2, h3, h4⟩ := ha
    have big : 10000 ≤ sizeLine := by decide
    refine ⟨_, pss_one (ps_ret (pe_join pe_str (pe_lc (own := [("nest", 1)]) (g := gName 1) (by rfl) scPStr.nd (pi_tup (pe_fld (pv 0) rfl)) (blkOk_by (own := [("nest", 1)]) (N := ["self", "nest"]) (sc := defScope sPStr) (by decide +kernel))
      (fun _ _ _ _ _ => pg_name (i := 1) scPStr.nd rfl (Or.inl rfl)) (fun _ _ _ _ _ => pts_nil) (fun _ _ _ _ _ => pe_call GT hr (by rfl) mT kT bT .nil pass0 (pa_cons (pv 1) pa_nil))))), ?_⟩
    refine ⟨⟨_, rfl⟩, ?_⟩
    refine ⟨_, rfl, a, CP, dx, _, _, rfl, h1, N.cl, N.nN, putN tp, tp, rfl, ⟨_, SqT.of h2⟩, fun D hD => ?_⟩
    refine lc_tup (K := K) (a := tp) (xs := xs.map V.ref) (fun i H' => Same H H' ∧ H' D = some (.lst (((ns.take i).map nestT).map V.str))) ⟨same_new hD, upd_same⟩ (fun i H' _ h => (SqT.of h2).ext h.1) (fun i x H' hi h => ?_) (fun H' h => ?_)
    · obtain ⟨sm, hL⟩ := h
      refine ⟨rfl, ?_⟩
      obtain ⟨b, hb, rfl⟩ : ∃ b, xs[i]? = some b ∧ x = .ref b := by
        rw [List.getElem?_map] at hi
        cases e : xs[i]? with
        | none => rw [e] at hi; cases hi
        | some r => rw [e] at hi; exact ⟨r, rfl, (Option.some.inj hi).symm⟩
      have hil : i < ns.length := by rw [← h3]; exact (List.getElem?_eq_some_iff.mp hb).1
      have hgi : ns[i]? = some ns[i] := List.getElem?_eq_getElem hil
      refine ⟨_, rfl, b, ns[i], rfl, (h4 i b _ hb hgi).ext sm, ok _ (List.getElem_mem hil), fun H2 s2 => ⟨_, s2 _ _ hL, ?_, ?_, ?_⟩⟩
      · rw [List.length_map, List.length_map, List.length_take]
        omega
      · intro c o hc
        rw [upd_ne (fun e => by rw [e, hD] at hc; cases hc)]
        exact s2 c o (sm c o hc)
      · rw [upd_same, List.take_add_one, hgi, List.map_append, List.map_append]
        rfl
    · obtain ⟨sm, hL⟩ := h
      rw [List.length_map, h3, List.take_length] at hL
      refine ⟨"\n", D, ns.map nestT, rfl, rfl, .inl (SqL.of hL), ?_, ?_⟩
      · have b0 : ∀ y ∈ ns.map nestT, y.length ≤ 8040 := fun y hy => by
          obtain ⟨n, hn, rfl⟩ := List.mem_map.mp hy
          have z := prog_len (ns := [n]) (fun m hm => by rw [List.mem_singleton.mp hm]; exact ok n hn) (by show 1 ≤ 5; omega)
          unfold progT at z
          rw [List.map_cons, List.map_nil, List.flatten_cons, List.flatten_nil, List.append_nil] at z
          exact z
        have b1 := sum_le (m := 8040) b0
        have b3 : ("\n" : Str).length = 1 := by decide +kernel
        rw [List.length_map] at b1
        rw [b3, List.length_map]
        omega
      · rw [join_nests]
        exact q H' sm
theorem scPLen : FnScope ["self"] ["self"] (defScope sPLen) := ⟨rfl, rfl, rfl, by decide +kernel, rfl, by decide +kernel, by decide +kernel⟩
theorem ok_plen {f : Addr} {fd : FuncData} (F : Fun K "__len__" "Program.__len__" sPLen f fd) (N : Pc K CP) (T : Bt mg) : FnOk P w K mg base CX0 1 f fd ["self"] (spPLen K CP C) := by
  refine F.ok scPLen (fun vs H Q E h => ?_) (fun cdv A outer s H vs Q E hr h => ?_)
  · obtain ⟨a, ns, rfl, _⟩ := h
    rfl
  · obtain ⟨a, ns, rfl, ha, q⟩ := h
    obtain ⟨dx, tp, xs, h1, h2, h3, h4⟩ := ha
    refine ⟨_, pss_one (ps_ret (pe_callB call_len_seq (by rfl) T.len PySem.boot_len (pa_cons (pe_fld (pv 0) rfl) pa_nil))), ?_⟩
    refine ⟨_, rfl, a, CP, dx, _, _, rfl, h1, N.cl, N.nN, putN tp, tp, _, rfl, .inr (SqT.of h2), ?_⟩
    rw [List.length_map, h3]
    exact q
end
end Sq.N4
namespace Sq
open PySem L2 PySem.Spec PyProof.Rows
/-! ### a op b, both instances of one class of the text; C(*b) -/
def rBin (C : Addr) (sp : Sp) (E : XK) : R2 := fun x y H Q => ∃ a b dx dy fs gs, x = .ref a ∧ y = .ref b ∧ H a = some (.ins C dx fs) ∧ H b = some (.ins C dy gs) ∧ sp [.ref a, .ref b] H Q E
section
variable {X : Cx} {CX : CXT} {n k : Nat} {f g C : Addr} {sp : Sp} {E : XK} {x : Str} {e : Expr} {te : TE} {p sp_ pos : Pos}
theorem op_bin {op : Operator} (hc : PySem.W.selfFirst X.K C = true) (hs : PySem.W.findIn X.K (.ref C) (PySem.dunder op.info.2) = some (some (.ref g))) (hf : PySem.W.isFn X.K (.ref g) = true) (F : FnR X.prog X.w X.K X.mg X.base CX n g sp) (hr : Room n X.A) (hx : Passes CX X E) :
    OpR X (binaryOp op) (rBin C sp E) := by
  intro pins s σ H x y v u Q I rx ry h
  obtain ⟨a, b, dx, dy, fs, gs, rfl, rfl, ha, hb, q⟩ := h
  cases (show v = Value.ref a from rx)
  cases (show u = Value.ref b from ry)
  obtain ⟨_, J, _⟩ := ins_get I.hok ha
  obtain ⟨_, J, _⟩ := J.look
  obtain ⟨_, J', _⟩ := ins_get I.hok hb
  obtain ⟨_, J', _⟩ := J'.look
  obtain ⟨m, hF⟩ := I.fr
  refine PySem.W.binop_K hF I.ok.mod.kin J J'.type hc hs hf ?_
  refine wpAny_mono (wpAny_call (run_fnR (us := [.ref a, .ref b]) (vs := [.ref a, .ref b]) F hr hx I (.cons rfl (.cons rfl .nil)) q)) (fun w s' z => ?_) fun _ _ x => x
  obtain ⟨z', H', I', rz, qz⟩ := z
  exact SlX.cmpback rz ⟨z', H', I', rz, qz⟩
def tMakeG (K : PySem.W.Frag) (C : Addr) (sp : Sp) (E : XK) (te : TE) : TE := fun σ H Q => te σ H fun y H1 => ∃ a xs, y = V.ref a ∧ (SqT K H1 a xs ∨ SqL K H1 a xs) ∧ ∀ x dx, H1 x = Option.none → H1 dx = Option.none → dx ≠ x →
  sp (V.ref x :: xs) (upd (upd H1 dx (.own x)) x (.ins C dx [])) (fun v H2 => v = .non ∧ Q (.ref x) H2) E
theorem pe_makeSG (M : Mk X.K C f) (F : FnR X.prog X.w X.K X.mg X.base CX k f sp) (hr : Room (k + 1) X.A) (hg : Gl X x) (hm : X.mg x = some (.ref C)) (hx : Passes CX X E) (he : PE X e te) (hdb : (x == ("__debug__" : Str)) = false := by decide)
    (hst : starEach [.Starred e sp_] X.env = [(true, eval e X.env)] := by rfl) : PE X (.Call (.Name x p) [.Starred e sp_] [] pos) (tMakeG X.K C sp E te) := by
  refine ⟨fun pins s σ H Q I h => ?_⟩
  refine wpAny_Call_Name_kw (ld_glob I hg hm ?_ hdb)
  refine PySem.W.callWith_S (h₀ := X.base) I.ok.mod.kin M.kp (thn (he.run pins s σ _ _ I h) fun v s1 ⟨y, H1, I1, ry, a, xs, ey, hxs, q⟩ => ?_) hst
  subst ey
  obtain rfl : v = Value.ref a := ry
  exact StX.star_any I1 hxs fun us s2 I2 rv => ⟨I2.kIn, StX.run_makeR M F hr hx I2 rv q⟩
/-- an item of a list or of a tuple -/
theorem ix_or {K : PySem.W.Frag} {H : Hp} {l : Addr} {xs : List V} {i : Int} {v : V} {Q : VK} (h : SqL K H l xs ∨ SqT K H l xs) (e : atI xs i = some v) (q : Q v H) : rIxL K (.ref l) (.int i) H Q ∨ L2.rIxT K (.ref l) (.int i) H Q :=
  h.elim (fun h => .inl ⟨l, xs, i, v, rfl, rfl, h, e, q⟩) fun h => .inr ⟨l, xs, i, v, rfl, rfl, h, e, q⟩
end
end Sq
namespace Sq.N4
open PySem L2 TL
theorem edge_codes : ∀ a : _root_.Fin 18, (∀ c ∈ tl (edge a.val), c < 128) ∧ 10 ∉ tl (edge a.val) := by decide +kernel
theorem row_codes {a b : Nat} (d : Nat) (ha : a < 18) (hb : b < 18) : (∀ c ∈ tl (rowOf a b d), c < 128) ∧ 10 ∉ tl (rowOf a b d) := by
  have e : tl (rowOf a b d) = tl (edge a) ++ tl (" to " : Str) ++ tl (edge b) ++ tl (if decide (d = 1) = true then (" down" : Str) else "") := by
    unfold rowOf walkS
    rw [tl_append, tl_append, tl_append]
  have k1 : (∀ c ∈ tl (" to " : Str), c < 128) ∧ 10 ∉ tl (" to " : Str) := by decide +kernel
  have k2 : (∀ c ∈ tl (if decide (d = 1) = true then (" down" : Str) else ""), c < 128) ∧ 10 ∉ tl (if decide (d = 1) = true then (" down" : Str) else "") := by split <;> decide +kernel
  have k3 := edge_codes ⟨a, ha⟩
  have k4 := edge_codes ⟨b, hb⟩
  rw [e]
  refine ⟨fun c hc => ?_, fun hc => ?_⟩
  · rw [List.mem_append, List.mem_append, List.mem_append] at hc
    rcases hc with ((h | h) | h) | h
    · exact k3.1 c h
    · exact k1.1 c h
    · exact k4.1 c h
    · exact k2.1 c h
  · rw [List.mem_append, List.mem_append, List.mem_append] at hc
    rcases hc with ((h | h) | h) | h
    · exact k3.2 h
    · exact k1.2 h
    · exact k4.2 h
    · exact k2.2 h
theorem nestT_of {a b a2 b2 : Nat} (d d2 : Nat) {ds : List Str} (ha : a < 12) (hb : b < 12) (ha2 : a2 < 18) (hb2 : b2 < 18) (hl : ds.length ≤ 6) (hd : ∀ x ∈ ds, DeedRow x) : NestT (rowOf a b d, rowOf a2 b2 d2, ds) :=
  ⟨row_len d (by omega) (by omega), row_len d2 ha2 hb2, (row_codes d (by omega) (by omega)).1, (row_codes d2 ha2 hb2).1, (row_codes d (by omega) (by omega)).2, (row_codes d2 ha2 hb2).2, row_outer d ha hb, row_inner d2 ha2 hb2, hl, hd⟩
abbrev Act3 := Nat × List Nat × Option (Nat × Nat × Nat)
structure Part where
  o : Nat × Nat × Nat
  u : Nat × Nat × Nat
  acts : List Act3
def Part.nest (q : Part) : NestD := (rowOf q.o.1 q.o.2.1 q.o.2.2, rowOf q.u.1 q.u.2.1 q.u.2.2, q.acts.map fun x => actS x.1 x.2.1 x.2.2)
structure PartOk (q : Part) : Prop where
  o1 : q.o.1 < 12
  o2 : q.o.2.1 < 12
  u1 : q.u.1 < 18
  u2 : q.u.2.1 < 18
  al : q.acts.length ≤ 6
  ok : ∀ x ∈ q.acts, ActOk x.1 x.2.1 x.2.2
theorem PartOk.nest {q : Part} (h : PartOk q) : NestT q.nest :=
  nestT_of _ _ h.o1 h.o2 h.u1 h.u2 (by rw [List.length_map]; exact h.al) fun d hd => by
    obtain ⟨x, hx, rfl⟩ := List.mem_map.mp hd
    exact act_deed (h.ok x hx)
end Sq.N4
namespace Sq
open PySem L2 TL
/-! ### the bounds of a nest at a size, where it falls, how many rounds it has -/
structure Span where
  a : Int
  b : Int
  l : Int
  ls : Int
  h : Int
  hs : Int
def pt (k n : Int) : Int := if k = 0 then 0 else if k = 1 then n else if k = 2 then n / 2 else (n + 1) / 2
def bt (i : Nat) : Int × Int × Int := (btab.getD i ("", 0, 0, 0)).2
/-- a bound's value -/
def bv (i : Nat) (n j : Int) : Int := pt (bt i).1 n + (bt i).2.2 + (bt i).2.1 * j
def spanB (t1 t2 u1 u2 : Int × Int × Int) (n : Int) : Span := ⟨pt t1.1 n + t1.2.2, pt t2.1 n + t2.2.2, pt u1.1 n + u1.2.2, u1.2.1, pt u2.1 n + u2.2.2, u2.2.1⟩
def Unit3 (s : Int) : Prop := s = -1 ∨ s = 0 ∨ s = 1
structure Span.Ok (S : Span) : Prop where
  l : Unit3 S.ls
  h : Unit3 S.hs
def nar (f e w st : Int) : Int × Int := if 0 < st then (if -(w / st) > f then -(w / st) else f, e) else if st < 0 then (f, if w / -st + 1 < e then w / -st + 1 else e) else (f, if 0 ≤ w then e else f)
theorem nar_spec (f e w st : Int) (h : -2 ≤ st) (h' : st ≤ 2) : ∀ i, ((nar f e w st).1 ≤ i ∧ i < (nar f e w st).2) ↔ (f ≤ i ∧ i < e ∧ 0 ≤ w + st * i) := by
  intro i
  rcases (show st = -2 ∨ st = -1 ∨ st = 0 ∨ st = 1 ∨ st = 2 by omega) with e1 | e1 | e1 | e1 | e1 <;> subst e1
  · unfold nar
    rw [if_neg (by decide), if_pos (by decide)]
    show f ≤ i ∧ i < (if w / 2 + 1 < e then w / 2 + 1 else e) ↔ _
    split <;> omega
  · unfold nar
    rw [if_neg (by decide), if_pos (by decide)]
    show f ≤ i ∧ i < (if w / 1 + 1 < e then w / 1 + 1 else e) ↔ _
    split <;> omega
  · unfold nar
    rw [if_neg (by decide), if_neg (by decide)]
    show f ≤ i ∧ i < (if 0 ≤ w then e else f) ↔ _
    split <;> omega
  · unfold nar
    rw [if_pos (by decide)]
    show (if -(w / 1) > f then -(w / 1) else f) ≤ i ∧ i < e ↔ _
    split <;> omega
  · unfold nar
    rw [if_pos (by decide)]
    show (if -(w / 2) > f then -(w / 2) else f) ≤ i ∧ i < e ↔ _
    split <;> omega
def Span.ends (S : Span) : Int × Int := nar S.a S.b (S.h - S.l - 1) (S.hs - S.ls)
theorem Span.ends_spec {S : Span} (ok : S.Ok) (i : Int) : (S.ends.1 ≤ i ∧ i < S.ends.2) ↔ (S.a ≤ i ∧ i < S.b ∧ S.l + S.ls * i < S.h + S.hs * i) := by
  have h1 := ok.l
  have h2 := ok.h
  unfold Span.ends
  rw [nar_spec _ _ _ _ (by unfold Unit3 at h1 h2; omega) (by unfold Unit3 at h1 h2; omega)]
  rcases h1 with e | e | e <;> rcases h2 with e' | e' | e' <;> rw [e, e'] <;> omega
/-- whether a round leaves the table, as the program asks it -/
def fallsB (S : Span) (n : Int) : Bool := decide (S.ends.1 ≤ S.ends.2 - 1) && (decide (S.ends.1 < 0) || (decide (S.ends.2 - 1 ≥ n) || (decide (S.l + S.ls * S.ends.1 < 0) || (decide (S.l + S.ls * (S.ends.2 - 1) < 0) || (decide (S.h + S.hs * S.ends.1 > n) || decide (S.h + S.hs * (S.ends.2 - 1) > n))))))
/-- whether one does -/
def Leaves (S : Span) (n : Int) : Prop := ∃ i, S.a ≤ i ∧ i < S.b ∧ S.l + S.ls * i < S.h + S.hs * i ∧ (i < 0 ∨ S.l + S.ls * i < 0 ∨ n ≤ i ∨ n < S.h + S.hs * i)
theorem falls_iff {S : Span} (ok : S.Ok) (n : Int) : fallsB S n = true ↔ Leaves S n := by
  have sp := S.ends_spec ok
  have h1 := ok.l
  have h2 := ok.h
  unfold fallsB Leaves
  simp only [Bool.and_eq_true, Bool.or_eq_true, decide_eq_true_eq]
  generalize S.ends.1 = f at *
  generalize S.ends.2 = e at *
  constructor
  · rintro ⟨hf, hb⟩
    have s1 := (sp f).mp ⟨Int.le_refl _, by omega⟩
    have s2 := (sp (e - 1)).mp ⟨by omega, by omega⟩
    rcases hb with h | h | h | h | h | h
    · exact ⟨f, s1.1, s1.2.1, s1.2.2, .inl h⟩
    · exact ⟨e - 1, s2.1, s2.2.1, s2.2.2, .inr (.inr (.inl h))⟩
    · exact ⟨f, s1.1, s1.2.1, s1.2.2, .inr (.inl h)⟩
    · exact ⟨e - 1, s2.1, s2.2.1, s2.2.2, .inr (.inl h)⟩
    · exact ⟨f, s1.1, s1.2.1, s1.2.2, .inr (.inr (.inr h))⟩
    · exact ⟨e - 1, s2.1, s2.2.1, s2.2.2, .inr (.inr (.inr h))⟩
  · rintro ⟨i, a1, a2, a3, a4⟩
    have s := (sp i).mpr ⟨a1, a2, a3⟩
    refine ⟨by omega, ?_⟩
    rcases h1 with e1 | e1 | e1 <;> rcases h2 with e2 | e2 | e2 <;> rw [e1] at a4 ⊢ <;> rw [e2] at a4 ⊢ <;> omega
/-! ### how many -/
def upSum (g : Int → Int) (a : Int) : Nat → Nat
  | 0 => 0
  | m + 1 => upSum g a m + (g (a + m)).toNat
theorem up_zero {g : Int → Int} {a : Int} : ∀ m : Nat, (∀ k : Nat, k < m → g (a + k) ≤ 0) → upSum g a m = 0
  | 0, _ => rfl
  | m + 1, h => by
    have h1 := h m (Nat.lt_succ_self _)
    show upSum g a m + (g (a + m)).toNat = 0
    rw [up_zero m fun k hk => h k (Nat.lt_succ_of_lt hk)]
    omega
theorem up_add (g : Int → Int) (a : Int) (m : Nat) : ∀ k : Nat, upSum g a (m + k) = upSum g a m + upSum g (a + m) k
  | 0 => rfl
  | k + 1 => by
    show upSum g a (m + k) + (g (a + (m + k : Nat))).toNat = upSum g a m + (upSum g (a + m) k + (g (a + m + k)).toNat)
    rw [up_add g a m k, show a + (m + k : Nat) = a + m + k by omega]
    omega
theorem up_line (w st a : Int) : ∀ m : Nat, (∀ k : Nat, k < m → 0 ≤ w + st * (a + k)) → 2 * (upSum (fun i => w + st * i) a m : Int) = m * (w + st * a + (w + st * (a + m - 1)))
  | 0, _ => by simp [upSum]
  | m + 1, h => by
    have h1 := h m (Nat.lt_succ_self _)
    have ih := up_line w st a m fun k hk => h k (Nat.lt_succ_of_lt hk)
    show 2 * (((upSum (fun i => w + st * i) a m + (w + st * (a + m)).toNat : Nat)) : Int) = _
    rw [Int.natCast_add, Int.toNat_of_nonneg h1, Int.mul_add, ih]
    have e1 : st * (a + m - 1) = st * a + st * m - st := by rw [Int.mul_sub, Int.mul_add, Int.mul_one]
    have e2 : st * (a + ((m + 1 : Nat) : Int) - 1) = st * a + st * m := by
      rw [show a + ((m + 1 : Nat) : Int) - 1 = a + m by omega, Int.mul_add]
    have e3 : st * (a + (m : Int)) = st * a + st * m := Int.mul_add ..
    rw [e1, e2, e3, show (((m + 1 : Nat)) : Int) = (m : Int) + 1 by omega, Int.add_mul, Int.one_mul]
    have e4 : (m : Int) * (w + st * a + (w + (st * a + st * m - st))) = (m : Int) * (w + st * a + (w + (st * a + st * m))) - st * m := by
      rw [show w + st * a + (w + (st * a + st * m - st)) = w + st * a + (w + (st * a + st * m)) - st by omega, Int.mul_sub, Int.mul_comm (m : Int) st]
    rw [e4]
    omega
/-- the number of rounds, as the program works it out -/
def cntS (S : Span) : Int := if S.ends.1 ≥ S.ends.2 then 0 else ((S.ends.2 - S.ends.1) * (S.h - S.l + (S.hs - S.ls) * S.ends.1 + (S.h - S.l) + (S.hs - S.ls) * (S.ends.2 - 1))) / 2
/-- and one by one -/
def totS (S : Span) : Nat := upSum (fun i => S.h + S.hs * i - (S.l + S.ls * i)) S.a (S.b - S.a).toNat
theorem cnt_tot {S : Span} (ok : S.Ok) : cntS S = (totS S : Int) := by
  have sp := S.ends_spec ok
  have eg : (fun i => S.h + S.hs * i - (S.l + S.ls * i)) = fun i => (S.h - S.l) + (S.hs - S.ls) * i := by
    funext i
    rw [Int.sub_mul]
    omega
  unfold cntS totS
  rw [eg]
  have sp : ∀ i, (S.ends.1 ≤ i ∧ i < S.ends.2) ↔ (S.a ≤ i ∧ i < S.b ∧ 0 < (S.h - S.l) + (S.hs - S.ls) * i) := fun i => by
    rw [sp i, Int.sub_mul]
    omega
  generalize S.ends.1 = f at *
  generalize S.ends.2 = e at *
  generalize S.h - S.l = w at *
  generalize S.hs - S.ls = st at *
  by_cases hfe : f ≥ e
  · rw [if_pos hfe, up_zero]
    · rfl
    · intro k hk
      apply Classical.byContradiction
      intro hc
      have := (sp (S.a + k)).mpr ⟨by omega, by omega, by omega⟩
      omega
  · rw [if_neg hfe]
    have f1 := (sp f).mp ⟨Int.le_refl _, by omega⟩
    have e1 := (sp (e - 1)).mp ⟨by omega, by omega⟩
    obtain ⟨m1, hm1⟩ : ∃ m1 : Nat, f = S.a + m1 := ⟨(f - S.a).toNat, by omega⟩
    obtain ⟨m2, hm2⟩ : ∃ m2 : Nat, e = f + m2 := ⟨(e - f).toNat, by omega⟩
    obtain ⟨m3, hm3⟩ : ∃ m3 : Nat, S.b = e + m3 := ⟨(S.b - e).toNat, by omega⟩
    rw [show (S.b - S.a).toNat = m1 + (m2 + m3) by omega, up_add, up_add, ← hm1, show f + (m2 : Int) = e from hm2.symm]
    rw [up_zero m1 fun k hk => Int.not_lt.mp fun hc => by have := (sp (S.a + k)).mpr ⟨by omega, by omega, hc⟩; omega]
    rw [up_zero m3 fun k hk => Int.not_lt.mp fun hc => by have := (sp (e + k)).mpr ⟨by omega, by omega, hc⟩; omega]
    have ln := up_line w st f m2 fun k hk => Int.le_of_lt ((sp (f + k)).mp ⟨by omega, by omega⟩).2.2
    rw [show f + (m2 : Int) - 1 = e - 1 by omega] at ln
    rw [show e - f = (m2 : Int) by omega, show w + st * f + w + st * (e - 1) = w + st * f + (w + st * (e - 1)) by omega, ← ln]
    omega
end Sq
namespace Sq
open PySem L2
/-! ### numbers of orbits -/
def big : Int := 1000000000000000000000000000000
def leastN (a b c : Int) : Int := 2 * a + 2 * b + c + 1
def waysN (p : Nat) (t : Int) : Int := if p = 0 then (if t = 0 then 1 else 0) else if p = 1 then 1 else if p = 2 then t + 1 else (t + 1) * (t + 2) / 2
def openN (a b : Int) : Nat := [decide (a = 1), decide (b = 2)].count true
def grpN (n a b c : Int) : Int := if n - leastN a b c < 0 then 0 else if c = 3 then waysN (openN a b + 1) ((n - leastN a b c) / 2) else if (n - leastN a b c) % 2 = 0 then waysN (openN a b) ((n - leastN a b c) / 2) else 0
def imgN (b c : Int) : Int := if b = 0 ∧ c = 0 then 1 else if b = 0 ∨ c = 0 then 4 else 8
def cntN (n a b c : Int) : Int := grpN n a b c * imgN b c
theorem openN_le (a b : Int) : openN a b ≤ 2 := by
  unfold openN
  exact Nat.le_trans List.count_le_length (by simp)
/-! ### what the functions promise -/
def spWhole : Sp := fun vs H Q _ => ∃ n : Int, vs = [.int n] ∧ Q (.bl true) H
def spWithin : Sp := fun vs H Q _ => ∃ n a b : Int, vs = [.int n, .int a, .int b] ∧ Q (.bl (decide (a ≤ n) && decide (n ≤ b))) H
def spSize : Sp := fun vs H Q _ => ∃ n : Int, vs = [.int n] ∧ 1 ≤ n ∧ n ≤ big ∧ Q .non H
def KindAt (H : Hp) (t : Addr) (a b c : Int) : Prop := H t = some (.tup [.int a, .int b, .int c])
def KindR (a b c : Int) : Prop := (0 ≤ a ∧ a ≤ 1) ∧ (0 ≤ b ∧ b ≤ 2) ∧ (0 ≤ c ∧ c ≤ 3)
def spIsKind : Sp := fun vs H Q _ => ∃ (t : Addr) (a b c : Int), vs = [.ref t] ∧ KindAt H t a b c ∧ KindR a b c ∧ Q (.bl true) H
def spLeast : Sp := fun vs H Q _ => ∃ (t : Addr) (a b c : Int), vs = [.ref t] ∧ KindAt H t a b c ∧ Q (.int (leastN a b c)) H
def spImgN : Sp := fun vs H Q _ => ∃ (t : Addr) (a b c : Int), vs = [.ref t] ∧ KindAt H t a b c ∧ Q (.int (imgN b c)) H
def spWays : Sp := fun vs H Q _ => ∃ (p : Nat) (t : Int), vs = [.int (p : Int), .int t] ∧ 0 ≤ t ∧ t ≤ big ∧ Q (.int (waysN p t)) H
def spGroup : Sp := fun vs H Q _ => ∃ (n : Int) (t : Addr) (a b c : Int), vs = [.int n, .ref t] ∧ KindAt H t a b c ∧ KindR a b c ∧ n ≤ big ∧ ∀ H', Same H H' → Q (.int (grpN n a b c)) H'
def spCount : Sp := fun vs H Q _ => ∃ (n : Int) (t : Addr) (a b c : Int), vs = [.int n, .ref t] ∧ KindAt H t a b c ∧ KindR a b c ∧ 1 ≤ n ∧ n ≤ big ∧ ∀ H', Same H H' → Q (.int (cntN n a b c)) H'
end Sq
namespace Sq.N4
open PySem L2 TL
section
variable {P : Program} {w : World} {K : PySem.W.Frag} {mg : Str → Option Value} {base : Heap}
def spanV (S : Span) : List V := [.int S.a, .int S.b, .int S.l, .int S.ls, .int S.h, .int S.hs]
def BtOk (t : Int × Int × Int) : Prop := (0 ≤ t.1 ∧ t.1 ≤ 3) ∧ Unit3 t.2.1 ∧ Unit3 t.2.2
theorem btab_ok : ∀ q ∈ btab, (0 ≤ q.2.1 ∧ q.2.1 ≤ 3) ∧ (q.2.2.1 = -1 ∨ q.2.2.1 = 0 ∨ q.2.2.1 = 1) ∧ (q.2.2.2 = -1 ∨ q.2.2.2 = 0 ∨ q.2.2.2 = 1) := by decide +kernel
theorem pt_at {k : Int} (n : Int) (h : 0 ≤ k) (h' : k ≤ 3) : atI [V.int 0, .int n, .int (n / 2), .int ((n + 1) / 2)] k = some (.int (pt k n)) := by
  rcases (show k = 0 ∨ k = 1 ∨ k = 2 ∨ k = 3 by omega) with e | e | e | e <;> subst e <;> rfl
def spParts : Sp := fun vs H Q _ => ∃ n : Int, vs = [.int n] ∧ ∀ p, H p = none → Q (.ref p) (upd H p (.tup [.int 0, .int n, .int (n / 2), .int ((n + 1) / 2)]))
def spSpanAt (K : PySem.W.Frag) : Sp := fun vs H Q _ => ∃ (bp a1 a2 b1 b2 : Addr) (t1 t2 u1 u2 : Int × Int × Int) (n : Int), vs = [.ref bp, .int n] ∧ H bp = some (.tup [.ref a1, .ref a2, .ref b1, .ref b2]) ∧ Bd K a1 t1 ∧ Bd K a2 t2 ∧ Bd K b1 u1 ∧ Bd K b2 u2 ∧
  BtOk t1 ∧ BtOk t2 ∧ BtOk u1 ∧ BtOk u2 ∧ ∀ p H', H p = none → Same H H' → H' p = some (.tup (spanV (spanB t1 t2 u1 u2 n))) → Q (.ref p) H'
def spNar : Sp := fun vs H Q _ => ∃ f e w st : Int, vs = [.int f, .int e, .int w, .int st] ∧ -2 ≤ st ∧ st ≤ 2 ∧ ∀ p, H p = none → Q (.ref p) (upd H p (.tup [.int (nar f e w st).1, .int (nar f e w st).2]))
def spFallsW : Sp := fun vs H Q _ => ∃ (p : Addr) (S : Span) (n : Int), vs = [.ref p, .int n] ∧ H p = some (.tup (spanV S)) ∧ S.Ok ∧ ∀ H', Same H H' → Q (.bl (fallsB S n)) H'
/-- no number of it is out of all bounds -/
structure SpLe (S : Span) : Prop where
  a1 : -big - 10 ≤ S.a
  a2 : S.a ≤ big + 10
  b1 : -big - 10 ≤ S.b
  b2 : S.b ≤ big + 10
  l1 : -big - 10 ≤ S.l
  l2 : S.l ≤ big + 10
  h1 : -big - 10 ≤ S.h
  h2 : S.h ≤ big + 10
def spCount : Sp := fun vs H Q _ => ∃ (p : Addr) (S : Span), vs = [.ref p] ∧ H p = some (.tup (spanV S)) ∧ S.Ok ∧ SpLe S ∧ ∀ H', Same H H' → Q (.int (cntS S)) H'
theorem span_ok {t1 t2 u1 u2 : Int × Int × Int} (n : Int) (h1 : BtOk u1) (h2 : BtOk u2) : (spanB t1 t2 u1 u2 n).Ok := ⟨h1.2.1, h2.2.1⟩
theorem pt_le {k n : Int} (h1 : 0 ≤ n) (h2 : n ≤ big) : 0 ≤ pt k n ∧ pt k n ≤ big + 1 := by
  unfold pt
  generalize big = bg at *
  split <;> (try split) <;> (try split) <;> omega
theorem span_le {t1 t2 u1 u2 : Int × Int × Int} {n : Int} (h0 : 0 ≤ n) (hn : n ≤ big) (k1 : BtOk t1) (k2 : BtOk t2) (k3 : BtOk u1) (k4 : BtOk u2) : SpLe (spanB t1 t2 u1 u2 n) := by
  have p1 := pt_le (k := t1.1) h0 hn
  have p2 := pt_le (k := t2.1) h0 hn
  have p3 := pt_le (k := u1.1) h0 hn
  have p4 := pt_le (k := u2.1) h0 hn
  have q1 := k1.2.2
  have q2 := k2.2.2
  have q3 := k3.2.2
  have q4 := k4.2.2
  unfold Unit3 at q1 q2 q3 q4
  have bb : (0:Int) ≤ big := by decide
  clear h0 hn k1 k2 k3 k4
  unfold spanB
  generalize pt t1.1 n = x1 at *
  generalize pt t2.1 n = x2 at *
  generalize pt u1.1 n = x3 at *
  generalize pt u2.1 n = x4 at *
  generalize t1.2.2 = y1 at *
  generalize t2.2.2 = y2 at *
  generalize u1.2.2 = y3 at *
  generalize u2.2.2 = y4 at *
  constructor <;> dsimp only <;> generalize big = bg at * <;> omega
theorem ends_le {S : Span} (ok : S.Ok) (le : SpLe S) (h : ¬ S.ends.1 ≥ S.ends.2) : S.a ≤ S.ends.1 ∧ S.ends.2 ≤ S.b := by
  have sp := S.ends_spec ok
  have s1 := (sp S.ends.1).mp ⟨Int.le_refl _, by omega⟩
  have s2 := (sp (S.ends.2 - 1)).mp ⟨by omega, by omega⟩
  omega
abbrev s_parts_at : Stmt := top 17
theorem sc_parts_at : FnScope ["size"] ["size"] (defScope s_parts_at) := ⟨rfl, rfl, rfl, by decide +kernel, rfl, by decide +kernel, by decide +kernel⟩
theorem ok_parts_at {f : Addr} {fd : FuncData} (F : Fun K "parts_at" "parts_at" s_parts_at f fd) (T : Bt mg)  : FnOk P w K mg base CX0 1 f fd ["size"] spParts := by
  refine F.ok sc_parts_at (fun vs H Q E h => ?_) (fun cdv A outer s H vs Q E hr h => ?_)
  · obtain ⟨n, rfl, _⟩ := h
    rfl
  · obtain ⟨n, rfl, q⟩ := h
    refine ⟨_, (pss_one (ps_ret (pe_tup (pa_cons pe_int (pa_cons (pv 0) (pa_cons (pe_op op_fdiv (pv 0) pe_int) (pa_cons (pe_op op_fdiv (pe_op op_add (pv 0) pe_int) pe_int) pa_nil))))))), ?_⟩
    refine ⟨_, rfl, _, rfl, _, _, rfl, rfl, ⟨by decide, by decide⟩, _, rfl, _, _, rfl, rfl, _, _, rfl, rfl, ⟨by decide, by decide⟩, ?_⟩
    exact ⟨by show 4 ≤ sizeLine; decide, fun p np => q p np⟩
abbrev s_spans_at : Stmt := top 18
theorem sc_spans_at : FnScope ["bounds", "size", "parts", "start", "_", "more", "stop", "above", "low", "low_steps", "least", "high", "high_steps", "most"] ["bounds", "size"] (defScope s_spans_at) := ⟨rfl, rfl, rfl, by decide +kernel, rfl, by decide +kernel, by decide +kernel⟩
theorem ok_spans_at {f : Addr} {fd : FuncData} (F : Fun K "spans_at" "spans_at" s_spans_at f fd) (T : Bt mg) (G_parts_at : FB P w K mg base "parts_at" 1 ["size"] spParts) : FnOk P w K mg base CX0 2 f fd ["bounds", "size"] (spSpanAt K) := by
  refine F.ok sc_spans_at (fun vs H Q E h => ?_) (fun cdv A outer s H vs Q E hr h => ?_)
  · obtain ⟨bp, a1, a2, b1, b2, t1, t2, u1, u2, n, rfl, _⟩ := h
    rfl
  · obtain ⟨bp, a1, a2, b1, b2, t1, t2, u1, u2, n, rfl, hb, k1, k2, k3, k4, o1, o2, o3, o4, q⟩ := h
    refine ⟨_, (pss_cons (ps_set (i := 2) sc_spans_at.nd rfl (by first | exact .inl rfl | exact .inr rfl) (pe_fb G_parts_at hr (by decide) (by rfl) (pa_cons (pv 1) pa_nil)))
        (pss_cons (ps_asg (pv 0) (pg_tup (by rfl) (pgs_cons (pg_tup (by rfl) (pgs_cons (pg_name (i := 3) sc_spans_at.nd rfl (by first | exact .inl rfl | exact .inr rfl)) (pgs_cons (pg_name (i := 4) sc_spans_at.nd rfl (by first | exact .inl rfl | exact .inr rfl)) (pgs_cons (pg_name (i := 5) sc_spans_at.nd rfl (by first | exact .inl rfl | exact .inr rfl)) pgs_nil)))) (pgs_cons (pg_tup (by rfl) (pgs_cons (pg_name (i := 6) sc_spans_at.nd rfl (by first | exact .inl rfl | exact .inr rfl)) (pgs_cons (pg_name (i := 4) sc_spans_at.nd rfl (by first | exact .inl rfl | exact .inr rfl)) (pgs_cons (pg_name (i := 7) sc_spans_at.nd rfl (by first | exact .inl rfl | exact .inr rfl)) pgs_nil)))) (pgs_cons (pg_tup (by rfl) (pgs_cons (pg_name (i := 8) sc_spans_at.nd rfl (by first | exact .inl rfl | exact .inr rfl)) (pgs_cons (pg_name (i := 9) sc_spans_at.nd rfl (by first | exact .inl rfl | exact .inr rfl)) (pgs_cons (pg_name (i := 10) sc_spans_at.nd rfl (by first | exact .inl rfl | exact .inr rfl)) pgs_nil)))) (pgs_cons (pg_tup (by rfl) (pgs_cons (pg_name (i := 11) sc_spans_at.nd rfl (by first | exact .inl rfl | exact .inr rfl)) (pgs_cons (pg_name (i := 12) sc_spans_at.nd rfl (by first | exact .inl rfl | exact .inr rfl)) (pgs_cons (pg_name (i := 13) sc_spans_at.nd rfl (by first | exact .inl rfl | exact .inr rfl)) pgs_nil)))) pgs_nil))))))
        (pss_one (ps_ret (pe_tup (pa_cons (pe_op op_add (pe_ix ix_tup (pv 2) (pv 3) (fun _ _ => rfl)) (pv 5)) (pa_cons (pe_op op_add (pe_ix ix_tup (pv 2) (pv 6) (fun _ _ => rfl)) (pv 7)) (pa_cons (pe_op op_add (pe_ix ix_tup (pv 2) (pv 8) (fun _ _ => rfl)) (pv 10)) (pa_cons (pv 9) (pa_cons (pe_op op_add (pe_ix ix_tup (pv 2) (pv 11) (fun _ _ => rfl)) (pv 13)) (pa_cons (pv 12) pa_nil))))))))))), ?_⟩
    refine ⟨_, rfl, n, rfl, fun pp npp => ?_⟩
    have s1 := same_new (o := .tup [V.int 0, .int n, .int (n / 2), .int ((n + 1) / 2)]) npp
    have hpp : (upd H pp (.tup [V.int 0, .int n, .int (n / 2), .int ((n + 1) / 2)])) pp = some (.tup [V.int 0, .int n, .int (n / 2), .int ((n + 1) / 2)]) := upd_same
    refine ⟨_, rfl, bp, _, rfl, SqT.of (s1 _ _ hb), rfl, ?_⟩
    refine ⟨_, _, rfl, a1, _, rfl, k1 _, rfl, _, _, rfl, _, _, rfl, _, _, rfl, rfl, ?_⟩
    refine ⟨_, _, rfl, a2, _, rfl, k2 _, rfl, _, _, rfl, _, _, rfl, _, _, rfl, rfl, ?_⟩
    refine ⟨_, _, rfl, b1, _, rfl, k3 _, rfl, _, _, rfl, _, _, rfl, _, _, rfl, rfl, ?_⟩
    refine ⟨_, _, rfl, b2, _, rfl, k4 _, rfl, _, _, rfl, _, _, rfl, _, _, rfl, rfl, rfl, ?_⟩
    simp only [L2.start, List.map_cons, List.map_nil, List.length_cons, List.length_nil, Nat.reduceAdd, Nat.reduceSub, List.replicate_succ, List.replicate_zero, List.cons_append, List.nil_append, List.set_cons_zero, List.set_cons_succ]
    refine ⟨_, rfl, _, rfl, pp, [V.int 0, .int n, .int (n / 2), .int ((n + 1) / 2)], t1.1, .int (pt t1.1 n), rfl, rfl, SqT.of hpp, pt_at n o1.1.1 o1.1.2, _, rfl, _, _, rfl, rfl, ?_⟩
    refine ⟨_, rfl, _, rfl, pp, [V.int 0, .int n, .int (n / 2), .int ((n + 1) / 2)], t2.1, .int (pt t2.1 n), rfl, rfl, SqT.of hpp, pt_at n o2.1.1 o2.1.2, _, rfl, _, _, rfl, rfl, ?_⟩
    refine ⟨_, rfl, _, rfl, pp, [V.int 0, .int n, .int (n / 2), .int ((n + 1) / 2)], u1.1, .int (pt u1.1 n), rfl, rfl, SqT.of hpp, pt_at n o3.1.1 o3.1.2, _, rfl, _, _, rfl, rfl, _, rfl, ?_⟩
    refine ⟨_, rfl, _, rfl, pp, [V.int 0, .int n, .int (n / 2), .int ((n + 1) / 2)], u2.1, .int (pt u2.1 n), rfl, rfl, SqT.of hpp, pt_at n o4.1.1 o4.1.2, _, rfl, _, _, rfl, rfl, _, rfl, ?_⟩
    refine ⟨by show 6 ≤ sizeLine; decide, fun p np => ?_⟩
    have s2 := same_new (o := .tup (spanV (spanB t1 t2 u1 u2 n))) np
    refine q p _ ?_ (s1.trans s2) upd_same
    cases e : H p with
    | none => rfl
    | some y => rw [s1 _ _ e] at np; cases np
abbrev s_narrowed : Stmt := top 19
theorem sc_narrowed : FnScope ["first", "end", "least", "steps"] ["first", "end", "least", "steps"] (defScope s_narrowed) := ⟨rfl, rfl, rfl, by decide +kernel, rfl, by decide +kernel, by decide +kernel⟩
theorem ok_narrowed {f : Addr} {fd : FuncData} (F : Fun K "narrowed" "narrowed" s_narrowed f fd) (T : Bt mg)  : FnOk P w K mg base CX0 1 f fd ["first", "end", "least", "steps"] spNar := by
  refine F.ok sc_narrowed (fun vs H Q E h => ?_) (fun cdv A outer s H vs Q E hr h => ?_)
  · obtain ⟨f0, e0, w0, st, rfl, _⟩ := h
    rfl
  · obtain ⟨f0, e0, w0, st, rfl, h1, h2, q⟩ := h
    refine ⟨_, (pss_cons (ps_if (pt_cmpR op_gt (pv 3) pe_int (nomark _))
        (pss_one (ps_ret (pe_tup (pa_cons (pe_callB (call_max2 rfl) (by rfl) T.max (by decide +kernel) (pa_cons (pv 0) (pa_cons (pe_un un_neg (pe_op op_fdiv (pv 2) (pv 3))) pa_nil))) (pa_cons (pv 1) pa_nil)))))
        pss_nil)
        (pss_cons (ps_if (pt_cmpR op_lt (pv 3) pe_int (nomark _))
        (pss_one (ps_ret (pe_tup (pa_cons (pv 0) (pa_cons (pe_callB (call_min2 rfl) (by rfl) T.min (by decide +kernel) (pa_cons (pv 1) (pa_cons (pe_op op_add (pe_op op_fdiv (pv 2) (pe_un un_neg (pv 3))) pe_int) pa_nil))) pa_nil)))))
        pss_nil)
        (pss_one (ps_ret (pe_tup (pa_cons (pv 0) (pa_cons (pe_ifExp (pt_cmpR op_ge (pv 2) pe_int (nomark _)) (pv 1) (pv 0)) pa_nil))))))), ?_⟩
    refine ⟨_, rfl, _, _, rfl, rfl, decide (st > 0), rfl, ?_⟩
    unfold nar at q
    by_cases c1 : 0 < st
    · rw [decide_eq_true (show st > 0 from c1)]
      rw [if_pos c1] at q
      refine iteT ?_
      refine ⟨_, rfl, _, rfl, _, rfl, _, _, rfl, rfl, ⟨c1, by omega⟩, _, rfl, _, _, rfl, _, rfl, ?_⟩
      exact ⟨by show 2 ≤ sizeLine; decide, fun p np => q p np⟩
    · rw [decide_eq_false (show ¬ st > 0 from c1)]
      rw [if_neg c1] at q
      refine iteF ?_
      refine ⟨_, rfl, _, _, rfl, rfl, decide (st < 0), rfl, ?_⟩
      by_cases c2 : st < 0
      · rw [decide_eq_true c2]
        rw [if_pos c2] at q
        refine iteT ?_
        refine ⟨_, rfl, _, rfl, _, rfl, _, rfl, _, rfl, _, _, rfl, rfl, ⟨by omega, by omega⟩, _, _, rfl, rfl, _, _, rfl, ?_⟩
        exact ⟨by show 2 ≤ sizeLine; decide, fun p np => q p np⟩
      · rw [decide_eq_false c2]
        rw [if_neg c2] at q
        refine iteF ?_
        refine ⟨_, rfl, _, rfl, _, _, rfl, rfl, decide (w0 ≥ 0), rfl, ?_⟩
        by_cases c3 : 0 ≤ w0
        · rw [decide_eq_true (show w0 ≥ 0 from c3)]
          rw [if_pos c3] at q
          refine iteT ?_
          exact ⟨_, rfl, by show 2 ≤ sizeLine; decide, fun p np => q p np⟩
        · rw [decide_eq_false (show ¬ w0 ≥ 0 from c3)]
          rw [if_neg c3] at q
          refine iteF ?_
          exact ⟨_, rfl, by show 2 ≤ sizeLine; decide, fun p np => q p np⟩
end
end Sq.N4
namespace Sq.N4
open PySem L2 TL
section
variable {P : Program} {w : World} {K : PySem.W.Frag} {mg : Str → Option Value} {base : Heap}
def lim : Int := 10000000000000000000000000000000000000000
theorem cmW {i j : Int} (h1 : -(lim * lim * lim) ≤ i) (h2 : i ≤ lim * lim * lim) (h3 : -(lim * lim * lim) ≤ j) (h4 : j ≤ lim * lim * lim) : CMulW i j := by
  have e : lim * lim * lim < 2 ^ 500 := by decide +kernel
  have k : ∀ x : Int, -(lim * lim * lim) ≤ x → x ≤ lim * lim * lim → x.natAbs < 2 ^ 500 := fun x a b => by
    have : (x.natAbs : Int) < 2 ^ 500 := by
      generalize lim * lim * lim = l at *
      generalize (2 : Int) ^ 500 = p at *
      omega
    exact_mod_cast this
  exact wide_mul (k i h1 h2) (k j h3 h4) (by decide) (by decide) (by decide)
theorem lim_big : big + 10 ≤ lim := by decide +kernel
theorem lim_le : lim * 8 ≤ lim * lim * lim := by decide +kernel
theorem unit_mul {u x : Int} (h : Unit3 u) : u * x = -x ∨ u * x = 0 ∨ u * x = x := by
  rcases h with e | e | e <;> subst e <;> omega
theorem cmU {u x : Int} (h : Unit3 u) (h1 : -lim ≤ x) (h2 : x ≤ lim) : CMulW u x := by
  have l := lim_le
  unfold Unit3 at h
  have l0 : (1:Int) ≤ lim := by decide +kernel
  exact cmW (by omega) (by omega) (by omega) (by omega)
/-- the spans of a program's nests at a size -/
def spanOf (n : Int) (q : Part) : Span := spanB (bt q.o.1) (bt q.o.2.1) (bt q.u.1) (bt q.u.2.1) n
def SpansAt (H : Hp) (xs : List Addr) (Ss : List Span) : Prop := xs.length = Ss.length ∧ ∀ (i : Nat) (x : Addr) (S : Span), xs[i]? = some x → Ss[i]? = some S → H x = some (.tup (spanV S))
theorem SpansAt.ext {H H' : Hp} {xs : List Addr} {Ss : List Span} (h : SpansAt H xs Ss) (s : Same H H') : SpansAt H' xs Ss := ⟨h.1, fun i x S a b => s _ _ (h.2 i x S a b)⟩
/-- a program whose nests are drawn ones stands at a -/
def ProgQ (K : PySem.W.Frag) (CP C : Addr) (H : Hp) (a : Addr) (qs : List Part) : Prop := ProgAt K CP C H a (qs.map Part.nest) ∧ (∀ q ∈ qs, PartOk q) ∧ qs.length ≤ 6
theorem ProgQ.ext {K : PySem.W.Frag} {CP C : Addr} {H H' : Hp} {a : Addr} {qs : List Part} (e : Same H H') (h : ProgQ K CP C H a qs) : ProgQ K CP C H' a qs := ⟨h.1.ext e, h.2⟩
def spSpans (K : PySem.W.Frag) (CP C : Addr) : Sp := fun vs H Q _ => ∃ (a : Addr) (n : Int) (qs : List Part), vs = [.ref a, .int n] ∧ ProgQ K CP C H a qs ∧ ∀ H' D (xs : List Addr), H D = none → Same H H' → H' D = some (.lst (xs.map V.ref)) → SpansAt H' xs (qs.map (spanOf n)) → Q (.ref D) H'
def fallsQ (qs : List Part) (n : Int) : Bool := qs.any fun q => fallsB (spanOf n q) n
def spFallsAt (K : PySem.W.Frag) (CP C : Addr) : Sp := fun vs H Q _ => ∃ (a : Addr) (n : Int) (qs : List Part), vs = [.ref a, .int n] ∧ ProgQ K CP C H a qs ∧ 0 ≤ n ∧ n ≤ big ∧ ∀ H', Same H H' → Q (.bl (fallsQ qs n)) H'
theorem edge_tab : ∀ a : _root_.Fin 18, ∀ q ∈ btab, q.1 = edge a.val → q.2 = bt a.val := by decide +kernel
theorem bt_okF : ∀ a : _root_.Fin 18, (0 ≤ (bt a.val).1 ∧ (bt a.val).1 ≤ 3) ∧ ((bt a.val).2.1 = -1 ∨ (bt a.val).2.1 = 0 ∨ (bt a.val).2.1 = 1) ∧ ((bt a.val).2.2 = -1 ∨ (bt a.val).2.2 = 0 ∨ (bt a.val).2.2 = 1) := by decide +kernel
theorem bt_ok {a : Nat} (h : a < 18) : BtOk (bt a) := bt_okF ⟨a, h⟩
theorem loop_bt {a b d : Nat} {t1 t2 : Int × Int × Int} {e : Bool} (ha : a < 18) (hb : b < 18) (h : LoopR (rowOf a b d) t1 t2 e) : t1 = bt a ∧ t2 = bt b := by
  obtain ⟨w0, w2, m0, m2, hs⟩ := h.words
  rw [rowOf, walk_split (edge_plain ⟨a, ha⟩).1 (edge_plain ⟨b, hb⟩).1] at hs
  rw [List.cons_append, List.cons_append, List.cons_append, List.cons_append, List.cons_append, List.cons_append] at hs
  injection hs with e1 hs
  injection hs with _ hs
  injection hs with e2 _
  exact ⟨edge_tab ⟨a, ha⟩ _ m0 e1.symm, edge_tab ⟨b, hb⟩ _ m2 e2.symm⟩
theorem nest_bounds {C : Addr} {H : Hp} {a : Addr} {q : Part} (ok : PartOk q) (h : NestIs K C H a q.nest) : ∃ (dx dp bp a1 a2 b1 b2 : Addr) (R : Rd3), H a = some (.ins C dx (nfl q.nest.1 q.nest.2.1 dp R)) ∧ R.b = .ref bp ∧ H bp = some (.tup [.ref a1, .ref a2, .ref b1, .ref b2]) ∧
    Bd K a1 (bt q.o.1) ∧ Bd K a2 (bt q.o.2.1) ∧ Bd K b1 (bt q.u.1) ∧ Bd K b2 (bt q.u.2.1) := by
  obtain ⟨dx, dp, ⟨R, h1, bp, op, pp, a1, a2, b1, b2, t1, t2, u1, u2, d, e, qs, hR, hb, k1, k2, k3, k4, l1, l2, _, _⟩, _⟩ := h
  obtain ⟨e1, e2⟩ := loop_bt (Nat.lt_of_lt_of_le ok.o1 (by decide)) (Nat.lt_of_lt_of_le ok.o2 (by decide)) l1
  obtain ⟨e3, e4⟩ := loop_bt ok.u1 ok.u2 l2
  subst e1; subst e2; subst e3; subst e4
  exact ⟨dx, dp, bp, a1, a2, b1, b2, R, h1, by rw [hR], hb, k1, k2, k3, k4⟩
theorem span_okQ {q : Part} (ok : PartOk q) (n : Int) : (spanOf n q).Ok := span_ok n (bt_ok ok.u1) (bt_ok ok.u2)
theorem span_leQ {q : Part} (ok : PartOk q) {n : Int} (h0 : 0 ≤ n) (hn : n ≤ big) : SpLe (spanOf n q) := span_le h0 hn (bt_ok (Nat.lt_of_lt_of_le ok.o1 (by decide))) (bt_ok (Nat.lt_of_lt_of_le ok.o2 (by decide))) (bt_ok ok.u1) (bt_ok ok.u2)
def spFallsW2 : Sp := fun vs H Q _ => ∃ (p : Addr) (S : Span) (n : Int), vs = [.ref p, .int n] ∧ H p = some (.tup (spanV S)) ∧ S.Ok ∧ SpLe S ∧ ∀ H', Same H H' → Q (.bl (fallsB S n)) H'
theorem add_le {x y a b : Int} (h1 : -a ≤ x) (h2 : x ≤ a) (h3 : -b ≤ y) (h4 : y ≤ b) : -(a + b) ≤ x + y ∧ x + y ≤ a + b := by omega
/-- what the count multiplies is not out of all bounds -/
theorem cnt_le {S : Span} (ok : S.Ok) (le : SpLe S) (h : ¬ S.ends.1 ≥ S.ends.2) : CMulW (S.hs - S.ls) S.ends.1 ∧ CMulW (S.hs - S.ls) (S.ends.2 - 1) ∧ CMulW (S.ends.2 - S.ends.1) (S.h - S.l + (S.hs - S.ls) * S.ends.1 + (S.h - S.l) + (S.hs - S.ls) * (S.ends.2 - 1)) := by
  obtain ⟨e1, e2⟩ := ends_le ok le h
  obtain ⟨a1, a2, b1, b2, l1, l2, h1, h2⟩ := le
  have lb := lim_big
  have ll := lim_le
  have l0 : (1:Int) ≤ lim := by decide +kernel
  obtain ⟨u1, u2⟩ := ok
  have st : S.hs - S.ls = -2 ∨ S.hs - S.ls = -1 ∨ S.hs - S.ls = 0 ∨ S.hs - S.ls = 1 ∨ S.hs - S.ls = 2 := by unfold Unit3 at u1 u2; omega
  have mb : (0:Int) ≤ big := by decide
  generalize S.ends.1 = f at *
  generalize S.ends.2 = e at *
  generalize S.hs - S.ls = s at *
  have mul : ∀ x : Int, -lim ≤ x → x ≤ lim → -(2 * lim) ≤ s * x ∧ s * x ≤ 2 * lim := fun x h1 h2 => by
    rcases st with e | e | e | e | e <;> subst e <;> omega
  have m1 := mul f (by omega) (by omega)
  have m2 := mul (e - 1) (by omega) (by omega)
  refine ⟨cmW ?_ ?_ ?_ ?_, cmW ?_ ?_ ?_ ?_, cmW ?_ ?_ ?_ ?_⟩
  all_goals
    generalize lim * lim * lim = l3 at *
    generalize s * f = x1 at *
    generalize s * (e - 1) = x2 at *
    omega
abbrev s_falls_with : Stmt := top 46
theorem sc_falls_with : FnScope ["spans", "size", "start", "stop", "low", "low_steps", "high", "high_steps", "first", "end", "last"] ["spans", "size"] (defScope s_falls_with) := ⟨rfl, rfl, rfl, by decide +kernel, rfl, by decide +kernel, by decide +kernel⟩
theorem ok_falls_with {f : Addr} {fd : FuncData} (F : Fun K "falls_with" "falls_with" s_falls_with f fd) (T : Bt mg) (G_narrowed : FB P w K mg base "narrowed" 1 ["first", "end", "least", "steps"] spNar) : FnOk P w K mg base CX0 2 f fd ["spans", "size"] spFallsW2 := by
  refine F.ok sc_falls_with (fun vs H Q E h => ?_) (fun cdv A outer s H vs Q E hr h => ?_)
  · obtain ⟨p, S, n, rfl, _⟩ := h
    rfl
  · obtain ⟨p, S, n, rfl, hp, ok, le, q⟩ := h
    refine ⟨_, (pss_cons (ps_asg (pv 0) (pg_tup (by rfl) (pgs_cons (pg_name (i := 2) sc_falls_with.nd rfl (by first | exact .inl rfl | exact .inr rfl)) (pgs_cons (pg_name (i := 3) sc_falls_with.nd rfl (by first | exact .inl rfl | exact .inr rfl)) (pgs_cons (pg_name (i := 4) sc_falls_with.nd rfl (by first | exact .inl rfl | exact .inr rfl)) (pgs_cons (pg_name (i := 5) sc_falls_with.nd rfl (by first | exact .inl rfl | exact .inr rfl)) (pgs_cons (pg_name (i := 6) sc_falls_with.nd rfl (by first | exact .inl rfl | exact .inr rfl)) (pgs_cons (pg_name (i := 7) sc_falls_with.nd rfl (by first | exact .inl rfl | exact .inr rfl)) pgs_nil))))))))
        (pss_cons (ps_asg (pe_fb G_narrowed hr (by decide) (by rfl) (pa_cons (pv 2) (pa_cons (pv 3) (pa_cons (pe_op op_sub (pe_op op_sub (pv 6) (pv 4)) pe_int) (pa_cons (pe_op op_sub (pv 7) (pv 5)) pa_nil))))) (pg_tup (by rfl) (pgs_cons (pg_name (i := 8) sc_falls_with.nd rfl (by first | exact .inl rfl | exact .inr rfl)) (pgs_cons (pg_name (i := 9) sc_falls_with.nd rfl (by first | exact .inl rfl | exact .inr rfl)) pgs_nil))))
        (pss_cons (ps_set (i := 10) sc_falls_with.nd rfl (by first | exact .inl rfl | exact .inr rfl) (pe_op op_sub (pv 9) pe_int))
        (pss_one (ps_ret (pe_and (pe_cmpR op_le (pv 8) (pv 10) (nomark _))
            (pe_one (pe_or (pe_cmpR op_lt (pv 8) pe_int (nomark _))
            (pe_or (pe_cmpR op_ge (pv 10) (pv 1) (nomark _))
            (pe_or (pe_cmpR op_lt (pe_op op_add (pv 4) (pe_op op_mulW (pv 5) (pv 8))) pe_int (nomark _))
            (pe_or (pe_cmpR op_lt (pe_op op_add (pv 4) (pe_op op_mulW (pv 5) (pv 10))) pe_int (nomark _))
            (pe_or (pe_cmpR op_gt (pe_op op_add (pv 6) (pe_op op_mulW (pv 7) (pv 8))) (pv 1) (nomark _))
            (pe_one (pe_cmpR op_gt (pe_op op_add (pv 6) (pe_op op_mulW (pv 7) (pv 10))) (pv 1) (nomark _))))))))))))))), ?_⟩
    refine ⟨_, rfl, p, _, rfl, SqT.of hp, rfl, _, _, rfl, _, _, rfl, _, _, rfl, _, _, rfl, _, _, rfl, _, _, rfl, rfl, ?_⟩
    simp only [L2.start, List.map_cons, List.map_nil, List.length_cons, List.length_nil, Nat.reduceAdd, Nat.reduceSub, List.replicate_succ, List.replicate_zero, List.cons_append, List.nil_append, List.set_cons_zero, List.set_cons_succ]
    have hst : -2 ≤ S.hs - S.ls ∧ S.hs - S.ls ≤ 2 := by
      obtain ⟨u1, u2⟩ := ok
      unfold Unit3 at u1 u2
      omega
    refine ⟨_, rfl, _, rfl, _, rfl, _, rfl, _, _, rfl, rfl, _, _, rfl, rfl, _, rfl, _, rfl, _, _, rfl, rfl, _, _, _, _, rfl, hst.1, hst.2, fun p2 np2 => ?_⟩
    refine ⟨p2, _, rfl, SqT.of upd_same, rfl, _, _, rfl, _, _, rfl, rfl, ?_⟩
    simp only [L2.start, List.map_cons, List.map_nil, List.length_cons, List.length_nil, Nat.reduceAdd, Nat.reduceSub, List.replicate_succ, List.replicate_zero, List.cons_append, List.nil_append, List.set_cons_zero, List.set_cons_succ]
    refine ⟨_, rfl, _, _, rfl, rfl, ?_⟩
    simp only [L2.start, List.map_cons, List.map_nil, List.length_cons, List.length_nil, Nat.reduceAdd, Nat.reduceSub, List.replicate_succ, List.replicate_zero, List.cons_append, List.nil_append, List.set_cons_zero, List.set_cons_succ]
    have q : Q (.bl (fallsB S n)) _ := q _ (same_new (o := .tup [.int (nar S.a S.b (S.h - S.l - 1) (S.hs - S.ls)).1, .int (nar S.a S.b (S.h - S.l - 1) (S.hs - S.ls)).2]) np2)
    unfold fallsB at q
    have c0 := ends_le ok le
    unfold Span.ends at q c0
    refine ⟨_, rfl, _, rfl, _, _, rfl, rfl, _, rfl, ?_⟩
    by_cases h0 : (nar S.a S.b (S.h - S.l - 1) (S.hs - S.ls)).1 ≤ ((nar S.a S.b (S.h - S.l - 1) (S.hs - S.ls)).2 - 1)
    · rw [decide_eq_true h0] at q ⊢
      refine iteT ?_
      have c1 := c0 (by omega)
      have lb := lim_big
      obtain ⟨a1, a2, b1, b2, l1, l2, g1, g2⟩ := le
      have m1 : ∀ x, Unit3 x → CMulW x (nar S.a S.b (S.h - S.l - 1) (S.hs - S.ls)).1 := fun x hx => cmU hx (by omega) (by omega)
      have m2 : ∀ x, Unit3 x → CMulW x ((nar S.a S.b (S.h - S.l - 1) (S.hs - S.ls)).2 - 1) := fun x hx => cmU hx (by omega) (by omega)
      refine ⟨_, rfl, _, _, rfl, rfl, _, rfl, ?_⟩
      by_cases h1 : (nar S.a S.b (S.h - S.l - 1) (S.hs - S.ls)).1 < 0
      · rw [decide_eq_true h1] at q ⊢
        exact iteT q
      rw [decide_eq_false h1] at q ⊢
      refine iteF ?_
      refine ⟨_, rfl, _, rfl, _, _, rfl, rfl, _, rfl, ?_⟩
      by_cases h2 : ((nar S.a S.b (S.h - S.l - 1) (S.hs - S.ls)).2 - 1) ≥ n
      · rw [decide_eq_true h2] at q ⊢
        exact iteT q
      rw [decide_eq_false h2] at q ⊢
      refine iteF ?_
      refine ⟨_, rfl, _, rfl, _, rfl, _, _, rfl, rfl, m1 _ ok.l, _, _, rfl, rfl, _, _, rfl, rfl, _, rfl, ?_⟩
      by_cases h3 : S.l + S.ls * (nar S.a S.b (S.h - S.l - 1) (S.hs - S.ls)).1 < 0
      · rw [decide_eq_true h3] at q ⊢
        exact iteT q
      rw [decide_eq_false h3] at q ⊢
      refine iteF ?_
      refine ⟨_, rfl, _, rfl, _, rfl, _, _, rfl, rfl, m2 _ ok.l, _, _, rfl, rfl, _, _, rfl, rfl, _, rfl, ?_⟩
      by_cases h4 : S.l + S.ls * ((nar S.a S.b (S.h - S.l - 1) (S.hs - S.ls)).2 - 1) < 0
      · rw [decide_eq_true h4] at q ⊢
        exact iteT q
      rw [decide_eq_false h4] at q ⊢
      refine iteF ?_
      refine ⟨_, rfl, _, rfl, _, rfl, _, _, rfl, rfl, m1 _ ok.h, _, _, rfl, rfl, _, rfl, _, _, rfl, rfl, _, rfl, ?_⟩
      by_cases h5 : S.h + S.hs * (nar S.a S.b (S.h - S.l - 1) (S.hs - S.ls)).1 > n
      · rw [decide_eq_true h5] at q ⊢
        exact iteT q
      rw [decide_eq_false h5] at q ⊢
      refine iteF ?_
      exact ⟨_, rfl, _, rfl, _, rfl, _, _, rfl, rfl, m2 _ ok.h, _, _, rfl, rfl, _, rfl, _, _, rfl, rfl, q⟩
    · rw [decide_eq_false h0] at q ⊢
      exact iteF q
abbrev s_nest_count : Stmt := top 50
theorem sc_nest_count : FnScope ["spans", "start", "stop", "low", "low_steps", "high", "high_steps", "width", "steps", "first", "end"] ["spans"] (defScope s_nest_count) := ⟨rfl, rfl, rfl, by decide +kernel, rfl, by decide +kernel, by decide +kernel⟩
theorem ok_nest_count {f : Addr} {fd : FuncData} (F : Fun K "nest_count" "nest_count" s_nest_count f fd) (T : Bt mg) (G_narrowed : FB P w K mg base "narrowed" 1 ["first", "end", "least", "steps"] spNar) : FnOk P w K mg base CX0 2 f fd ["spans"] spCount := by
  refine F.ok sc_nest_count (fun vs H Q E h => ?_) (fun cdv A outer s H vs Q E hr h => ?_)
  · obtain ⟨p, S, rfl, _⟩ := h
    rfl
  · obtain ⟨p, S, rfl, hp, ok, le, q⟩ := h
    refine ⟨_, (pss_cons (ps_asg (pv 0) (pg_tup (by rfl) (pgs_cons (pg_name (i := 1) sc_nest_count.nd rfl (by first | exact .inl rfl | exact .inr rfl)) (pgs_cons (pg_name (i := 2) sc_nest_count.nd rfl (by first | exact .inl rfl | exact .inr rfl)) (pgs_cons (pg_name (i := 3) sc_nest_count.nd rfl (by first | exact .inl rfl | exact .inr rfl)) (pgs_cons (pg_name (i := 4) sc_nest_count.nd rfl (by first | exact .inl rfl | exact .inr rfl)) (pgs_cons (pg_name (i := 5) sc_nest_count.nd rfl (by first | exact .inl rfl | exact .inr rfl)) (pgs_cons (pg_name (i := 6) sc_nest_count.nd rfl (by first | exact .inl rfl | exact .inr rfl)) pgs_nil))))))))
        (pss_cons (ps_par (i := 7) (j := 8) (by rfl) sc_nest_count.nd rfl rfl (by decide) rfl rfl (pa_cons (pe_op op_sub (pv 5) (pv 3)) (pa_cons (pe_op op_sub (pv 6) (pv 4)) pa_nil)) (by rfl))
        (pss_cons (ps_asg (pe_fb G_narrowed hr (by decide) (by rfl) (pa_cons (pv 1) (pa_cons (pv 2) (pa_cons (pe_op op_sub (pv 7) pe_int) (pa_cons (pv 8) pa_nil))))) (pg_tup (by rfl) (pgs_cons (pg_name (i := 9) sc_nest_count.nd rfl (by first | exact .inl rfl | exact .inr rfl)) (pgs_cons (pg_name (i := 10) sc_nest_count.nd rfl (by first | exact .inl rfl | exact .inr rfl)) pgs_nil))))
        (pss_cons (ps_if (pt_cmpR op_ge (pv 9) (pv 10) (nomark _))
        (pss_one (ps_ret pe_int))
        pss_nil)
        (pss_one (ps_ret (pe_op op_fdiv (pe_op op_mulW (pe_op op_sub (pv 10) (pv 9)) (pe_op op_add (pe_op op_add (pe_op op_add (pv 7) (pe_op op_mulW (pv 8) (pv 9))) (pv 7)) (pe_op op_mulW (pv 8) (pe_op op_sub (pv 10) pe_int)))) pe_int))))))), ?_⟩
    refine ⟨_, rfl, p, _, rfl, SqT.of hp, rfl, _, _, rfl, _, _, rfl, _, _, rfl, _, _, rfl, _, _, rfl, _, _, rfl, rfl, ?_⟩
    simp only [L2.start, List.map_cons, List.map_nil, List.length_cons, List.length_nil, Nat.reduceAdd, Nat.reduceSub, List.replicate_succ, List.replicate_zero, List.cons_append, List.nil_append, List.set_cons_zero, List.set_cons_succ]
    have hst : -2 ≤ S.hs - S.ls ∧ S.hs - S.ls ≤ 2 := by
      obtain ⟨u1, u2⟩ := ok
      unfold Unit3 at u1 u2
      omega
    refine ⟨_, rfl, _, rfl, _, _, rfl, rfl, _, rfl, _, rfl, _, _, rfl, rfl, _, _, rfl, ?_⟩
    simp only [L2.start, List.map_cons, List.map_nil, List.length_cons, List.length_nil, Nat.reduceAdd, Nat.reduceSub, List.replicate_succ, List.replicate_zero, List.cons_append, List.nil_append, List.set_cons_zero, List.set_cons_succ]
    refine ⟨_, rfl, _, rfl, _, rfl, _, _, rfl, rfl, _, rfl, _, _, _, _, rfl, hst.1, hst.2, fun p2 np2 => ?_⟩
    refine ⟨p2, _, rfl, SqT.of upd_same, rfl, _, _, rfl, _, _, rfl, rfl, ?_⟩
    simp only [L2.start, List.map_cons, List.map_nil, List.length_cons, List.length_nil, Nat.reduceAdd, Nat.reduceSub, List.replicate_succ, List.replicate_zero, List.cons_append, List.nil_append, List.set_cons_zero, List.set_cons_succ]
    have q : Q (.int (cntS S)) _ := q _ (same_new (o := .tup [.int (nar S.a S.b (S.h - S.l - 1) (S.hs - S.ls)).1, .int (nar S.a S.b (S.h - S.l - 1) (S.hs - S.ls)).2]) np2)
    unfold cntS at q
    have c0 := cnt_le ok le
    unfold Span.ends at q c0
    refine ⟨_, rfl, _, rfl, _, _, rfl, rfl, _, rfl, ?_⟩
    by_cases h0 : (nar S.a S.b (S.h - S.l - 1) (S.hs - S.ls)).1 ≥ (nar S.a S.b (S.h - S.l - 1) (S.hs - S.ls)).2
    · rw [decide_eq_true h0]
      rw [if_pos h0] at q
      exact iteT q
    · rw [decide_eq_false h0]
      rw [if_neg h0] at q
      obtain ⟨m1, m2, m3⟩ := c0 h0
      refine iteF ?_
      refine ⟨_, rfl, _, rfl, _, _, rfl, rfl, _, rfl, _, rfl, _, rfl, _, _, rfl, rfl, m1, _, _, rfl, rfl, _, rfl, _, _, rfl, rfl, _, rfl, _, rfl, _, _, rfl, rfl, _, _, rfl, rfl, m2, _, _, rfl, rfl, _, _, rfl, rfl, m3, _, _, rfl, rfl, ⟨by decide, by decide⟩, ?_⟩
      exact q
end
end Sq.N4
namespace Sq
open PySem L2 PySem.Spec PyProof.Rows
/-! ### x is not True, x is not False -/
def plainV : V → Bool
  | .int _ => true
  | .str _ => true
  | .non => true
  | .bl _ => true
  | .ref _ => true
  | _ => false
def rNotTF : R2 := fun x y H Q => ∃ b, y = .bl b ∧ plainV x = true ∧ Q (.bl (!decide (x = .bl b))) H
theorem op_notTF {X : Cx} : OpR X (compareOp .IsNot) rNotTF := by
  intro pins s σ H x y v u Q I rx ry h
  obtain ⟨b, rfl, pv, q⟩ := h
  cases (show u = Value.bool b from ry)
  cases x with
  | int n =>
    obtain ⟨t, rfl⟩ := rx
    exact wpAny_isNot_other rfl (fun z => nomatch z) ⟨.bl true, H, I, rfl, by simpa using q⟩
  | str n =>
    obtain ⟨t, rfl⟩ := rx
    exact wpAny_isNot_other rfl (fun z => nomatch z) ⟨.bl true, H, I, rfl, by simpa using q⟩
  | non =>
    cases rx
    exact wpAny_isNot_other rfl (fun z => nomatch z) ⟨.bl true, H, I, rfl, by simpa using q⟩
  | ref a =>
    cases rx
    exact wpAny_isNot_other rfl (fun z => nomatch z) ⟨.bl true, H, I, rfl, by simpa using q⟩
  | bl a =>
    cases (show v = Value.bool a from rx)
    by_cases e : a = b
    · subst e
      exact wpAny_isNot_self rfl ⟨.bl false, H, I, rfl, by simpa using q⟩
    · exact wpAny_isNot_other rfl (fun z => e (Value.bool.inj z)) ⟨.bl true, H, I, rfl, by simpa [e] using q⟩
  | _ => cases pv
end Sq
namespace Sq
open PySem L2 PySem.Spec PyProof.Rows
/-! ### comprehensions of any number of clauses: clause by clause -/
/-- what stands behind a clause's tests: a next clause, or what is kept of the turn -/
abbrev TCl := L2.St → Hp → (Hp → Prop) → Prop
/-- the turns over what an iterator gives, then Nx -/
def JLoop (J : It) (g : TG) (tt : TT) (vs : List Nat) (ti : TCl) (σ : L2.St) (H : Hp) (Nx : Hp → Prop) : Prop :=
  ∃ W : Nat → Nat → Hp → Prop, (∃ m, W 0 m H) ∧ ∀ i m H1, W i m H1 →
    (J.stop i H1 ∧ Nx H1) ∨ (J.go i H1 ∧ ∃ N1 : Hp → Prop, (∀ H', N1 H' → ∃ m', m' < m ∧ W (i + 1) m' H') ∧
      ∀ x H', J.yld i H1 x H' → g x (wipe σ vs) H' fun σ2 H2 => wipe σ2 vs = wipe σ vs ∧ tt σ2 H2 fun b H3 => if b = true then ti σ2 H3 N1 else N1 H3)
/-- a clause: its source, then the turns -/
def tClause (wi : TI) (g : TG) (tt : TT) (vs : List Nat) (ti : TCl) : TCl := fun σ H Nx => wi σ H fun J H1 => JLoop J g tt vs ti σ H1 Nx
/-- what σ' knows of what is behind the block's names -/
def Kn (vs : List Nat) (σ σ' : L2.St) : Prop := σ'.length = σ.length ∧ ∀ (j : Nat) v, (wipe σ vs)[j]? = some (some v) → σ'[j]? = some (some v)
abbrev noX : Value → Shared → Prop := fun _ _ => False
/-- how one turn of a comprehension's loop goes: IN is what stands behind the tests -/
def TurnsSo (M : Model) (A : Around) (env : Env) (e : Expr) (d : Nat) (acc : Value) (tg : Expr) (ifs : List Expr) (IN : (Shared → Prop) → Shared → Prop) : Prop :=
  ∀ (it : Value) (k1 k2 : Shared → Prop) (s : Shared),
    wpAny M A (pyNext it) (fun r s1 => match r with
      | none => k1 s1
      | some v => wpAny M A (letOwnedTupleGo tg it v) (fun _ s2 => wpAny M A (assign tg env v) (fun _ s3 =>
          wpAny M A (forIn ifs true fun c r => if r = true then do let ok ← isTrue c env (eval c env); pure (ForInStep.yield ok) else pure (ForInStep.yield r)) (fun ok s4 =>
            if ok = true then IN k2 s4 else k2 s4) noX s3) noX s2) noX s1) noX s →
    wpAny M (A.under (.compLoop e d it acc env)) (M.den (.compLoop e d it acc env))
      (fun fin s' => match fin with | .done f => f = .next ∧ k1 s' | .again c' => c' = .compLoop e d it acc env ∧ k2 s') noX s
/-- what stands behind the tests keeps to its reading -/
def KeepsTo (Y : Cx) (vs : List Nat) (IN : (Shared → Prop) → Shared → Prop) (ti : TCl) : Prop :=
  ∀ (pins : List (Addr × Obj)) (s : Shared) (σ : L2.St) (H : Hp) (Nx : Hp → Prop) (k : Shared → Prop), Inv Y pins σ H s → ti σ H Nx →
    (∀ s' σ' H', Inv Y pins σ' H' s' → Kn vs σ σ' → Nx H' → k s') → IN k s
theorem thnY {α : Type} {t : Sem α} {Q Q' : α → Shared → Prop} {M : Model} {A : Around} {E X : Value → Shared → Prop} {s : Shared} (hx : X = noX) (h : wpAny M A t Q X s) (hQ : ∀ a s, Q a s → Q' a s) : wpAny M A t Q' E s :=
  wpAny_mono h hQ fun _ _ z => by
    rw [hx] at z
    exact z.elim
section
variable {Y : Cx} {e : Expr} {d : Nat} {acc : Value} {tg : Expr} {ifs : List Expr} {IN : (Shared → Prop) → Shared → Prop} {g : TG} {tt : TT} {ti : TCl} {vs vi : List Nat}
/-- one clause's loop, in the block -/
theorem lev (hc : Y.calm = true) (hxe : Y.xe = noX) (hq : ∀ it, (Code.compLoop e d it acc Y.env).quiet = true) (ht : TurnsSo (model Y.prog Y.w) Y.A Y.env e d acc tg ifs IN)
    (pg : PG Y tg g) (pt : PTs Y ifs tt) (hin : KeepsTo Y vi IN ti) (hvi : ∀ j ∈ vi, j ∈ vs)
    {pins : List (Addr × Obj)} {s : Shared} {σ : L2.St} {H : Hp} {Nx : Hp → Prop} (I : Inv Y pins (wipe σ vs) H s) {it : Addr} {fp : List Addr} {tn : Nat → Heap → Prop} {J : It}
    (T : Turn Y.prog Y.w Y.K tg J fp it tn) (st : tn 0 s.heap) (hf : ∀ b ∈ fp, FpOk Y pins H b) (h : JLoop J g tt vs ti σ H Nx) :
    codeAny (model Y.prog Y.w) Y.A (.compLoop e d (.ref it) acc Y.env) (fun r s' => r = .ok .next ∧ ∃ H', Inv Y pins (wipe σ vs) H' s' ∧ Nx H') s := by
  obtain ⟨W, ⟨m0, w0⟩, turn⟩ := h
  refine codeAny_loop (hq _) (fun n s' => ∃ i H', Inv Y pins (wipe σ vs) H' s' ∧ tn i s'.heap ∧ (∀ b ∈ fp, H' b = none) ∧ W i n H') ?_ m0
    ⟨0, H, I, st, fun b hb => (hf b hb).1, w0⟩
  rintro n s1 ⟨i, H1, I1, st1, n1, w1⟩
  have fpo : ∀ {H' : Hp}, (∀ b ∈ fp, H' b = none) → ∀ b ∈ fp, FpOk Y pins H' b := fun hn b hb => ⟨hn b hb, (hf b hb).2⟩
  refine wpAny_mono (ht (.ref it) (fun s' => ∃ H', Inv Y pins (wipe σ vs) H' s' ∧ Nx H') (fun s' => ∃ m, m < n ∧ ∃ i H', Inv Y pins (wipe σ vs) H' s' ∧ tn i s'.heap ∧ (∀ b ∈ fp, H' b = none) ∧ W i m H') s1 ?_) (fun fin s' q => ?_) fun _ _ z => False.elim z
  case refine_2 =>
    cases fin with
    | done f => exact ⟨by rw [q.1], q.2⟩
    | again c => exact q
  rcases turn i n H1 w1 with ⟨stop, nx⟩ | ⟨go, N1, hN1, step⟩
  · refine thnF (T.done Y rfl rfl rfl hc i pins s1 _ H1 noX I1 (fpo n1) st1 stop) fun r s2 q => ?_
    obtain ⟨rfl, I2⟩ := q
    exact ⟨H1, I2, nx⟩
  refine thnF (T.item Y rfl rfl rfl hc i pins s1 _ H1 noX I1 (fpo n1) st1 go) fun r s2 q => ?_
  obtain ⟨u, rfl, q⟩ := q
  refine thnF q fun _ s3 z => ?_
  obtain ⟨x, H3, I3, r3, y3, st3, n3⟩ := z
  have P3 := I3.pinned (fpo n3) (T.obj _ _ st3)
  refine thnY hxe (pg.run _ s3 _ H3 x u _ P3 r3 (step x H3 y3)) fun _ s4 z => ?_
  obtain ⟨σ4, H4, I4, hw, q4⟩ := z
  refine thnY hxe (pt.run _ s4 σ4 H4 _ I4 q4) fun b s5 z => ?_
  obtain ⟨H5, I5, q5⟩ := z
  -- the turn's end
  have fin : ∀ {σ' : L2.St} {s' : Shared} {H' : Hp}, Inv Y (pins ++ pinsAt fp s3.heap) σ' H' s' → Kn vs σ4 σ' → N1 H' →
      ∃ m, m < n ∧ ∃ i H', Inv Y pins (wipe σ vs) H' s' ∧ tn i s'.heap ∧ (∀ b ∈ fp, H' b = none) ∧ W i m H' := fun {σ' s' H'} I' kn nx => by
    obtain ⟨m', hm, w'⟩ := hN1 H' nx
    have held : ∀ b ∈ fp, ∀ o, s3.heap.get? b = some o → s'.heap.get? b = some o ∧ H' b = none := fun b hb o z =>
      ⟨(I'.pin (b, o) (List.mem_append_right _ (List.mem_append_right _ (mem_pinsAt hb z)))).1, (I'.pin (b, o) (List.mem_append_right _ (List.mem_append_right _ (mem_pinsAt hb z)))).2.1⟩
    refine ⟨m', hm, i + 1, H', I'.unpinned.weak ?_ (fun j v z => ?_), T.keep _ _ _ st3 (fun b hb o z => (held b hb o z).1), fun b hb => ?_, w'⟩
    · rw [kn.1, ← hw, wipe_length]
    · rw [← hw] at z
      exact kn.2 j v z
    · obtain ⟨o, z, _⟩ := T.obj _ _ st3 b hb
      exact (held b hb o z).2
  cases b with
  | false => exact fin I5 ⟨rfl, fun j v z => (wipe_some z).1⟩ q5
  | true =>
    refine hin _ s5 σ4 H5 N1 _ I5 q5 fun s' σ' H' I' kn nx => fin I' ⟨kn.1, fun j v z => ?_⟩ nx
    obtain ⟨z1, z2⟩ := wipe_some z
    refine kn.2 j v ?_
    rw [wipe_out fun y => z2 (hvi j y)]
    exact z1
end
/-! ### what stands behind the tests -/
/-- the next clause: its source, its iterator, its loop -/
def inClause (M : Model) (A : Around) (env : Env) (e : Expr) (d : Nat) (acc : Value) (iter : Expr) : (Shared → Prop) → Shared → Prop := fun k s =>
  wpAny M A (eval iter env) (fun x s1 => wpAny M A (pyIter x) (fun it s2 => codeAny M A (.compStart e d it acc env) (fun r s' => match r with | .ok _ => k s' | .error _ => False) s2) noX s1) noX s
/-- an element more in the list -/
def inList (M : Model) (A : Around) (env : Env) (elt : Expr) (acc : Value) : (Shared → Prop) → Shared → Prop := fun k s =>
  wpAny M A (eval elt env) (fun x s1 => wpAny M A (call (.builtin "list.append") [acc, x]) (fun _ s2 => k s2) noX s1) noX s
def tKeep (te : TE) (D : Addr) : TCl := fun σ H Nx => te σ H fun y H1 => ∃ xs, H1 D = some (.lst xs) ∧ xs.length < sizeLine ∧ Nx (upd H1 D (.lst (xs ++ [y])))
theorem keeps_list {Y : Cx} {elt : Expr} {te : TE} {D : Addr} {vs : List Nat} (hxe : Y.xe = noX) (pe : PE Y elt te) : KeepsTo Y vs (inList (model Y.prog Y.w) Y.A Y.env elt (.ref D)) (tKeep te D) := by
  intro pins s σ H Nx k I h hk
  refine thnY hxe (pe.run pins s σ H _ I h) fun u s1 z => ?_
  obtain ⟨y, H1, I1, r1, xs, hD, hz, nx⟩ := z
  exact app_ok I1 hD hz r1 fun s2 I2 => hk s2 σ _ I2 ⟨rfl, fun j v z => (wipe_some z).1⟩ nx
theorem keeps_clause {Y : Cx} {e : Expr} {d : Nat} {acc : Value} {tg iter : Expr} {ifs : List Expr} {IN : (Shared → Prop) → Shared → Prop} {wi : TI} {g : TG} {tt : TT} {ti : TCl} {vs vi : List Nat}
    (hc : Y.calm = true) (hxe : Y.xe = noX) (hq : ∀ it, (Code.compLoop e d it acc Y.env).quiet = true) (ht : TurnsSo (model Y.prog Y.w) Y.A Y.env e d acc tg ifs IN)
    (hst : ∀ (it : Value) (R : Result → Shared → Prop) (s : Shared), codeAny (model Y.prog Y.w) Y.A (.compLoop e d it acc Y.env) R s →
      wpAny (model Y.prog Y.w) Y.A (pyIter it) (fun it' s' => codeAny (model Y.prog Y.w) Y.A (.compLoop e d it' acc Y.env) R s') (notedBy (model Y.prog Y.w) Y.A Y.env fun x s' => R (.error x) s') s → codeAny (model Y.prog Y.w) Y.A (.compStart e d it acc Y.env) R s)
    (pi : PI Y tg iter wi) (pg : PG Y tg g) (pt : PTs Y ifs tt) (hin : KeepsTo Y vi IN ti) (hvi : ∀ j ∈ vi, j ∈ vs) :
    KeepsTo Y vs (inClause (model Y.prog Y.w) Y.A Y.env e d acc iter) (tClause wi g tt vs ti) := by
  intro pins s σ H Nx k I h hk
  refine thnY hxe (pi.run pins s σ H _ I h) fun x s1 hx => thnY hxe hx fun itv s2 z => ?_
  obtain ⟨it, fp, tn, J, H2, rfl, I2, T, st, hf, hl⟩ := z
  have run : codeAny (model Y.prog Y.w) Y.A (.compLoop e d (.ref it) acc Y.env) (fun r s' => match r with | .ok _ => k s' | .error _ => False) s2 := codeAny_mono (lev hc hxe hq ht pg pt hin hvi (I2.weak (wipe_length _ _) (fun j v z => (wipe_some z).1)) T st hf hl) fun r s' z => by
    obtain ⟨rfl, H', I', nx⟩ := z
    exact hk s' _ H' I' ⟨wipe_length _ _, fun j v z => z⟩ nx
  exact hst _ _ _ run (T.self Y.A 0 _ _ _ st run)
/-! ### three clauses -/
section
variable {P : Program} {w : World} {A : Around} {elt t0 i0 t1 i1 t2 i2 : Expr} {f0 f1 f2 : List Expr} {scope : Scope} {pos : Pos} {it acc : Value} {env : Env}
theorem turn3_0 : compTurn (.ListComp elt [⟨t0, i0, f0, 0⟩, ⟨t1, i1, f1, 0⟩, ⟨t2, i2, f2, 0⟩] scope pos) 0 it acc env = (do
    standAt i0.pos
    match ← pyNext it with
    | none => pure (.done .next)
    | some v =>
      letOwnedTupleGo t0 it v
      assign t0 env v
      let mut go := true
      for q in f0 do
        if go then go ← isTrue q env (eval q env)
      if go then
        let y ← eval i1 env
        standAt i1.pos
        let y ← foldedSetIterable i1 env y
        let _ ← runOwn (.compStart (.ListComp elt [⟨t0, i0, f0, 0⟩, ⟨t1, i1, f1, 0⟩, ⟨t2, i2, f2, 0⟩] scope pos) 1 (← holding [y] (pyIter y)) acc env) env
      again (.compLoop (.ListComp elt [⟨t0, i0, f0, 0⟩, ⟨t1, i1, f1, 0⟩, ⟨t2, i2, f2, 0⟩] scope pos) 0 it acc env)) := by rfl
theorem turn3_1 : compTurn (.ListComp elt [⟨t0, i0, f0, 0⟩, ⟨t1, i1, f1, 0⟩, ⟨t2, i2, f2, 0⟩] scope pos) 1 it acc env = (do
    standAt i1.pos
    match ← pyNext it with
    | none => pure (.done .next)
    | some v =>
      letOwnedTupleGo t1 it v
      assign t1 env v
      let mut go := true
      for q in f1 do
        if go then go ← isTrue q env (eval q env)
      if go then
        let y ← eval i2 env
        standAt i2.pos
        let y ← foldedSetIterable i2 env y
        let _ ← runOwn (.compStart (.ListComp elt [⟨t0, i0, f0, 0⟩, ⟨t1, i1, f1, 0⟩, ⟨t2, i2, f2, 0⟩] scope pos) 2 (← holding [y] (pyIter y)) acc env) env
      again (.compLoop (.ListComp elt [⟨t0, i0, f0, 0⟩, ⟨t1, i1, f1, 0⟩, ⟨t2, i2, f2, 0⟩] scope pos) 1 it acc env)) := by rfl
theorem turn3_2 : compTurn (.ListComp elt [⟨t0, i0, f0, 0⟩, ⟨t1, i1, f1, 0⟩, ⟨t2, i2, f2, 0⟩] scope pos) 2 it acc env = (do
    standAt i2.pos
    match ← pyNext it with
    | none => pure (.done .next)
    | some v =>
      letOwnedTupleGo t2 it v
      assign t2 env v
      let mut go := true
      for q in f2 do
        if go then go ← isTrue q env (eval q env)
      if go then
        (do let _ ← call (.builtin "list.append") [acc, ← eval elt env])
      again (.compLoop (.ListComp elt [⟨t0, i0, f0, 0⟩, ⟨t1, i1, f1, 0⟩, ⟨t2, i2, f2, 0⟩] scope pos) 2 it acc env)) := by rfl
theorem so3_0 (hs : ∀ x, foldedSetIterable i1 env x = pure x) : TurnsSo (model P w) A env (.ListComp elt [⟨t0, i0, f0, 0⟩, ⟨t1, i1, f1, 0⟩, ⟨t2, i2, f2, 0⟩] scope pos) 0 acc t0 f0 (inClause (model P w) A env (.ListComp elt [⟨t0, i0, f0, 0⟩, ⟨t1, i1, f1, 0⟩, ⟨t2, i2, f2, 0⟩] scope pos) 1 acc i1) := by
  intro it k1 k2 s h
  show wpAny _ A ((compTurn (.ListComp elt [⟨t0, i0, f0, 0⟩, ⟨t1, i1, f1, 0⟩, ⟨t2, i2, f2, 0⟩] scope pos) 0 it acc env).onRaise (fun x => do noteFrame x env; theTreesLotGoes x)) _ _ s
  refine wpAny_noted ?_
  rw [turn3_0]
  refine wpAny_bind (wpAny_standAt (wpAny_bind (thnF h fun r s1 h1 => ?_)))
  cases r with
  | none => exact wpAny_pure ⟨rfl, h1⟩
  | some v =>
    refine wpAny_bind (thnF h1 fun _ s2 h2 => wpAny_bind (thnF h2 fun _ s3 h3 => wpAny_bind (thnF h3 fun go s4 h4 => ?_)))
    cases go with
    | false => exact wpAny_pure ⟨rfl, h4⟩
    | true =>
      refine wpAny_bind (thnF h4 fun y s5 h5 => ?_)
      refine wpAny_bind (wpAny_standAt (wpAny_bind (wpAny_of_eq (hs y) (wpAny_bind (wpAny_holding (thnF h5 fun it1 s6 h6 => wpAny_bind (wpAny_runOwn ?_)))))))
      rw [Around.mark_none]
      refine codeAny_mono h6 fun r s' hr => ?_
      cases r with
      | ok f => exact wpAny_pure ⟨rfl, hr⟩
      | error x => exact hr.elim
theorem so3_1 (hs : ∀ x, foldedSetIterable i2 env x = pure x) : TurnsSo (model P w) A env (.ListComp elt [⟨t0, i0, f0, 0⟩, ⟨t1, i1, f1, 0⟩, ⟨t2, i2, f2, 0⟩] scope pos) 1 acc t1 f1 (inClause (model P w) A env (.ListComp elt [⟨t0, i0, f0, 0⟩, ⟨t1, i1, f1, 0⟩, ⟨t2, i2, f2, 0⟩] scope pos) 2 acc i2) := by
  intro it k1 k2 s h
  show wpAny _ A ((compTurn (.ListComp elt [⟨t0, i0, f0, 0⟩, ⟨t1, i1, f1, 0⟩, ⟨t2, i2, f2, 0⟩] scope pos) 1 it acc env).onRaise (fun x => do noteFrame x env; theTreesLotGoes x)) _ _ s
  refine wpAny_noted ?_
  rw [turn3_1]
  refine wpAny_bind (wpAny_standAt (wpAny_bind (thnF h fun r s1 h1 => ?_)))
  cases r with
  | none => exact wpAny_pure ⟨rfl, h1⟩
  | some v =>
    refine wpAny_bind (thnF h1 fun _ s2 h2 => wpAny_bind (thnF h2 fun _ s3 h3 => wpAny_bind (thnF h3 fun go s4 h4 => ?_)))
    cases go with
    | false => exact wpAny_pure ⟨rfl, h4⟩
    | true =>
      refine wpAny_bind (thnF h4 fun y s5 h5 => ?_)
      refine wpAny_bind (wpAny_standAt (wpAny_bind (wpAny_of_eq (hs y) (wpAny_bind (wpAny_holding (thnF h5 fun it1 s6 h6 => wpAny_bind (wpAny_runOwn ?_)))))))
      rw [Around.mark_none]
      refine codeAny_mono h6 fun r s' hr => ?_
      cases r with
      | ok f => exact wpAny_pure ⟨rfl, hr⟩
      | error x => exact hr.elim
theorem so3_2 : TurnsSo (model P w) A env (.ListComp elt [⟨t0, i0, f0, 0⟩, ⟨t1, i1, f1, 0⟩, ⟨t2, i2, f2, 0⟩] scope pos) 2 acc t2 f2 (inList (model P w) A env elt acc) := by
  intro it k1 k2 s h
  show wpAny _ A ((compTurn (.ListComp elt [⟨t0, i0, f0, 0⟩, ⟨t1, i1, f1, 0⟩, ⟨t2, i2, f2, 0⟩] scope pos) 2 it acc env).onRaise (fun x => do noteFrame x env; theTreesLotGoes x)) _ _ s
  refine wpAny_noted ?_
  rw [turn3_2]
  refine wpAny_bind (wpAny_standAt (wpAny_bind (thnF h fun r s1 h1 => ?_)))
  cases r with
  | none => exact wpAny_pure ⟨rfl, h1⟩
  | some v =>
    refine wpAny_bind (thnF h1 fun _ s2 h2 => wpAny_bind (thnF h2 fun _ s3 h3 => wpAny_bind (thnF h3 fun go s4 h4 => ?_)))
    cases go with
    | false => exact wpAny_pure ⟨rfl, h4⟩
    | true => exact wpAny_bind (wpAny_bind (thnF h4 fun y s5 h5 => wpAny_bind (thnF h5 fun _ s6 h6 => wpAny_pure (wpAny_pure ⟨rfl, h6⟩))))
end
section
variable {P : Program} {w : World} {A : Around} {elt t0 i0 t1 i1 t2 i2 : Expr} {f0 f1 f2 : List Expr} {scope : Scope} {pos : Pos} {it acc : Value} {env : Env}
theorem start3_1 {R : Result → Shared → Prop} {s : Shared} (h0 : codeAny (model P w) A (.compLoop (.ListComp elt [⟨t0, i0, f0, 0⟩, ⟨t1, i1, f1, 0⟩, ⟨t2, i2, f2, 0⟩] scope pos) 1 it acc env) R s)
    (h : wpAny (model P w) A (pyIter it) (fun it' s' => codeAny (model P w) A (.compLoop (.ListComp elt [⟨t0, i0, f0, 0⟩, ⟨t1, i1, f1, 0⟩, ⟨t2, i2, f2, 0⟩] scope pos) 1 it' acc env) R s') (notedBy (model P w) A env fun x s' => R (.error x) s') s) :
    codeAny (model P w) A (.compStart (.ListComp elt [⟨t0, i0, f0, 0⟩, ⟨t1, i1, f1, 0⟩, ⟨t2, i2, f2, 0⟩] scope pos) 1 it acc env) R s := by
  refine codeAny_of_tree (show wpAny _ _ ((compStart (.ListComp elt [⟨t0, i0, f0, 0⟩, ⟨t1, i1, f1, 0⟩, ⟨t2, i2, f2, 0⟩] scope pos) 1 it acc env).onRaise (fun x => do noteFrame x env; standAt theWindowsPlace)) _ _ s from wpAny_notedAt ?_)
  unfold compStart
  refine (show wpAny _ _ (ask >>= _) _ _ s from wpAny_bind (wpAny_askSetting (wpAny_ite ?_)))
  split
  · exact wpAny_pure (And.intro rfl h0)
  · refine wpAny_bind (wpAny_rule ?_)
    show wpAny _ _ (standAt i1.pos >>= _) _ _ s
    exact wpAny_bind (wpAny_standAt (wpAny_bind (thn h fun _ _ z => wpAny_pure (And.intro rfl z))))
theorem start3_2 {R : Result → Shared → Prop} {s : Shared} (h0 : codeAny (model P w) A (.compLoop (.ListComp elt [⟨t0, i0, f0, 0⟩, ⟨t1, i1, f1, 0⟩, ⟨t2, i2, f2, 0⟩] scope pos) 2 it acc env) R s)
    (h : wpAny (model P w) A (pyIter it) (fun it' s' => codeAny (model P w) A (.compLoop (.ListComp elt [⟨t0, i0, f0, 0⟩, ⟨t1, i1, f1, 0⟩, ⟨t2, i2, f2, 0⟩] scope pos) 2 it' acc env) R s') (notedBy (model P w) A env fun x s' => R (.error x) s') s) :
    codeAny (model P w) A (.compStart (.ListComp elt [⟨t0, i0, f0, 0⟩, ⟨t1, i1, f1, 0⟩, ⟨t2, i2, f2, 0⟩] scope pos) 2 it acc env) R s := by
  refine codeAny_of_tree (show wpAny _ _ ((compStart (.ListComp elt [⟨t0, i0, f0, 0⟩, ⟨t1, i1, f1, 0⟩, ⟨t2, i2, f2, 0⟩] scope pos) 2 it acc env).onRaise (fun x => do noteFrame x env; standAt theWindowsPlace)) _ _ s from wpAny_notedAt ?_)
  unfold compStart
  refine (show wpAny _ _ (ask >>= _) _ _ s from wpAny_bind (wpAny_askSetting (wpAny_ite ?_)))
  split
  · exact wpAny_pure (And.intro rfl h0)
  · refine wpAny_bind (wpAny_rule ?_)
    show wpAny _ _ (standAt i2.pos >>= _) _ _ s
    exact wpAny_bind (wpAny_standAt (wpAny_bind (thn h fun _ _ z => wpAny_pure (And.intro rfl z))))
end
/-! ### the whole -/
section
variable {X : Cx}
def tWhole (ob : Addr → HO) (wi : TI) (g : TG) (tt : TT) (vs : List Nat) (ti : Addr → TCl) : TE := fun σ H Q => wi σ H fun J H1 => ∀ D, H1 D = none → JLoop J g tt vs (ti D) σ (upd H1 D (ob D)) fun H' => Q (.ref D) H'
theorem top_comp {e tg iter : Expr} {ifs : List Expr} {rest : List Comprehension} {newAcc : Sem Value} {O : Obj} {ob : Addr → HO} {scope : Scope} {own : List (Str × Nat)} {pos' : Pos} {wi : TI} {g : TG} {tt : TT} {ti : Addr → TCl}
    {pins : List (Addr × Obj)} {s : Shared} {σ : L2.St} {H : Hp} {Q : VK}
    (hcl : clausesOf e = ⟨tg, iter, ifs, 0⟩ :: rest)
    (hnew : ∀ (s : Shared) (Q : Value → Shared → Prop) (E : Value → Shared → Prop), Q (.ref s.heap.objs.size) { s with heap := s.heap.push O } → wpAny (model X.prog X.w) X.A newAcc Q E s)
    (hlaid : ∀ (H : Hp) (h : Heap), ObjOk X.prog X.w (upd H h.objs.size (ob h.objs.size)) (h.push O) h.objs.size (ob h.objs.size))
    (hst : ∀ (it acc : Value) (env : Env) (R : Result → Shared → Prop) (s : Shared), codeAny (model X.prog X.w) X.A (.compLoop e 0 it acc env) R s →
      wpAny (model X.prog X.w) X.A (pyIter it) (fun it' s' => codeAny (model X.prog X.w) X.A (.compLoop e 0 it' acc env) R s') (notedBy (model X.prog X.w) X.A env fun x s' => R (.error x) s') s → codeAny (model X.prog X.w) X.A (.compStart e 0 it acc env) R s)
    (hq : ∀ it acc env, (Code.compLoop e 0 it acc env).quiet = true)
    (hc : X.calm = true) (hN : X.N.Nodup) (I : Inv X pins σ H s) (hi : PI X tg iter wi) (ok : BlkOk X.N X.env.scope scope own) (hs : ∀ x, foldedSetIterable iter X.env x = pure x)
    (blk : ∀ (s : Shared) (H : Hp) (C : Addr) (cl : List (Str × Addr)) (fp : List Addr) (D : Addr), ∃ (IN : (Shared → Prop) → Shared → Prop) (vi : List Nat),
      TurnsSo (model X.prog X.w) X.A (compEnvC scope cl C X.env) e 0 (.ref D) tg ifs IN ∧ PG (X.blk s H scope (compEnvC scope cl C X.env) fp) tg g ∧ PTs (X.blk s H scope (compEnvC scope cl C X.env) fp) ifs tt ∧
      KeepsTo (X.blk s H scope (compEnvC scope cl C X.env) fp) vi IN (ti D) ∧ ∀ j ∈ vi, j ∈ own.map (·.2))
    (h : tWhole ob wi g tt (own.map (·.2)) ti σ H Q) :
    wpAny (model X.prog X.w) X.A (comprehension e scope X.env pos' newAcc false (eval iter X.env) none) (EP X pins σ Q) X.xe s := by
  have held : ∀ y ∈ scope.names, y.2 = .free → ∃ c, X.env.cells.lookup y.1 = some c := fun y hy z => (ok.free y hy z).elim (fun k => I.ok.has _ (.inl k)) fun k => I.ok.has _ (.inr k)
  refine wpAny_comprehension_free (use := none) hcl hs (closure_ok held) ok.kind (fun y hy z => (ok.uniq y hy).trans (congrArg some z)) (thn (hi.run pins s σ H _ I h) fun xv s1 hx => thn hx fun itv s2 z => ?_)
  obtain ⟨it, fp, tn, J, H2, rfl, I2, T, st2, f2, q⟩ := z
  refine hnew s2 _ _ (newEnv_comp ?_)
  have hDn : H2 s2.heap.objs.size = none := I2.hok.fresh (Nat.le_refl _)
  have loops := q _ hDn
  have I3 : Inv X pins σ (upd H2 s2.heap.objs.size (ob s2.heap.objs.size)) { s2 with heap := s2.heap.push O } :=
    I2.laid (t' := s2.toks) (fun b o z => Heap.get?_push_of_some _ z) (Nat.le_refl _) (hlaid H2 s2.heap)
  have low : ∀ b ∈ fp, b < s2.heap.objs.size := fun b hb => by
    obtain ⟨o, z, _⟩ := T.obj _ _ st2 b hb
    exact Heap.lt_size z
  have f3 : ∀ b ∈ fp, FpOk X pins (upd H2 s2.heap.objs.size (ob s2.heap.objs.size)) b ∧ b < (s2.heap.push O).objs.size := fun b hb =>
    ⟨⟨by rw [upd_ne (Nat.ne_of_lt (low b hb))]; exact (f2 b hb).1, (f2 b hb).2⟩, by rw [Heap.size_push]; exact Nat.lt_succ_of_lt (low b hb)⟩
  have st3 : tn 0 (s2.heap.push O) := T.keep _ _ _ st2 fun b _ o z => Heap.get?_push_of_some _ z
  generalize hs3 : ({ s2 with heap := s2.heap.push O } : Shared) = s3 at I3 ⊢
  have h3 : s3.heap = s2.heap.push O := by rw [← hs3]
  rw [← h3] at f3 st3
  generalize s2.heap.objs.size = D at I3 f3 loops ⊢
  have I4 := block_start I3 ok hN f3
  obtain ⟨IN, vi, hts, pg, pt, hin, hvi⟩ := blk s3 (upd H2 D (ob D)) s3.heap.objs.size (cellsFrom (s3.heap.objs.size + 1) scope.names (cloFrom X.env.cells scope.names [])) fp D
  show codeAny _ _ (.compStart e 0 (.ref it) (.ref D) (compEnvC scope (cellsFrom (s3.heap.objs.size + 1) scope.names (cloFrom X.env.cells scope.names [])) s3.heap.objs.size X.env)) (compPost (model X.prog X.w) X.A X.xe none (EP X pins σ Q) (.ref D) s3.heap.objs.size) { s3 with heap := pushCells (s3.heap.push { cls := .type "dict", data := .dict #[] }) scope.names }
  have st4 : tn 0 (pushCells (s3.heap.push { cls := .type "dict", data := .dict #[] }) scope.names) := T.keep _ _ _ st3 fun b _ o z => pushCells_keeps _ _ _ _ (Heap.get?_push_of_some _ z)
  have f4 : ∀ b ∈ fp, FpOk (X.blk s3 (upd H2 D (ob D)) scope (compEnvC scope (cellsFrom (s3.heap.objs.size + 1) scope.names (cloFrom X.env.cells scope.names [])) s3.heap.objs.size X.env) fp) [] (upd H2 D (ob D)) b := fun b hb =>
    ⟨(f3 b hb).1.1, (I4.ok.exf b hb).1, I4.ok.exfs b hb, .inl hb, fun x c z => (I4.ok.exf b hb).2 x c z, fun p hp => absurd (show p ∈ ([] : List (Addr × Obj)) ++ [] from hp) (by simp)⟩
  have run := codeAny_mono (lev (Y := X.blk s3 (upd H2 D (ob D)) scope (compEnvC scope (cellsFrom (s3.heap.objs.size + 1) scope.names (cloFrom X.env.cells scope.names [])) s3.heap.objs.size X.env) fp) hc rfl (fun it => hq it _ _) hts pg pt hin hvi I4 T st4 f4 loops) (R' := compPost (model X.prog X.w) X.A X.xe none (EP X pins σ Q) (.ref D) s3.heap.objs.size) fun r s6 z => by
    obtain ⟨rfl, H6, I6, q6⟩ := z
    have I7 : Inv X pins σ H6 s6 := I3.call' (ch := fp) I6.os I6.base I6.hok I6.bare fun b hb => ⟨(f3 b hb).1.2.2.2.1, (f3 b hb).1.2.1, (f3 b hb).1.2.2.2.2.1, (f3 b hb).1.2.2.2.2.2⟩
    obtain ⟨m, hn, _⟩ := I6.loc
    obtain ⟨a0, a1, a2, a3, a4, a5⟩ := I3.fpOk (Nat.le_refl _) (show H6 s3.heap.objs.size = none from I6.free)
    exact ⟨m, hn, fun h'' sb => ⟨.ref D, H6, I7.turned (t' := s6.toks) (fun b o hb z => (sb.2 b hb).trans z) a0 a1 a3 a4 a5, rfl, q6⟩⟩
  exact hst _ _ _ _ _ run (T.self X.A 0 _ _ _ st4 run)
end
end Sq
namespace Sq
open PySem L2 PySem.Spec PyProof.Rows
/-! ### try with several except clauses, each with a name or without -/
/-- a clause: its class, the slot of its name, what its suite does -/
structure Clause where
  c : Value
  i : Option Nat
  ts : Addr → Value → Option Addr → TS
def Clause.ends (l : Clause) (D : Ends) : Ends := match l.i with
  | none => D
  | some i => ⟨fun σ H => D.nx (σ.set i none) H, D.rt, fun σ H => D.bk (σ.set i none) H, fun σ H => D.ct (σ.set i none) H⟩
def Clause.start (l : Clause) (a : Addr) (σ : L2.St) : L2.St := match l.i with
  | none => σ
  | some i => σ.set i (some (.ref a))
/-- what the clauses wish of an exception of the body, one behind the other -/
def wCl (K : PySem.W.Frag) (Wout : WX) (D : Ends) : List Clause → WX
  | [] => Wout
  | l :: r => fun cls d σ H => ∃ b, PySem.W.exmOne K cls l.c = some b ∧ (b = true → ∀ a, H a = none → l.ts a cls d (l.ends D) (l.start a σ) H) ∧ (b = false → wCl K Wout D r cls d σ H)
def SuiteOk (X : Cx) (sts : List Stmt) (ts : Addr → Value → Option Addr → TS) : Prop :=
  ∀ (a : Addr) (oe : Obj) (cls : Value) (d : Option Addr) (pn : List (Addr × Obj)), Zc cls d oe → (∃ vs, oe.data = .fields vs) → PSs (X.suite a ((a, oe) :: pn)) sts (ts a cls d)
inductive Clauses (X : Cx) : List ExceptHandler → List Clause → Prop
  | nil : Clauses X [] []
  | bare {x : Str} {c : Value} {ts : Addr → Value → Option Addr → TS} {b₀ : Stmt} {suite : List Stmt} {np pos : Pos} {hds : List ExceptHandler} {l : List Clause} (hc : Names X x c) (hsu : SuiteOk X (b₀ :: suite) ts) (r : Clauses X hds l) :
      Clauses X (.ExceptHandler (some (.Name x np)) none (b₀ :: suite) pos :: hds) (⟨c, none, ts⟩ :: l)
  | named {x n : Str} {i : Nat} {c : Value} {ts : Addr → Value → Option Addr → TS} {b₀ : Stmt} {suite : List Stmt} {np pos : Pos} {hds : List ExceptHandler} {l : List Clause} (hi : X.N[i]? = some n) (hn : X.env.kindOf n = some .local)
      (hc : Names X x c) (hsu : SuiteOk X (b₀ :: suite) ts) (r : Clauses X hds l) :
      Clauses X (.ExceptHandler (some (.Name x np)) (some n) (b₀ :: suite) pos :: hds) (⟨c, some i, ts⟩ :: l)
section
variable {X : Cx} {Wout : WX}
/-- the clauses, over an exception that has landed at a -/
theorem clauses_ok (hN : X.N.Nodup) (hs : X.stack = X.env :: X.outer) (hf : X.env.frame = some X.env.locals) (tk : Takes X Wout) {D : Ends} {pins : List (Addr × Obj)} {σ : L2.St} {H : Hp} {sI s' : Shared} {B h3 : Heap} {a : Addr} {cls : Value} {d : Option Addr}
    (ok : X.Ok) (J : Inv X pins σ H sI) (nb : ∀ b o, sI.heap.get? b = some o → b ∉ frs X.stack → B.get? b = some o) (up : sI.heap.UpToSlots h3) (na : H a = none) (os : s'.os = sI.os) (ag : AllBare s'.gens)
    (fl : HandSPX.FlyingZ B (X.env :: X.outer) a (Zc cls d) h3) {hds : List ExceptHandler} {l : List Clause} (hk : Clauses X hds l) :
    wCl X.K Wout D l cls d σ H → wpAny (model X.prog X.w) X.A (handleBy (.ref a) X.env hds) (SP X pins D) X.xe { s' with heap := h3 } := by
  have J3 : Inv X pins σ H { s' with heap := h3 } := J.landed nb fl.1 up os ag
  obtain ⟨o3, v3, e3, z3, d3⟩ := fl.there
  have away : a ∉ frs (X.env :: X.outer) := fun hm => by
    obtain ⟨_, o', e', hnf⟩ := fl.2.2.1.mem hm
    exact hnf _ ((Option.some.inj (e3.symm.trans e')) ▸ d3)
  have nL : a ≠ X.env.locals := fun z => away (List.mem_filterMap.mpr ⟨X.env, List.mem_cons_self, by rw [hf, z]⟩)
  have nF : a ∉ X.fs := fun hm => by
    obtain ⟨y, hy, q⟩ := List.mem_filterMap.mp hm
    exact away (List.mem_filterMap.mpr ⟨y, List.mem_cons_of_mem _ hy, q⟩)
  have S3 := J3.suite e3 d3 na nL nF
  have LT : PySem.W.Looks (model X.prog X.w) h3 (typeOf (.ref a)) cls := fun A Q E s k q => wpAny_typeOf_ref (k _ _ e3) (by rw [z3.1]; exact q)
  have asked : ∀ {x : Str} {c : Value} {np : Pos}, Names X x c → ∀ {Q E : Value → Shared → Prop}, Q c { s' with heap := h3 } → wpAny (model X.prog X.w) (X.A.mark (some (.ref a))) (eval (.Name x np) X.env) Q E { s' with heap := h3 } := fun {x c np} hc {Q E} q => by
    obtain ⟨hg, hd, hm | ⟨hm, hv, hn⟩⟩ := hc
    · exact ld_glob (X := X.suite a ((a, o3) :: (X.pn ++ pins))) S3 hg hm q hd
    · exact ld_blt (X := X.suite a ((a, o3) :: (X.pn ++ pins))) S3 hg hm hv q hn hd
  induction hk with
  | nil =>
    intro w
    refine wpAny_handleBy_nil ?_
    obtain ⟨_, _, _, oe, vs, T, oT, _, he, _, hd, h1, _⟩ := id fl
    unfold PySem.passOn
    refine wpAny_bind (wpAny_field he hd h1 ?_)
    rw [if_neg (show ¬ ((Value.ref T == Value.none) = true) from by simp)]
    have gone : wpAny (model X.prog X.w) X.A (setFlight (.ref a) X.env.frame) (fun _ s4 => wpAny (model X.prog X.w) X.A (throw (.ref a) : Sem Flow) (SP X pins D) X.xe s4) X.xe { s' with heap := h3 } := by
      rw [hf]
      exact HandSPX.setFlight_upZ fl fun h4 hh4 up4 => wpAny_throw (tk _ _ ⟨a, B, sI, pins, σ, H, cls, d, rfl, J, nb, up.trans up4, .inr (.inr (by rw [hs]; exact hh4)), na, os, ag, w⟩)
    first
      | exact wpAny_bind (wpAny_pure (wpAny_bind gone))
      | exact wpAny_bind gone
  | @bare x c ts b₀ suite np pos hds l hc hsu r ih =>
    intro w
    obtain ⟨b, hb, yes, no⟩ := w
    refine wpAny_handleBy_cons (codeAny_handlers_test (asked hc ((PySem.W.exm_one (M := model X.prog X.w) J3.kIn LT hb).here ?_))) (fun q => nomatch q)
    cases b with
    | false => exact ih (no rfl)
    | true =>
      refine codeAny_handlers_suite (HandSPX.lands_againZ fl fun h4 fl4 up4 => ?_)
      obtain ⟨o4, v4, e4, z4, d4⟩ := fl4.there
      have S4 := (J.landed (s' := { s' with heap := h4 }) nb fl4.1 (up.trans up4) os ag).suite e4 d4 na nL nF
      refine wpAny_mono ((hsu a o4 cls d (X.pn ++ pins) z4 ⟨_, d4⟩).run [] _ _ H _ S4 (yes rfl a na)) (fun f s6 q => ?_) (fun _ _ z => False.elim z)
      match f, q with
      | .next, ⟨σ6, H6, S6, q6⟩ => exact ⟨_, _, S6.unsuite ok, q6⟩
      | .brk, ⟨σ6, H6, S6, q6⟩ => exact ⟨_, _, S6.unsuite ok, q6⟩
      | .cont, ⟨σ6, H6, S6, q6⟩ => exact ⟨_, _, S6.unsuite ok, q6⟩
      | .ret u, ⟨v6, σ6, H6, S6, r6, q6⟩ => exact ⟨_, _, _, S6.unsuite ok, r6, q6⟩
  | @named x n i c ts b₀ suite np pos hds l hi hn hc hsu r ih =>
    intro w
    obtain ⟨b, hb, yes, no⟩ := w
    refine wpAny_handleBy_cons (codeAny_handlers_test (asked hc ((PySem.W.exm_one (M := model X.prog X.w) J3.kIn LT hb).here ?_))) (fun q => nomatch q)
    cases b with
    | false => exact ih (no rfl)
    | true =>
      refine codeAny_handlers_suite_as (HandSPX.lands_againZ fl fun h4 fl4 up4 => ?_)
      obtain ⟨o4, v4, e4, z4, d4⟩ := fl4.there
      have S4 := (J.landed (s' := { s' with heap := h4 }) nb fl4.1 (up.trans up4) os ag).suite e4 d4 na nL nF
      refine store_ok (X := X.suite a ((a, o4) :: (X.pn ++ pins))) (v := .ref a) S4 hN hi (.inl hn) rfl (fun s5 S5 => ?_) (.inr hn)
      refine wpAny_mono ((hsu a o4 cls d (X.pn ++ pins) z4 ⟨_, d4⟩).run [] s5 _ H _ S5 (yes rfl a na)) (fun f s6 q => ?_) (fun _ _ z => False.elim z)
      match f, q with
      | .next, ⟨σ6, H6, S6, q6⟩ => exact gone_ok (S6.unsuite ok) hN hi hn fun s7 J7 => ⟨_, _, J7, q6⟩
      | .brk, ⟨σ6, H6, S6, q6⟩ => exact gone_ok (S6.unsuite ok) hN hi hn fun s7 J7 => ⟨_, _, J7, q6⟩
      | .cont, ⟨σ6, H6, S6, q6⟩ => exact gone_ok (S6.unsuite ok) hN hi hn fun s7 J7 => ⟨_, _, J7, q6⟩
      | .ret u, ⟨v6, σ6, H6, S6, r6, q6⟩ => exact gone_ok (S6.unsuite ok) hN hi hn fun s7 J7 => ⟨_, _, _, J7, r6, q6⟩
/-- try: body, except C1 [as n1]: .., except C2 [as n2]: .. -/
theorem ps_tryC {body : List Stmt} {h₀ : ExceptHandler} {hds : List ExceptHandler} {l : List Clause} {pos : Pos} {tb : WX → TS} (hN : X.N.Nodup) (hs : X.stack = X.env :: X.outer) (hf : X.env.frame = some X.env.locals) (tk : Takes X Wout)
    (hb : ∀ (W : WX) (pn : List (Addr × Obj)) (xe : Value → Shared → Prop), Takes (X.tr pn xe) W → PassesOwn (model X.prog X.w) X.A X.env xe → PSs (X.tr pn xe) body (tb W))
    (hh : Clauses X (h₀ :: hds) l) : PS X (.Try body (h₀ :: hds) [] [] pos) (fun D σ H => tb (wCl X.K Wout D l) D σ H) := by
  refine ⟨fun pins s σ H D I h => wpAny_Try_except ?_⟩
  have ok := I.ok
  have hfr : X.A.frames = some (X.env :: X.outer) := by rw [ok.frames, hs]
  have run := (hb (wCl X.K Wout D l) (X.pn ++ pins) (fun e s₁ => wpAny (model X.prog X.w) X.A (noteFrame e X.env) (fun _ s₂ => wpAny (model X.prog X.w) X.A (setFlight e none) (fun _ s₃ => wpAny (model X.prog X.w) X.A (handleBy e X.env (h₀ :: hds)) (SP X pins D) X.xe s₃) X.xe s₂) X.xe s₁)
    (fun u s' x => by
      obtain ⟨a, B, sI, pins', σ', H', cls, d, rfl, J', nb, up, sky, na, os, ag, w⟩ := x
      have sky' : Sky B (X.env :: X.outer) a (Zc cls d) X.env.locals s'.heap := by rw [← hs]; exact sky
      show wpAny (model X.prog X.w) X.A (noteFrame (.ref a) X.env) _ _ _
      exact Sky.land Zc.steady hfr hf sky' fun h3 fl3 up3 => clauses_ok hN hs hf tk ok (J'.ofTry ok) nb (up.trans up3) na os ag fl3 hh w) PassesOwn.looking).run [] s σ H D (I.toTry _) h
  refine wpAny_mono run (fun f s1 q => ?_) (fun _ _ z => z)
  match f, q with
  | .next, ⟨σ', H', J', q⟩ => exact wpAny_execs_nil ⟨σ', H', J'.ofTry ok, q⟩
  | .brk, ⟨σ', H', J', q⟩ => exact ⟨σ', H', J'.ofTry ok, q⟩
  | .cont, ⟨σ', H', J', q⟩ => exact ⟨σ', H', J'.ofTry ok, q⟩
  | .ret u, ⟨v, σ', H', J', r, q⟩ => exact ⟨v, σ', H', J'.ofTry ok, r, q⟩
end
end Sq
namespace Sq
open PySem L2 PySem.Spec PyProof.Rows
/-! ### an own error class with one field, set by its __init__ -/
def spErrInit (C : Addr) (f : Str) : Sp := fun vs H Q _ => ∃ (a : Addr) (v : V), vs = [.ref a, v] ∧ H a = some (exo a C none) ∧ ∀ dx, H dx = none → dx ≠ a → Q .non (upd (upd H dx (exd dx [(f, v)])) a (exo a C (some dx)))
structure ErrC (P : Program) (w : World) (K : PySem.W.Frag) (mg : Str → Option Value) (base : Heap) (x f : Str) (C : Addr) : Prop where
  oex : OexC K C
  xf : XfC K C
  no : PySem.W.findIn K (.ref C) f = some none
  m : mg x = some (.ref C)
  ex : ∃ (fI : Addr) (fd : FuncData) (ps : List Str), PySem.W.findIn K (.ref C) "__init__" = some (some (.ref fI)) ∧ PySem.W.typeIn K (.ref fI) = some (.type "function") ∧ FnOk P w K mg base CX0 1 fI fd ps (spErrInit C f) ∧ Binds K fd ps []
section
variable {X : Cx} {W : WX} {x f : Str} {C : Addr} {e : Expr} {te : TE} {k : Nat} {p pos pos2 : Pos}
theorem err_heap {H : Hp} {a d : Addr} {u u' o : HO} (ha : H a = none) (hd : H d = none) (n : d ≠ a) : upd (del (upd (upd (upd H a u) d o) a u') a) d (.xd l) = upd H d (.xd l) := by
  funext b
  by_cases h1 : b = d
  · subst h1
    rw [upd_same, upd_same]
  rw [upd_ne h1, upd_ne h1]
  by_cases h2 : b = a
  · subst h2
    rw [del_same, ha]
  · rw [del_ne h2, upd_ne h2, upd_ne h1, upd_ne h2]
/-- raise C(e) -/
theorem ps_err (T : ErrC X.prog X.w X.K X.mg X.base x f C) (hc : X.calm = true) (tk : Takes X W) (hr : Room k X.A) (hk : 2 ≤ k) (hg : Gl X x) (he : PE X e te)
    (hdb : (x == ("__debug__" : Str)) = false := by decide) (hst : starEach (e :: []) X.env = (false, eval e X.env) :: starEach [] X.env := by rfl) (hpl : (backTo pos (starEach [] X.env)).any (·.1) = false := by rfl) :
    PS X (.Raise (some (.Call (.Name x p) [e] [] pos)) none pos2) (fun _ σ H => tMkO C (spErrInit C f) [] (tCons te tNil) σ H fun cls d H' => W cls d σ H') := by
  obtain ⟨fI, fd, ps, iC, tI, F, b⟩ := T.ex
  exact ps_raise (pos := pos2) hc tk (pmk_oex (p := p) (pos := pos) T.oex iC tI F (hr.mono hk) b .nil pass0 hg T.m (pa_cons he pa_nil (hs := hst)) hdb hst hpl)
/-- what its reading asks, once the value is there -/
theorem err_go {H1 : Hp} {v : V} {Q : XK} (h : ∀ d, H1 d = none → Q (.ref C) (some d) (upd H1 d (.xd [(f, v)]))) :
    [v].length ≤ 1000 ∧ ∀ a, H1 a = none → spErrInit C f (.ref a :: ([v] ++ [])) (upd H1 a (exo a C none))
      (fun u H2 => u = .non ∧ ∃ (d : Addr) (fs : List (Str × V)), H2 a = some (exo a C (some d)) ∧ H2 d = some (exd d fs) ∧ H1 d = none ∧ Q (.ref C) (some d) (upd (del H2 a) d (.xd fs))) (fun _ _ _ => False) := by
  refine ⟨by show 1 ≤ 1000; decide, fun a na => ⟨a, v, rfl, upd_same, fun dx nd ne => ⟨rfl, dx, [(f, v)], upd_same, ?_, ?_, ?_⟩⟩⟩
  · rw [upd_ne ne, upd_same]
  · rw [upd_ne ne] at nd
    exact nd
  · rw [upd_ne ne] at nd
    rw [err_heap na nd ne]
    exact h dx nd
end
end Sq
namespace Sq
open PySem L2 PySem.Spec PyProof.Rows
/-! ### calls of functions that may raise -/
/-- a promise of a top function that may raise, with all that a call of it asks -/
structure FBX (P : Program) (w : World) (K : PySem.W.Frag) (mg : Str → Option Value) (base : Heap) (x : Str) (k : Nat) (ps : List Str) (sp : Sp) : Prop where
  ex : ∃ (f : Addr) (fd : FuncData), FnOk P w K mg base (L2.CX P w) k f fd ps sp ∧ mg x = some (.ref f) ∧ PySem.W.keepIn K (.ref f) = true ∧ Binds K fd ps []
section
variable {X : Cx} {W : WX} {j k : Nat} {x : Str} {p pos : Pos} {e : Expr} {es : List Expr} {t : TA} {ps : List Str} {sp : Sp}
theorem pe_fbX (F : FBX X.prog X.w X.K X.mg X.base x k ps sp) (tk : Takes X W) (hr : Room j X.A) (hk : k ≤ j) (hg : Gl X x) (ha : PA X (e :: es) t) (hdb : (x == ("__debug__" : Str)) = false := by decide)
    (he : starEach (e :: es) X.env = (false, eval e X.env) :: starEach es X.env := by rfl) (hpl : (backTo pos (starEach es X.env)).any (·.1) = false := by rfl) :
    PE X (.Call (.Name x p) (e :: es) [] pos) (tCallS sp (WE W) t) := by
  obtain ⟨f, fd, G, hm, kk, b⟩ := F.ex
  exact pe_callS G (hr.mono hk) hg hm kk b (fun σ => passAt tk σ) ha hdb he hpl
end
/-! ### isinstance(e, C), e a caught exception that has a dict -/
def rIsX (K : PySem.W.Frag) (a : Addr) (cls : Value) (d : Option Addr) : List V → Hp → VK → Prop := fun xs H Q => ∃ (D dd : Addr) (fs : List (Str × V)) (c : V) (cv : Value) (b : Bool), cls = .ref D ∧ ExcC K D ∧ d = some dd ∧ H dd = some (.xd fs) ∧ xs = [.ref a, c] ∧
  (∀ u, RelV c u → u = cv) ∧ PySem.W.kitOne K (.ref D) cv = some b ∧ Q (.bl b) H
theorem call_isX {X : Cx} {a : Addr} {oe : Obj} {cls : Value} {d : Option Addr} {pn : List (Addr × Obj)} (hz : Zc cls d oe) (hf : ∃ vs, oe.data = .fields vs) : CallR (X.suite a ((a, oe) :: pn)) (.builtin "isinstance") (rIsX X.K a cls d) := by
  intro pins s σ H xs us Q I r h
  obtain ⟨D, dd, fs, c, cv, b, rfl, C, rfl, ea, rfl, hcv, e, q⟩ := h
  obtain ⟨u1, u2, rfl, r1, r2⟩ := vals2 r
  cases (show u1 = Value.ref a from r1)
  have ec := hcv _ r2
  subst ec
  obtain ⟨hget, _⟩ := I.pin (a, oe) (List.mem_append.mpr (.inl List.mem_cons_self))
  obtain ⟨vs, hv⟩ := hf
  have hx : ObjOk X.prog X.w H s.heap dd (.xd fs) := I.hok dd _ ea
  obtain ⟨mA, hns, hr⟩ := hx
  obtain ⟨od, ho, hl⟩ := lookIn_ns hns
  have J : PySem.W.InstAt s.heap a oe D (some od) := ⟨hget, hz.1, by unfold PySem.W.notCls; rw [hv] <;> rfl, by rw [hz.2]; exact ho⟩
  obtain ⟨cd, hcd, _⟩ := PySem.W.any_some C.hd
  exact PySem.W.kia_one (PySem.W.kitx_exc (by rw [hcd]; rfl) C.hg C.hk C.hs C.ha C.hn C.ht C.hm) I.kIn J e (fun z => nomatch z) fun tk => ⟨.bl b, H, I.kept (t' := tk) fun _ _ z => z, rfl, q⟩
/-! ### what a class of errors with the one field given says -/
structure GivenC (P : Program) (w : World) (K : PySem.W.Frag) (mg : Str → Option Value) (base : Heap) (x : Str) (C : Addr) : Prop where
  err : ErrC P w K mg base x "given" C
  exc : ExcC K C
  cls : PySem.W.hasDictIn K C = true
  ty : PySem.W.typeIn K (.ref C) = some (.type "type")
def einitBody (q1 q2 q3 q4 : Pos) : List Stmt := [.Assign [.Attribute (.Name "self" q1) "given" q2] (.Name "given" q3) q4]
theorem ok_einit {P : Program} {w : World} {K : PySem.W.Frag} {mg : Str → Option Value} {base : Heap} {f C : Addr} {fd : FuncData} {q : Str} {st : Stmt} {q1 q2 q3 q4 : Pos} (F : Fun K "__init__" q st f fd) (S : FnScope ["self", "given"] ["self", "given"] (defScope st)) (hb : defBody st = einitBody q1 q2 q3 q4) (h0 : (defScope st).names.lookup ("self" : Str) = some .local) (h1 : (defScope st).names.lookup ("given" : Str) = some .local)
    (T : OexC K C) (no : PySem.W.findIn K (.ref C) "given" = some none) : FnOk P w K mg base CX0 1 f fd ["self", "given"] (spErrInit C "given") := by
  refine F.ok S (fun vs H Q E h => ?_) (fun cdv A outer s H vs Q E hr h => ?_)
  · obtain ⟨a, v, rfl, _⟩ := h
    rfl
  · obtain ⟨a, v, rfl, ha, q⟩ := h
    rw [hb]
    refine ⟨_, pss_one (ps_ost (pv 0 (hv := .inl h0)) (pv 1 (hv := .inl h1))), ?_⟩
    refine ⟨_, rfl, _, rfl, a, C, rfl, T, no, .inl ⟨ha, fun dx n ne => q dx n ne⟩⟩
/-- the classes C and D, asked whether an error of the class C is caught by 'except D' -/
theorem GivenC.exm {P : Program} {w : World} {K : PySem.W.Frag} {mg : Str → Option Value} {base : Heap} {x : Str} {C : Addr} {cls : Value} {b : Bool} (G : GivenC P w K mg base x C) (h : PySem.W.subIn K cls (.ref C) = some b) : PySem.W.exmOne K cls (.ref C) = some b :=
  PySem.W.exm_ref G.err.oex.exC G.cls G.ty h
end Sq
namespace Sq
open PySem L2 PySem.Spec PyProof.Rows L2H
/-! ### comprehensions where an exception is handled -/
section
variable {prog : Program} {w : World} {A : Around} {E : Value → Shared → Prop} {s : Shared}
/-- a walk over a dict's keys ends, while x1 is handled -/
theorem key_end_hot {it d x1 : Addr} {i n ep : Nat} {od : Obj} {es : Array DictEntry} {Q : Option Value → Shared → Prop} (hot : HotX.HotAt A x1 s.heap) (ne : x1 ≠ it) (hi : s.heap.IsKeyIter it d i n ep) (g : s.heap.get? d = some od) (dd : od.data = .dict es ep)
    (sz : es.size = n) (far : n ≤ i) (hQ : ∀ h', (∀ b o, b ≠ it → s.heap.get? b = some o → h'.get? b = some o) → Q none { s with heap := h' }) : wpAny (model prog w) A (pyNext (.ref it)) Q E s := by
  obtain ⟨hh, o1, v1, g1, d1, c1⟩ := hot
  obtain ⟨o, ho, hc, hd⟩ := id hi
  unfold pyNext
  refine wpAny_bind (wpAny_attempt (wpAny_callSpecial?_slot (name := Str.ofString "__next__") hi.typeIs F.slot_dict_keyiterator_next (wpAny_call_entry F.slot_dict_keyiterator_next hi.typeIs F.entry_dict_keyiterator_next ?_ (F.args_dict_keyiterator_next_1 _))))
  refine wpAny_bind (wpAny_pure (wpAny_bind (wpAny_bind ?_)))
  first | refine wpAny_bind (wpAny_typeNameOfWhole_keyiter hi.typeIs (wpAny_pure (wpAny_bind (wpAny_fieldsOf ho hd ?_)))) | refine wpAny_bind (wpAny_typeNameOf_keyiter hi.typeIs (wpAny_pure (wpAny_bind (wpAny_fieldsOf ho hd ?_))))
  simp only [show Builtin.Dict_items.ownsTuple "dict_keyiterator" = false by decide, Bool.false_eq_true, if_false]
  show wpAny _ _ (if (Value.ref d == Value.none) = true then _ else _) _ _ _
  rw [if_neg (show (Value.ref d == Value.none) = true → False from Bool.false_ne_true)]
  refine wpAny_bind (wpAny_pure (wpAny_bind (wpAny_dictEntries g dd ?_)))
  rw [if_neg (by simp [sz])]
  refine wpAny_bind (wpAny_pure (wpAny_bind (wpAny_dictEpoch g dd ?_)))
  rw [if_neg (by simp)]
  have far' : es.size ≤ i := by omega
  refine wpAny_pure ?_
  simp only [show ¬ ((i : Int) < 0) by omega, if_false, Int.toNat_natCast, Array.getElem?_eq_none far']
  refine wpAny_bind ?_
  first | refine wpAny_bind (wpAny_typeNameOfWhole_keyiter hi.typeIs (wpAny_pure ?_)) | refine wpAny_bind (wpAny_typeNameOf_keyiter hi.typeIs (wpAny_pure ?_))
  show wpAny _ _ (setField (.ref it) 0 .none >>= _) _ _ _
  refine wpAny_bind (wpAny_setField ho hd (by simp) ?_)
  have sb := Heap.SameBut.update s.heap it (Obj.mapFields (·.setIfInBounds 0 Value.none))
  show wpAny _ _ (newExc (.type "StopIteration") [] >>= _) _ _ _
  refine wpAny_bind ?_
  simp only [newExc, newTuple]
  refine wpAny_bind (wpAny_newObj_type (wpAny_bind (m := firstArgMember _ _) (wpAny_of_eq (a := Value.none) (by first | rfl | (simp only [firstArgMember]; rfl)) (wpAny_newObj_type ?_ (by size_fits)))) (by size_fits))
  refine HotX.raiseNew_hot ⟨hh, o1, v1, Heap.get?_push_of_some _ (Heap.get?_push_of_some _ ((sb.2 x1 ne).trans g1)), d1, c1⟩ (Nat.ne_of_lt (Heap.lt_size (Heap.get?_push_of_some _ ((sb.2 x1 ne).trans g1)))) (Heap.get?_push_size _ rfl) rfl (by first | (simp; done) | (simp; omega) | (simp only [Array.size_append]; simp; omega)) ?_
  refine wpAny_bind (wpAny_isInstance (T := "StopIteration") (b := true) ⟨_, Heap.get?_update_self _ (Heap.get?_push_size _ rfl) rfl, rfl⟩ isSubtype_stop (wpAny_pure (hQ _ fun b o nb e => ?_)))
  have e2 := Heap.get?_push_of_some { cls := .type "tuple", data := .seq ([] : List Value).toArray } ((sb.2 b nb).trans e)
  rw [Heap.get?_update_other _ _ (Nat.ne_of_gt (Heap.lt_size e2))]
  exact Heap.get?_push_of_some _ e2
end
/-- the keys of a locked dict, where an exception is handled -/
theorem turn_keysH {P : Program} {w : World} {K : PySem.W.Frag} {tg : Expr} {d : Addr} {o : Obj} {es : Array DictEntry} {ep : Nat} {kvs : List (Key × V)} (it : Addr) (hod : o.data = .dict es ep) : TurnH P w K tg (Itk d o kvs) [it] it (fun i h => h.IsKeyIter it d i kvs.length ep) := by
  refine ⟨List.mem_singleton.mpr rfl, fun i h st b hb => ?_, fun i h h' st k => st.at fun oi e => k it (List.mem_singleton.mpr rfl) oi e, ?_, ?_, fun A i s Q E st h => wpAny_pyIter_keyiter st h⟩
  · rw [List.mem_singleton] at hb
    subst hb
    obtain ⟨oi, e, _, dd⟩ := st
    exact ⟨oi, e, fun v z => by rw [dd] at z; cases z⟩
  · intro X hP hw hK _ i pins s σ H E I hf st ⟨hd, hi⟩
    subst hP hw hK
    obtain ⟨f0, f1, f2, f3, f4, f5⟩ := hf it (List.mem_singleton.mpr rfl)
    obtain ⟨hs, hgd, hx, es', ep', vs, hdt, hsz, kv, hm⟩ := I.frzK hd
    obtain ⟨rfl, rfl⟩ := dict_ep hod hdt
    have hkv : kvs[i]? = some kvs[i] := List.getElem?_eq_getElem hi
    obtain ⟨u, hu, ru⟩ := kv_get kv hkv
    have hl : kvs.length = vs.length := Paired.length kv
    rw [hl] at st
    refine wpAny_pyNext_dict_item st hm hu fun key h' hkey st' sb => ?_
    have J : Inv X pins σ H { s with heap := h' } := I.turned (t' := s.toks) (fun b ob hb e => (sb.2 b hb).trans e) f0 f1 f3 f4 f5
    obtain ⟨oi, e1, e2, e3⟩ := id st'
    refine ⟨key, rfl, go_of (s := { s with heap := h' }) e1 e2 e3 (by decide) ⟨kV kvs[i].1, H, J, relV_key (show keyIs kvs[i].1 key = true from hkey), ⟨rfl, kvs[i].1, kvs[i].2, hkv, rfl⟩, by rw [hl]; exact st', fun b hb => (hf b hb).1⟩⟩
  · intro X hP hw hK hot i pins s σ H E I hf st ⟨hd, hi⟩
    subst hP hw hK
    obtain ⟨f0, f1, f2, f3, f4, f5⟩ := hf it (List.mem_singleton.mpr rfl)
    obtain ⟨hs, hgd, hx, es', ep', vs, hdt, hsz, kv, hm⟩ := I.frzK hd
    obtain ⟨rfl, rfl⟩ := dict_ep hod hdt
    obtain ⟨p, ⟨hh, v1, e1, c1⟩, hp⟩ := hot
    have P1 := I.pin p (List.mem_append_left _ hp)
    exact key_end_hot ⟨hh, p.2, v1, P1.1, e1, c1⟩ (f5 p (List.mem_append_left _ hp)) st hgd hdt hsz hi fun h' k => ⟨rfl, I.turned (t' := s.toks) (fun b ob hb e => k b ob hb e) f0 f1 f3 f4 f5⟩
/-- for k in d, d locked -/
theorem pi_keysH {X : Cx} {tg e : Expr} {td : TE} (he : PE X e td) : PIH X tg e (iKeysM td) := by
  refine ⟨fun pins s σ H R I h => thn (he.run pins s σ H _ I h) fun u s1 z => ?_⟩
  obtain ⟨x, H1, I1, rx, d, o, kvs, rfl, hd, q⟩ := z
  cases rx
  obtain ⟨hs, hgd, hx, es, ep, vs, hdt, hsz, kv, hm⟩ := I1.frzK hd
  refine iter_keys hs hgd hx hdt ?_
  have I2 : Inv X pins σ H1 { s1 with heap := s1.heap.push { cls := .type "dict_keyiterator", data := .fields #[.ref d, rawInt 0, rawInt es.size, rawInt ep] } } := I1.kept (t' := s1.toks) fun b ob z => Heap.get?_push_of_some _ z
  refine ⟨s1.heap.objs.size, [s1.heap.objs.size], _, _, H1, rfl, I2, turn_keysH _ hdt, ⟨_, Heap.get?_push_size _ rfl, rfl, ?_⟩, fun b hb => ?_, q⟩
  · rw [hsz] <;> rfl
  · rw [List.mem_singleton] at hb
    subst hb
    exact I1.fpOk (Nat.le_refl _) (I1.hok.fresh (Nat.le_refl _))
end Sq
namespace Sq
open PySem L2 PySem.Spec PyProof.Rows L2H
/-! ### [elt for tg in iter if ..] where an exception is handled -/
/-- the block of a comprehension, with what the def has pinned -/
abbrev hblk (X : Cx) (s : Shared) (H : Hp) (scope : Scope) (cenv : Env) (fp : List Addr) : Cx := (X.blk s H scope cenv fp).tr X.pn noX
section
variable {Y : Cx} {e : Expr} {d : Nat} {acc : Value} {tg : Expr} {ifs : List Expr} {IN : (Shared → Prop) → Shared → Prop} {g : TG} {tt : TT} {ti : TCl} {vs vi : List Nat}
theorem levH (hc : HotC Y) (hxe : Y.xe = noX) (hq : ∀ it, (Code.compLoop e d it acc Y.env).quiet = true) (ht : TurnsSo (model Y.prog Y.w) Y.A Y.env e d acc tg ifs IN)
    (pg : PG Y tg g) (pt : PTs Y ifs tt) (hin : KeepsTo Y vi IN ti) (hvi : ∀ j ∈ vi, j ∈ vs)
    {pins : List (Addr × Obj)} {s : Shared} {σ : L2.St} {H : Hp} {Nx : Hp → Prop} (I : Inv Y pins (wipe σ vs) H s) {it : Addr} {fp : List Addr} {tn : Nat → Heap → Prop} {J : It}
    (T : TurnH Y.prog Y.w Y.K tg J fp it tn) (st : tn 0 s.heap) (hf : ∀ b ∈ fp, FpOk Y pins H b) (h : JLoop J g tt vs ti σ H Nx) :
    codeAny (model Y.prog Y.w) Y.A (.compLoop e d (.ref it) acc Y.env) (fun r s' => r = .ok .next ∧ ∃ H', Inv Y pins (wipe σ vs) H' s' ∧ Nx H') s := by
  obtain ⟨W, ⟨m0, w0⟩, turn⟩ := h
  refine codeAny_loop (hq _) (fun n s' => ∃ i H', Inv Y pins (wipe σ vs) H' s' ∧ tn i s'.heap ∧ (∀ b ∈ fp, H' b = none) ∧ W i n H') ?_ m0
    ⟨0, H, I, st, fun b hb => (hf b hb).1, w0⟩
  rintro n s1 ⟨i, H1, I1, st1, n1, w1⟩
  have fpo : ∀ {H' : Hp}, (∀ b ∈ fp, H' b = none) → ∀ b ∈ fp, FpOk Y pins H' b := fun hn b hb => ⟨hn b hb, (hf b hb).2⟩
  refine wpAny_mono (ht (.ref it) (fun s' => ∃ H', Inv Y pins (wipe σ vs) H' s' ∧ Nx H') (fun s' => ∃ m, m < n ∧ ∃ i H', Inv Y pins (wipe σ vs) H' s' ∧ tn i s'.heap ∧ (∀ b ∈ fp, H' b = none) ∧ W i m H') s1 ?_) (fun fin s' q => ?_) fun _ _ z => False.elim z
  case refine_2 =>
    cases fin with
    | done f => exact ⟨by rw [q.1], q.2⟩
    | again c => exact q
  rcases turn i n H1 w1 with ⟨stop, nx⟩ | ⟨go, N1, hN1, step⟩
  · refine thnF (T.done Y rfl rfl rfl hc i pins s1 _ H1 noX I1 (fpo n1) st1 stop) fun r s2 q => ?_
    obtain ⟨rfl, I2⟩ := q
    exact ⟨H1, I2, nx⟩
  refine thnF (T.item Y rfl rfl rfl hc i pins s1 _ H1 noX I1 (fpo n1) st1 go) fun r s2 q => ?_
  obtain ⟨u, rfl, q⟩ := q
  refine thnF q fun _ s3 z => ?_
  obtain ⟨x, H3, I3, r3, y3, st3, n3⟩ := z
  have P3 := I3.pinned (fpo n3) (T.obj _ _ st3)
  refine thnY hxe (pg.run _ s3 _ H3 x u _ P3 r3 (step x H3 y3)) fun _ s4 z => ?_
  obtain ⟨σ4, H4, I4, hw, q4⟩ := z
  refine thnY hxe (pt.run _ s4 σ4 H4 _ I4 q4) fun b s5 z => ?_
  obtain ⟨H5, I5, q5⟩ := z
  have fin : ∀ {σ' : L2.St} {s' : Shared} {H' : Hp}, Inv Y (pins ++ pinsAt fp s3.heap) σ' H' s' → Kn vs σ4 σ' → N1 H' →
      ∃ m, m < n ∧ ∃ i H', Inv Y pins (wipe σ vs) H' s' ∧ tn i s'.heap ∧ (∀ b ∈ fp, H' b = none) ∧ W i m H' := fun {σ' s' H'} I' kn nx => by
    obtain ⟨m', hm, w'⟩ := hN1 H' nx
    have held : ∀ b ∈ fp, ∀ o, s3.heap.get? b = some o → s'.heap.get? b = some o ∧ H' b = none := fun b hb o z =>
      ⟨(I'.pin (b, o) (List.mem_append_right _ (List.mem_append_right _ (mem_pinsAt hb z)))).1, (I'.pin (b, o) (List.mem_append_right _ (List.mem_append_right _ (mem_pinsAt hb z)))).2.1⟩
    refine ⟨m', hm, i + 1, H', I'.unpinned.weak ?_ (fun j v z => ?_), T.keep _ _ _ st3 (fun b hb o z => (held b hb o z).1), fun b hb => ?_, w'⟩
    · rw [kn.1, ← hw, wipe_length]
    · rw [← hw] at z
      exact kn.2 j v z
    · obtain ⟨o, z, _⟩ := T.obj _ _ st3 b hb
      exact (held b hb o z).2
  cases b with
  | false => exact fin I5 ⟨rfl, fun j v z => (wipe_some z).1⟩ q5
  | true =>
    refine hin _ s5 σ4 H5 N1 _ I5 q5 fun s' σ' H' I' kn nx => fin I' ⟨kn.1, fun j v z => ?_⟩ nx
    obtain ⟨z1, z2⟩ := wipe_some z
    refine kn.2 j v ?_
    rw [wipe_out fun y => z2 (hvi j y)]
    exact z1
end
section
variable {P : Program} {w : World} {A : Around} {elt t0 i0 : Expr} {f0 : List Expr} {scope : Scope} {pos : Pos} {it acc : Value} {env : Env}
theorem turn1_0 : compTurn (.ListComp elt [⟨t0, i0, f0, 0⟩] scope pos) 0 it acc env = (do
    standAt i0.pos
    match ← pyNext it with
    | none => pure (.done .next)
    | some v =>
      letOwnedTupleGo t0 it v
      assign t0 env v
      let mut go := true
      for q in f0 do
        if go then go ← isTrue q env (eval q env)
      if go then
        (do let _ ← call (.builtin "list.append") [acc, ← eval elt env])
      again (.compLoop (.ListComp elt [⟨t0, i0, f0, 0⟩] scope pos) 0 it acc env)) := by rfl
theorem so1_0 : TurnsSo (model P w) A env (.ListComp elt [⟨t0, i0, f0, 0⟩] scope pos) 0 acc t0 f0 (inList (model P w) A env elt acc) := by
  intro it k1 k2 s h
  show wpAny _ A ((compTurn (.ListComp elt [⟨t0, i0, f0, 0⟩] scope pos) 0 it acc env).onRaise (fun x => do noteFrame x env; theTreesLotGoes x)) _ _ s
  refine wpAny_noted ?_
  rw [turn1_0]
  refine wpAny_bind (wpAny_standAt (wpAny_bind (thnF h fun r s1 h1 => ?_)))
  cases r with
  | none => exact wpAny_pure ⟨rfl, h1⟩
  | some v =>
    refine wpAny_bind (thnF h1 fun _ s2 h2 => wpAny_bind (thnF h2 fun _ s3 h3 => wpAny_bind (thnF h3 fun go s4 h4 => ?_)))
    cases go with
    | false => exact wpAny_pure ⟨rfl, h4⟩
    | true => exact wpAny_bind (wpAny_bind (thnF h4 fun y s5 h5 => wpAny_bind (thnF h5 fun _ s6 h6 => wpAny_pure (wpAny_pure ⟨rfl, h6⟩))))
end
section
variable {X : Cx} {pins : List (Addr × Obj)} {s : Shared} {σ : L2.St} {H : Hp}
theorem hblk_start {scope : Scope} {own : List (Str × Nat)} {fp : List Addr} (I : Inv X pins σ H s) (ok : BlkOk X.N X.env.scope scope own) (hN : X.N.Nodup) (hfp : ∀ b ∈ fp, FpOk X pins H b ∧ b < s.heap.objs.size) :
    Inv (hblk X s H scope (compEnvC scope (cellsFrom (s.heap.objs.size + 1) scope.names (cloFrom X.env.cells scope.names [])) s.heap.objs.size X.env) fp) [] (wipe σ (own.map (·.2))) H { s with heap := pushCells (s.heap.push { cls := .type "dict", data := .dict #[] }) scope.names } := by
  have J := block_start I ok hN hfp
  refine ⟨J.ok.toTry X.pn noX, J.os, J.bare, J.base, J.loc, J.cell, J.free, J.freeC, fun p hp => ?_, J.hok, J.len⟩
  have hp : p ∈ X.pn := by rw [List.append_nil] at hp; exact hp
  obtain ⟨a1, a2, a3, a4, a5⟩ := I.pin p (List.mem_append_left _ hp)
  refine ⟨pushCells_keeps _ _ _ _ (Heap.get?_push_of_some _ a1), a2, Nat.ne_of_lt (Heap.lt_size a1), fun z => ?_, a5⟩
  rcases List.mem_cons.mp (I.stkSub _ z) with y | y
  · exact a3 y
  · exact a4 y
theorem pe_lcH {elt tg iter : Expr} {ifs : List Expr} {scope : Scope} {own : List (Str × Nat)} {pos : Pos} {wi : TI} {g : TG} {tt : TT} {te : TE} (hc : HotC X) (hN : X.N.Nodup) (hi : PIH X tg iter wi) (ok : BlkOk X.N X.env.scope scope own)
    (b1 : ∀ (s : Shared) (H : Hp) (C : Addr) (cl : List (Str × Addr)) (fp : List Addr), PG (hblk X s H scope (compEnvC scope cl C X.env) fp) tg g) (b2 : ∀ (s : Shared) (H : Hp) (C : Addr) (cl : List (Str × Addr)) (fp : List Addr), PTs (hblk X s H scope (compEnvC scope cl C X.env) fp) ifs tt)
    (b3 : ∀ (s : Shared) (H : Hp) (C : Addr) (cl : List (Str × Addr)) (fp : List Addr), PE (hblk X s H scope (compEnvC scope cl C X.env) fp) elt te)
    (hs : ∀ x, foldedSetIterable iter X.env x = pure x := by intro _; rfl) :
    PE X (.ListComp elt [⟨tg, iter, ifs, 0⟩] scope pos) (tLc wi g tt te (own.map (·.2))) := by
  refine ⟨fun pins s σ H Q I h => ?_⟩
  rw [eval_ListComp]
  have held : ∀ y ∈ scope.names, y.2 = .free → ∃ c, X.env.cells.lookup y.1 = some c := fun y hy z => (ok.free y hy z).elim (fun k => I.ok.has _ (.inl k)) fun k => I.ok.has _ (.inr k)
  refine wpAny_comprehension_free (use := none) rfl hs (closure_ok held) ok.kind (fun y hy z => (ok.uniq y hy).trans (congrArg some z)) (thn (hi.run pins s σ H _ I h) fun xv s1 hx => thn hx fun itv s2 z => ?_)
  obtain ⟨it, fp, tn, J, H2, rfl, I2, T, st2, f2, q⟩ := z
  refine wpAny_newObj_type (newEnv_comp ?_) (by show 0 ≤ sizeLine; decide)
  have hDn : H2 s2.heap.objs.size = none := I2.hok.fresh (Nat.le_refl _)
  have loops := q _ hDn
  generalize hO : ({ cls := .type "list", data := .seq ([] : List Value).toArray } : Obj) = O
  have I3 : Inv X pins σ (upd H2 s2.heap.objs.size (.lst [])) { s2 with heap := s2.heap.push O } := by
    subst hO
    exact I2.laid (t' := s2.toks) (fun b o z => Heap.get?_push_of_some _ z) (Nat.le_refl _) ⟨Nat.zero_le _, [], 0, .nil, Heap.get?_push_size _ rfl⟩
  have low : ∀ b ∈ fp, b < s2.heap.objs.size := fun b hb => by
    obtain ⟨o, z, _⟩ := T.obj _ _ st2 b hb
    exact Heap.lt_size z
  have f3 : ∀ b ∈ fp, FpOk X pins (upd H2 s2.heap.objs.size (.lst [])) b ∧ b < (s2.heap.push O).objs.size := fun b hb =>
    ⟨⟨by rw [upd_ne (Nat.ne_of_lt (low b hb))]; exact (f2 b hb).1, (f2 b hb).2⟩, by rw [Heap.size_push]; exact Nat.lt_succ_of_lt (low b hb)⟩
  have st3 : tn 0 (s2.heap.push O) := T.keep _ _ _ st2 fun b _ o z => Heap.get?_push_of_some _ z
  generalize hs3 : ({ s2 with heap := s2.heap.push O } : Shared) = s3 at I3 ⊢
  have h3 : s3.heap = s2.heap.push O := by rw [← hs3]
  rw [← h3] at f3 st3
  generalize s2.heap.objs.size = D at I3 f3 loops ⊢
  have I4 := hblk_start I3 ok hN f3
  have pg := b1 s3 (upd H2 D (.lst [])) s3.heap.objs.size (cellsFrom (s3.heap.objs.size + 1) scope.names (cloFrom X.env.cells scope.names [])) fp
  have pt := b2 s3 (upd H2 D (.lst [])) s3.heap.objs.size (cellsFrom (s3.heap.objs.size + 1) scope.names (cloFrom X.env.cells scope.names [])) fp
  have pe := b3 s3 (upd H2 D (.lst [])) s3.heap.objs.size (cellsFrom (s3.heap.objs.size + 1) scope.names (cloFrom X.env.cells scope.names [])) fp
  generalize hY : hblk X s3 (upd H2 D (.lst [])) scope (compEnvC scope (cellsFrom (s3.heap.objs.size + 1) scope.names (cloFrom X.env.cells scope.names [])) s3.heap.objs.size X.env) fp = Y at I4 pg pt pe
  have hin := keeps_list (Y := Y) (D := D) (vs := []) (by subst hY; rfl) pe
  have st4 : tn 0 (pushCells (s3.heap.push { cls := .type "dict", data := .dict #[] }) scope.names) := T.keep _ _ _ st3 fun b _ o z => pushCells_keeps _ _ _ _ (Heap.get?_push_of_some _ z)
  have f4 : ∀ b ∈ fp, FpOk Y [] (upd H2 D (.lst [])) b := fun b hb => by
    subst hY
    exact ⟨(f3 b hb).1.1, (I4.ok.exf b hb).1, I4.ok.exfs b hb, .inl hb, fun x c z => (I4.ok.exf b hb).2 x c z, fun p hp => (f3 b hb).1.2.2.2.2.2 p (List.mem_append_left _ (by rw [List.append_nil] at hp; exact hp))⟩
  have hotY : HotC Y := by
    subst hY
    exact hc
  have hl : codeAny (model Y.prog Y.w) Y.A (.compLoop (.ListComp elt [⟨tg, iter, ifs, 0⟩] scope pos) 0 (.ref it) (.ref D) Y.env) (fun r s' => r = .ok .next ∧ ∃ H', Inv Y [] (wipe σ (own.map (·.2))) H' s' ∧ Q (.ref D) H') _ :=
    levH hotY (by subst hY; rfl) (fun it => rfl) so1_0 pg pt hin (fun _ z => nomatch z) I4 (by subst hY; exact T) st4 f4 loops
  subst hY
  have run := codeAny_mono hl (R' := compPost (model X.prog X.w) X.A X.xe none (EP X pins σ Q) (.ref D) s3.heap.objs.size) fun r s6 z => by
    obtain ⟨rfl, H6, I6, q6⟩ := z
    have I7 : Inv X pins σ H6 s6 := I3.call' (ch := fp) I6.os I6.base I6.hok I6.bare fun b hb => ⟨(f3 b hb).1.2.2.2.1, (f3 b hb).1.2.1, (f3 b hb).1.2.2.2.2.1, (f3 b hb).1.2.2.2.2.2⟩
    obtain ⟨m, hn, _⟩ := I6.loc
    obtain ⟨a0, a1, a2, a3, a4, a5⟩ := I3.fpOk (Nat.le_refl _) (show H6 s3.heap.objs.size = none from I6.free)
    exact ⟨m, hn, fun h'' sb => ⟨.ref D, H6, I7.turned (t' := s6.toks) (fun b o hb z => (sb.2 b hb).trans z) a0 a1 a3 a4 a5, rfl, q6⟩⟩
  exact codeAny_compStart_list run (T.self X.A 0 _ _ _ st4 run)
end
end Sq
namespace Sq
open PySem L2 PySem.Spec PyProof.Rows
/-! ### except (C1, C2, C3) as n, the error's context None -/
theorem fly_keeps {B h h' : Heap} {l : List Env} {a : Addr} {Z : Obj → Prop} (x : HandSPX.FlyingZ B l a Z h) (k : ∀ b o, h.get? b = some o → h'.get? b = some o) : HandSPX.FlyingZ B l a Z h' := by
  obtain ⟨x1, x2, x3, oe, vs, T, oT, ts, e1, e2, e3, e4, e5, e6, e7, e8, e9⟩ := x
  exact ⟨fun b o z => k b o (x1 b o z), x2, x3.of_keeps fun b o z _ => ⟨o, k b o z, rfl⟩, oe, vs, T, oT, ts, k _ _ e1, e2, e3, e4, e5, e6, k _ _ e7, e8, e9⟩
/-- what the clause wishes of an exception: that it is caught, and what its suite does -/
def wTup (K : PySem.W.Frag) (i : Nat) (ts : Addr → Value → Option Addr → TS) (cs : List Value) (D : Ends) : WX := fun cls d σ H => PySem.W.exmAny K cls cs = some true ∧
  ∀ a, H a = none → ts a cls d (Clause.ends ⟨.none, some i, ts⟩ D) (σ.set i (some (.ref a))) H
def SuiteN (X : Cx) (sts : List Stmt) (ts : Addr → Value → Option Addr → TS) : Prop :=
  ∀ (a : Addr) (oe : Obj) (cls : Value) (d : Option Addr) (pn : List (Addr × Obj)), L2N.Zn cls d oe → (∃ vs, oe.data = .fields vs) → PSs (X.suite a ((a, oe) :: pn)) sts (ts a cls d)
section
variable {X : Cx}
theorem tup3_ok {a : Addr} {x1 x2 x3 n : Str} {c1 c2 c3 cls : Value} {i : Nat} {ts : Addr → Value → Option Addr → TS} {b₀ : Stmt} {suite : List Stmt} {p1 p2 p3 tpos pos : Pos} {kk : Nat} (hN : X.N.Nodup) (hs : X.stack = X.env :: X.outer) (hf : X.env.frame = some X.env.locals)
    {D : Ends} {pins : List (Addr × Obj)} {σ : L2.St} {H : Hp} {sI s' : Shared} {B h3 : Heap} {d : Option Addr}
    (ok : X.Ok) (J : Inv X pins σ H sI) (nb : ∀ b o, sI.heap.get? b = some o → b ∉ frs X.stack → B.get? b = some o) (up : sI.heap.UpToSlots h3) (na : H a = none) (os : s'.os = sI.os) (ag : AllBare s'.gens)
    (fl : HandSPX.FlyingZ B (X.env :: X.outer) a (L2N.Zn cls d) h3) (n1 : Names X x1 c1) (n2 : Names X x2 c2) (n3 : Names X x3 c3) (hi : X.N[i]? = some n) (hn : X.env.kindOf n = some .local) (hsu : SuiteN X (b₀ :: suite) ts) (w : wTup X.K i ts [c1, c2, c3] D cls d σ H) :
    wpAny (model X.prog X.w) X.A (handleBy (.ref a) X.env [.ExceptHandler (some (.Tuple [.Name x1 p1, .Name x2 p2, .Name x3 p3] kk tpos)) (some n) (b₀ :: suite) pos]) (SP X pins D) X.xe { s' with heap := h3 } := by
  have J3 : Inv X pins σ H { s' with heap := h3 } := J.landed nb fl.1 up os ag
  obtain ⟨o3, v3, e3, z3, d3⟩ := fl.there
  have away : a ∉ frs (X.env :: X.outer) := fun hm => by
    obtain ⟨_, o', e', hnf⟩ := fl.2.2.1.mem hm
    exact hnf _ ((Option.some.inj (e3.symm.trans e')) ▸ d3)
  have nL : a ≠ X.env.locals := fun z => away (List.mem_filterMap.mpr ⟨X.env, List.mem_cons_self, by rw [hf, z]⟩)
  have nF : a ∉ X.fs := fun hm => by
    obtain ⟨y, hy, q⟩ := List.mem_filterMap.mp hm
    exact away (List.mem_filterMap.mpr ⟨y, List.mem_cons_of_mem _ hy, q⟩)
  have S3 := J3.suite e3 d3 na nL nF
  have LT : PySem.W.Looks (model X.prog X.w) h3 (typeOf (.ref a)) cls := fun A Q E s k q => wpAny_typeOf_ref (k _ _ e3) (by rw [z3.1]; exact q)
  have asked : ∀ {x : Str} {c : Value} {np : Pos}, Names X x c → ∀ {Q E : Value → Shared → Prop}, Q c { s' with heap := h3 } → wpAny (model X.prog X.w) (X.A.mark (some (.ref a))) (eval (.Name x np) X.env) Q E { s' with heap := h3 } := fun {x c np} hc {Q E} q => by
    obtain ⟨hg, hd, hm | ⟨hm, hv, hn⟩⟩ := hc
    · exact ld_glob (X := X.suite a ((a, o3) :: (X.pn ++ pins))) S3 hg hm q hd
    · exact ld_blt (X := X.suite a ((a, o3) :: (X.pn ++ pins))) S3 hg hm hv q hn hd
  obtain ⟨hb, yes⟩ := w
  have kp : ∀ b o, h3.get? b = some o → (h3.push { cls := .type "tuple", data := .seq [c1, c2, c3].toArray }).get? b = some o := fun _ _ z => Heap.get?_push_of_some _ z
  refine wpAny_handleBy_cons (codeAny_handlers_test (wpAny_Tuple (wpAny_items_cons (asked n1 (wpAny_items_cons (asked n2 (wpAny_items_cons (asked n3 (wpAny_items_nil ⟨by size_fits, ?_⟩))))))))) (fun q => nomatch q)
  refine ((PySem.W.exm_tup3 (M := model X.prog X.w) (J3.kIn.keeps kp) (LT.keeps kp) (Heap.get?_push_size h3 rfl) hb).here ?_)
  refine codeAny_handlers_suite_as (HandSPX.lands_againZ (s := ({ s' with heap := h3.push { cls := .type "tuple", data := .seq [c1, c2, c3].toArray } } : Shared)) (fly_keeps fl kp) fun h4 fl4 up4 => ?_)
  obtain ⟨o4, v4, e4, z4, d4⟩ := fl4.there
  have S4 := (J.landed (s' := { s' with heap := h4 }) nb fl4.1 ((up.trans (Heap.UpToSlots.of_keeps kp)).trans up4) os ag).suite e4 d4 na nL nF
  refine store_ok (X := X.suite a ((a, o4) :: (X.pn ++ pins))) (v := .ref a) S4 hN hi (.inl hn) rfl (fun s5 S5 => ?_) (.inr hn)
  refine wpAny_mono ((hsu a o4 cls d (X.pn ++ pins) z4 ⟨_, d4⟩).run [] s5 _ H _ S5 (yes a na)) (fun f s6 q => ?_) (fun _ _ z => False.elim z)
  match f, q with
  | .next, ⟨σ6, H6, S6, q6⟩ => exact gone_ok (S6.unsuite ok) hN hi hn fun s7 J7 => ⟨_, _, J7, q6⟩
  | .brk, ⟨σ6, H6, S6, q6⟩ => exact gone_ok (S6.unsuite ok) hN hi hn fun s7 J7 => ⟨_, _, J7, q6⟩
  | .cont, ⟨σ6, H6, S6, q6⟩ => exact gone_ok (S6.unsuite ok) hN hi hn fun s7 J7 => ⟨_, _, J7, q6⟩
  | .ret u, ⟨v6, σ6, H6, S6, r6, q6⟩ => exact gone_ok (S6.unsuite ok) hN hi hn fun s7 J7 => ⟨_, _, _, J7, r6, q6⟩
/-- try: body, except (C1, C2, C3) as n: suite -/
theorem ps_try3 {x1 x2 x3 n : Str} {c1 c2 c3 : Value} {i : Nat} {ts : Addr → Value → Option Addr → TS} {body suite : List Stmt} {b₀ : Stmt} {p1 p2 p3 tpos pos' pos : Pos} {kk : Nat} {tb : WX → TS} (hN : X.N.Nodup) (hs : X.stack = X.env :: X.outer) (hf : X.env.frame = some X.env.locals)
    (n1 : Names X x1 c1) (n2 : Names X x2 c2) (n3 : Names X x3 c3) (hi : X.N[i]? = some n) (hn : X.env.kindOf n = some .local)
    (hb : ∀ (W : WX) (pn : List (Addr × Obj)) (xe : Value → Shared → Prop), L2N.Takes (X.tr pn xe) W → PassesOwn (model X.prog X.w) X.A X.env xe → PSs (X.tr pn xe) body (tb W)) (hsu : SuiteN X (b₀ :: suite) ts) :
    PS X (.Try body [.ExceptHandler (some (.Tuple [.Name x1 p1, .Name x2 p2, .Name x3 p3] kk tpos)) (some n) (b₀ :: suite) pos'] [] [] pos) (fun D σ H => tb (wTup X.K i ts [c1, c2, c3] D) D σ H) := by
  refine ⟨fun pins s σ H D I h => wpAny_Try_except ?_⟩
  have ok := I.ok
  have hfr : X.A.frames = some (X.env :: X.outer) := by rw [ok.frames, hs]
  have run := (hb (wTup X.K i ts [c1, c2, c3] D) (X.pn ++ pins) (fun e s₁ => wpAny (model X.prog X.w) X.A (noteFrame e X.env) (fun _ s₂ => wpAny (model X.prog X.w) X.A (setFlight e none) (fun _ s₃ => wpAny (model X.prog X.w) X.A (handleBy e X.env [.ExceptHandler (some (.Tuple [.Name x1 p1, .Name x2 p2, .Name x3 p3] kk tpos)) (some n) (b₀ :: suite) pos']) (SP X pins D) X.xe s₃) X.xe s₂) X.xe s₁)
    (fun u s' x => by
      obtain ⟨a, B, sI, pins', σ', H', cls, d, rfl, J', nb, up, sky, na, os, ag, w⟩ := x
      have sky' : Sky B (X.env :: X.outer) a (L2N.Zn cls d) X.env.locals s'.heap := by rw [← hs]; exact sky
      show wpAny (model X.prog X.w) X.A (noteFrame (.ref a) X.env) _ _ _
      exact L2N.Sky.land L2N.Zn.steady hfr hf sky' fun h3 fl3 up3 => tup3_ok hN hs hf ok (J'.ofTry ok) nb (up.trans up3) na os ag fl3 n1 n2 n3 hi hn hsu w) PassesOwn.looking).run [] s σ H D (I.toTry _) h
  refine wpAny_mono run (fun f s1 q => ?_) (fun _ _ z => z)
  match f, q with
  | .next, ⟨σ', H', J', q⟩ => exact wpAny_execs_nil ⟨σ', H', J'.ofTry ok, q⟩
  | .brk, ⟨σ', H', J', q⟩ => exact ⟨σ', H', J'.ofTry ok, q⟩
  | .cont, ⟨σ', H', J', q⟩ => exact ⟨σ', H', J'.ofTry ok, q⟩
  | .ret u, ⟨v, σ', H', J', r, q⟩ => exact ⟨v, σ', H', J'.ofTry ok, r, q⟩
end
end Sq
namespace Sq
open PySem L2 PySem.Spec PyProof.Rows L2H
/-! ### a function called while the error p is handled; its promise may speak of p -/
def FnP (P : Program) (w : World) (K : PySem.W.Frag) (mg : Str → Option Value) (base : Heap) (k : Nat) (f : Addr) (sp : Addr × Obj → Sp) : Prop :=
  ∀ (p : Addr × Obj) (A : Around) (fr : List Env) (s : Shared) (H : Hp) (us : List Value) (vs : List V) (Q : VK), RoomH k A → Hot1 A p → PinOk fr H s p → Env0 P w K mg base A fr s H → Vals vs us → sp p vs H Q E0 →
    codeAny (model P w) A (.call (.ref f) ⟨us, []⟩) (CR CX0 fr P w H s Q E0) s
section
variable {P : Program} {w : World} {K : PySem.W.Frag} {mg : Str → Option Value} {base : Heap} {k : Nat} {f : Addr} {fd : FuncData} {sp : Addr × Obj → Sp} {x qual : Str} {st : Stmt} {N ps : List Str}
theorem FnP.of (F : Fun K x qual st f fd) (S : FnScope N ps (defScope st)) (b : Binds K fd ps []) (len : ∀ p vs H Q, sp p vs H Q E0 → vs.length = ps.length)
    (hbody : ∀ (p : Addr × Obj) (cdv : Value) (A : Around) (fr : List Env) (s : Shared) (H : Hp) (vs : List V) (Q : VK), Hot1 A p → RoomH k (A.deeper (envOfC qual (defScope st) s.heap.objs.size f cdv)) → sp p vs H Q E0 →
      ∃ t, PSs (cxH CX0 P w K mg base N qual (defScope st) f cdv A fr s H E0 p).nox (defBody st) t ∧ t { nx := fun _ H' => Q .non H', rt := Q } (L2.start N vs) H) : FnP P w K mg base (k + 1) f sp := by
  intro p A fr s H us vs Q hr hot hpin e0 r hsp
  obtain ⟨oc, od, kV, doc, pm, an, cdv, ct, osl, rfl, lk, hcd⟩ := F.ex
  have hl : vs.length = ps.length := len p vs H Q hsp
  have kin : K.In s.heap := e0.mod.kin.keeps fun b o e => (e0.bs b o e).1
  have lim : s.heap.NoLimit := e0.mod.nolimit.keeps fun b o e => (e0.bs b o e).1
  have kinds : ∀ y ∈ ps.zip us, (defScope st).names.lookup y.1 = some .local ∨ ((defScope st).names.lookup y.1 = some .cell ∧ ((cellsFrom (s.heap.objs.size + 1) (defScope st).names []).lookup y.1).isSome = true) := fun ⟨n, v⟩ hy =>
    (S.par n (List.of_mem_zip hy).1).elim .inl fun q => .inr ⟨q, PySem.W.cellsFrom_some _ _ _ (.inl q)⟩
  have bt := b s us kin (by rw [List.append_nil, ← r.length]; exact hl)
  rw [List.append_nil] at bt
  refine codeAny_call_function hr.depth (kin _ _ lk) rfl S.co S.gen rfl (PySem.W.codeRec_of kin hcd) (bt _ _ _ _ (wpAny_newFunctionEnv_cells S.kind kinds fun env he s1 y => ?_))
  subst he
  obtain ⟨t, ht, q⟩ := hbody p cdv A fr s H vs Q hot (hr.deeper _) hsp
  have I := inv_startH (CX := CX0) (E := E0) S hpin e0 hl r y
  refine ⟨lim.keeps y.toInCall.keep, codeAny_func (wpAny_mono (ht.nox.run [] s1 _ H _ I q) (fun fl s' hs => ?_) fun e s' hs => hs)⟩
  match fl, hs with
  | .ret u, ⟨v, σ', H', J, rv, z⟩ => exact ⟨v, H', J.os, J.bare, J.base, J.hok, rv, z⟩
  | .next, ⟨σ', H', J, z⟩ => exact ⟨.non, H', J.os, J.bare, J.base, J.hok, rfl, z⟩
  | .brk, ⟨_, _, _, z⟩ => exact z.elim
  | .cont, ⟨_, _, _, z⟩ => exact z.elim
end
/-- with all that a call asks -/
structure FBP (P : Program) (w : World) (K : PySem.W.Frag) (mg : Str → Option Value) (base : Heap) (x : Str) (k : Nat) (sp : Addr × Obj → Sp) : Prop where
  ex : ∃ f : Addr, FnP P w K mg base k f sp ∧ mg x = some (.ref f) ∧ PySem.W.keepIn K (.ref f) = true
section
variable {X : Cx} {j k : Nat} {x : Str} {p pos : Pos} {e : Expr} {es : List Expr} {t : TA} {sp : Addr × Obj → Sp} {pe : Addr × Obj}
theorem pe_fbP (F : FBP X.prog X.w X.K X.mg X.base x k sp) (hr : RoomH j X.A) (hk : k ≤ j) (hot : Hot1 X.A pe) (hp : pe ∈ X.pn) (hg : Gl X x) (ha : PA X (e :: es) t) (hdb : (x == ("__debug__" : Str)) = false := by decide)
    (he : starEach (e :: es) X.env = (false, eval e X.env) :: starEach es X.env := by rfl) (hpl : (backTo pos (starEach es X.env)).any (·.1) = false := by rfl) :
    PE X (.Call (.Name x p) (e :: es) [] pos) (tCallG (sp pe) t) := by
  obtain ⟨f, G, hm, kk⟩ := F.ex
  constructor
  intro pins s σ H Q I h
  refine wpAny_Call_Name_kw (ld_glob I hg hm (PySem.W.callWith_K (h₀ := X.base) I.ok.mod.kin kk ?_ he hpl) hdb)
  refine thn (ha.run pos pins s σ H _ I h) ?_
  rintro us s1 ⟨vs, H1, I1, r, q⟩
  obtain ⟨a1, a2, a3, a4, a5⟩ := I1.pin pe (List.mem_append_left _ hp)
  have pin : PinOk X.stack H1 s1 pe := ⟨a1, a2, fun hm => (List.mem_cons.mp (I1.stkSub _ hm)).elim a3 a4, a5⟩
  refine ⟨I1.kIn, wpAny_call (codeAny_mono (G pe X.A X.stack s1 H1 us vs Q (hr.mono hk) hot pin I1.env0 r q) fun z s' hz => ?_)⟩
  match z, hz with
  | .error _, hz => exact False.elim hz
  | .ok (.ret _), hz => exact I1.after hz
  | .ok .next, hz => exact False.elim hz
  | .ok .brk, hz => exact False.elim hz
  | .ok .cont, hz => exact False.elim hz
end
/-! ### isinstance(e, C) and e.f of the handled error, wherever it is pinned -/
section
variable {X : Cx} {pe : Addr × Obj} {cls : Value} {d : Option Addr}
theorem call_isP (hp : pe ∈ X.pn) (hz : L2N.Zn cls d pe.2) (hf : ∃ vs, pe.2.data = .fields vs) : CallR X (.builtin "isinstance") (rIsX X.K pe.1 cls d) := by
  intro pins s σ H xs us Q I r h
  obtain ⟨D, dd, fs, c, cv, b, rfl, C, rfl, ea, rfl, hcv, e, q⟩ := h
  obtain ⟨u1, u2, rfl, r1, r2⟩ := vals2 r
  cases (show u1 = Value.ref pe.1 from r1)
  have ec := hcv _ r2
  subst ec
  have hget := (I.pin pe (List.mem_append_left _ hp)).1
  obtain ⟨vs, hv⟩ := hf
  have hx : ObjOk X.prog X.w H s.heap dd (.xd fs) := I.hok dd _ ea
  obtain ⟨mA, hns, hr⟩ := hx
  obtain ⟨od, ho, hl⟩ := lookIn_ns hns
  have J : PySem.W.InstAt s.heap pe.1 pe.2 D (some od) := ⟨hget, hz.1, by unfold PySem.W.notCls; rw [hv] <;> rfl, by rw [hz.2.1]; exact ho⟩
  obtain ⟨cd, hcd, _⟩ := PySem.W.any_some C.hd
  exact PySem.W.kia_one (PySem.W.kitx_exc (by rw [hcd]; rfl) C.hg C.hk C.hs C.ha C.hn C.ht C.hm) I.kIn J e (fun z => nomatch z) fun tk => ⟨.bl b, H, I.kept (t' := tk) fun _ _ z => z, rfl, q⟩
theorem pe_xfP {C : Addr} {e : Expr} {te : TE} {pos : Pos} {n : Str} (T : XfC X.K C) (hno : PySem.W.findIn X.K (.ref C) n = some none) (hp : pe ∈ X.pn) (hz : L2N.Zn cls d pe.2) (hf : ∃ vs, pe.2.data = .fields vs) (he : PE X e te)
    (hb : attributeBase e n X.env (eval e X.env) = eval e X.env := by rfl) : PE X (.Attribute e n pos) (tXf pe.1 cls d C n te) := by
  refine ⟨fun pins s σ H Q I h => attr_of hb (thn (he.run pins s σ H _ I h) fun u s1 hh => ?_)⟩
  obtain ⟨x, H1, I1, rx, rfl, rfl, dd, fs, v, rfl, ea, l, q⟩ := hh
  cases (show u = Value.ref pe.1 from rx)
  have ha := (I1.pin pe (List.mem_append_left _ hp)).1
  obtain ⟨vs, hd⟩ := hf
  have hx : ObjOk X.prog X.w H1 s1.heap dd (.xd fs) := I1.hok dd _ ea
  obtain ⟨mA, hns, hr⟩ := hx
  obtain ⟨od, ho, hl⟩ := lookIn_ns hns
  obtain ⟨u, hu, ru⟩ := RelO.some_of (v := v) (o := mA n) (by rw [← l]; exact hr n)
  have J : PySem.W.InstAt s1.heap pe.1 pe.2 C (some od) := ⟨ha, hz.1, by unfold PySem.W.notCls; rw [hd] <;> rfl, by rw [hz.2.1]; exact ho⟩
  exact HandSPX.exc_get I1.kIn J T.ga T.gg T.exC (PySem.W.findObj_own T.hdC hno rfl (by rw [hl, hu])) (handed_of ru) ⟨v, H1, I1.tok _, ru, q⟩
end
end Sq
namespace Sq
open PySem L2 PySem.Spec PyProof.Rows L2H LamX
/-! ### raise C(e), C an own class with an __init__, the error's context None -/
section
variable {X : Cx} {e : Expr} {es : List Expr} {ta : TA} {p pos : Pos}
theorem pmk_oexN {CX : CXT} {x : Str} {C fI : Addr} {k : Nat} {fd : FuncData} {ps : List Str} {sp : Sp} (T : OexC X.K C) (iC : PySem.W.findIn X.K (.ref C) "__init__" = some (some (.ref fI))) (tI : PySem.W.typeIn X.K (.ref fI) = some (.type "function"))
    (F1 : FnOk X.prog X.w X.K X.mg X.base CX k fI fd ps sp) (hr : Room (k + 1) X.A) (hb : Binds X.K fd ps []) (hx : Passes CX X (fun _ _ _ => False)) (hg : Gl X x) (hm : X.mg x = some (.ref C)) (ha : PA X (e :: es) ta)
    (hdb : (x == ("__debug__" : Str)) = false := by decide) (he : starEach (e :: es) X.env = (false, eval e X.env) :: starEach es X.env := by rfl) (hpl : (backTo pos (starEach es X.env)).any (·.1) = false := by rfl) :
    L2N.PMk X (.Call (.Name x p) (e :: es) [] pos) (tMkO C sp [] ta) := by
  intro pins s σ H Q I h
  obtain ⟨nm, q, N, bs, bm, sn, sub, ab, col, dd, k0, k1, k2, k3, k5, hC, hbm⟩ := T.cls
  refine wpAny_Call_Name_kw (ld_glob I hg hm (PySem.W.callWith_K (h₀ := X.base) I.ok.mod.kin T.kC (thn (ha.run pos pins s σ H _ I h) fun us s1 z => ?_) he hpl) hdb)
  obtain ⟨vs, H1, I1, r1, _, q1⟩ := z
  refine ⟨I1.kIn, ?_⟩
  show wpAny _ _ (call (.ref C) us) _ _ _
  obtain ⟨hp, g, dr, tk, os⟩ := s1
  have new : H1 (hp.objs.size + 1) = none := I1.hok.fresh (Nat.le_succ _)
  have asked := q1 (hp.objs.size + 1) new
  have old : ∀ b o, hp.get? b = some o → ((hp.push (PySem.W.kdv_tup us)).push (PySem.HandSPX.excO C hp.objs.size)).get? b = some o := fun b o e => Heap.get?_push_of_some _ (Heap.get?_push_of_some _ e)
  have there : ((hp.push (PySem.W.kdv_tup us)).push (PySem.HandSPX.excO C hp.objs.size)).get? (hp.objs.size + 1) = some (PySem.HandSPX.excO C hp.objs.size) := by heap_get
  have I2 : Inv X pins σ (upd H1 (hp.objs.size + 1) (exo (hp.objs.size + 1) C none)) ⟨(hp.push (PySem.W.kdv_tup us)).push (PySem.HandSPX.excO C hp.objs.size), g, dr, tk, os⟩ :=
    I1.laid (t' := tk) (a := hp.objs.size + 1) (o := exo (hp.objs.size + 1) C none) (h' := (hp.push (PySem.W.kdv_tup us)).push (PySem.HandSPX.excO C hp.objs.size)) old (Nat.le_succ _) (exo_ok there)
  have r2 : Vals (V.ref (hp.objs.size + 1) :: (vs ++ [])) (Value.ref (hp.objs.size + 1) :: (us ++ [])) := .cons rfl (r1.append .nil)
  have many : (Value.ref (hp.objs.size + 1) :: us ++ []).length = ps.length := by
    have z := r2.length
    rw [F1.len _ _ _ _ asked] at z
    exact z.symm
  have bt := hb _ (Value.ref (hp.objs.size + 1) :: us) I2.kIn many
  rw [List.cons_append] at bt
  have few : us.length ≤ sizeLine := by
    rw [← Paired.length r1, sizeLine_eq]
    omega
  refine wpAny_call (PySem.HandSPX.call_own PySem.F.excBase_ValueError (fun Y => PySem.HandSPX.refsVE_contains Y bm hbm) (I1.kIn _ _ hC) (PySem.W.looks_findIn I1.kIn iC) (fun self => PySem.W.bind_fn I1.kIn self tI) few
    (codeAny_mono (F1.run _ X.stack _ _ ⟨Value.ref (hp.objs.size + 1) :: us, []⟩ (Value.ref (hp.objs.size + 1) :: (us ++ [])) _ _ (fun _ _ _ => False) (hr.make C us []) (I2.env0.make C us []) bt r2 asked) fun r s' z => ?_))
  match r, z with
  | .error er, z => exact hx pins σ _ _ er s' I2 z
  | .ok (.ret u), ⟨v, H2, os2, bare2, un2, hok2, rv, ev, d, fs, ea, ed, hd1, q2⟩ =>
    subst ev
    obtain ⟨h2, g2, d2, t2, os'⟩ := s'
    obtain ⟨t0, G, J, kG, ge, hoe, na⟩ := mk_end0 (d2 := d2) (t2 := t2) I1 (Nat.le_succ _) old un2 hok2 os2 bare2 ea ed hd1
    exact ⟨rv, _, _, _, ⟨G, g2, d2, t2, os'⟩, _, .ref C, some d, rfl, J, kG, ge, hoe, ⟨rfl, rfl, fun vs' e' => by cases e'; rfl⟩, rfl, rfl, na, rfl, bare2, raises_own T.exC T.tyC, q2⟩
  | .ok .next, z => exact z.elim
  | .ok .brk, z => exact z.elim
  | .ok .cont, z => exact z.elim
theorem ps_errN {W : WX} {x f : Str} {C : Addr} {te : TE} {k : Nat} {pos2 : Pos} (T : ErrC X.prog X.w X.K X.mg X.base x f C) (hc : X.calm = true) (tk : L2N.Takes X W) (hr : Room k X.A) (hk : 2 ≤ k) (hg : Gl X x) (he : PE X e te)
    (hdb : (x == ("__debug__" : Str)) = false := by decide) (hst : starEach (e :: []) X.env = (false, eval e X.env) :: starEach [] X.env := by rfl) (hpl : (backTo pos (starEach [] X.env)).any (·.1) = false := by rfl) :
    PS X (.Raise (some (.Call (.Name x p) [e] [] pos)) none pos2) (fun _ σ H => tMkO C (spErrInit C f) [] (tCons te tNil) σ H fun cls d H' => W cls d σ H') := by
  obtain ⟨fI, fd, ps, iC, tI, F, b⟩ := T.ex
  exact L2N.ps_raise (pos := pos2) hc tk (pmk_oexN (p := p) (pos := pos) T.oex iC tI F (hr.mono hk) b pass0 hg T.m (pa_cons he pa_nil (hs := hst)) hdb hst hpl)
end
/-! ### a def that may raise, the errors' context None -/
theorem Fun.okN {P : Program} {w : World} {K : PySem.W.Frag} {mg : Str → Option Value} {base : Heap} {x qual : Str} {st : Stmt} {f : Addr} {fd : FuncData} {N ps : List Str} {k : Nat} {sp : Sp} (F : Fun K x qual st f fd) (S : FnScope N ps (defScope st)) (len : ∀ vs H Q E, sp vs H Q E → vs.length = ps.length)
    (hbody : ∀ (cdv : Value) (A : Around) (outer : List Env) (s : Shared) (H : Hp) (vs : List V) (Q : VK) (E : XK), Room k (A.deeper (envOfC qual (defScope st) s.heap.objs.size f cdv)) → sp vs H Q E →
      ∃ t, PSs (cxOf (L2N.CX P w) P w K mg base N qual (defScope st) f cdv A outer s H E) (defBody st) t ∧ t { nx := fun _ H' => Q .non H', rt := Q } (L2.start N vs) H) : FnOk P w K mg base (L2N.CX P w) (k + 1) f fd ps sp := by
  obtain ⟨oc, od, kV, doc, pm, an, cdv, ct, osl, rfl, lk, hcd⟩ := F.ex
  exact fn_of lk hcd S len fun A outer s H vs Q E hr hsp => hbody cdv A outer s H vs Q E hr hsp
/-! ### f(lambda: body), the lambda's errors caught within f -/
abbrev lamX (X : Cx) (A : Around) (outer : List Env) (s : Shared) (H : Hp) (E : XK) (scope : Scope) (f c' : Addr) : Cx :=
  (lamCx X A outer s H E scope f c').tr [] (fun e s' => wpAny (model X.prog X.w) (A.deeper (lamEnv X scope s.heap.objs.size f c')) (leaving (lamEnv X scope s.heap.objs.size f c') e) (fun _ s'' => L2N.CX X.prog X.w outer H s E e s'') (fun e' s'' => L2N.CX X.prog X.w outer H s E e' s'') s')
/-- around the lambda's body its errors are taken -/
theorem lam_takes {X : Cx} {A : Around} {outer : List Env} {s : Shared} {H : Hp} {E : XK} {scope : Scope} {f c' : Addr} : L2N.Takes (lamX X A outer s H E scope f c') (fun cls d _ H => E cls d H) := L2N.takes_of rfl rfl rfl rfl
section
variable {X : Cx} {pins : List (Addr × Obj)} {σ : L2.St} {H HZ : Hp} {s s1 : Shared}
/-- a(), a the parameter that holds the lambda -/
theorem pe_actN {Ng : List Str} {qg : Str} {sg : Scope} {g f c' : Addr} {cdg pm ctv : Value} {params : Arguments} {body : Expr} {scope : Scope} {k i : Nat} {a : Str} {pn : List (Addr × Obj)} {xe : Value → Shared → Prop} {W : WX} {E : XK} {tb : TE} {p1 p2 : Pos}
    (I : Inv X pins σ H s) (L : LamS X.env.scope scope) (hf : s.heap.get? f = some (PySem.W.kla_obj "<lambda>" (X.env.qual ++ "<lambda>") params body scope (cloFrom X.env.cells scope.names []) pm c' ctv)) (hfn : H f = none) (hfr : f ∉ frs X.stack)
    (hbind : bindArgs (PySem.W.kla_fn "<lambda>" (X.env.qual ++ "<lambda>") params body scope (cloFrom X.env.cells scope.names []) pm (.ref c') ctv) ⟨[], []⟩ = pure [])
    (tk : L2N.Takes ((cxOf CX0 X.prog X.w X.K X.mg X.base Ng qg sg g cdg X.A X.stack s H E0).tr pn xe) W) (hW : ∀ cls d σ' H', E cls d H' → W cls d σ' H') (hr : Room (k + 1) (X.A.deeper (envOfC qg sg s.heap.objs.size g cdg)))
    (hbody : ∀ (A : Around) (outer : List Env) (s : Shared) (H : Hp), Room k (A.deeper (lamEnv X scope s.heap.objs.size f c')) → PE (lamX X A outer s H E scope f c') body tb)
    (hN : Ng[i]? = some a) (hv : Vis sg a) (hd : (a == ("__debug__" : Str)) = false := by decide) (hcd : (a == ("__classdict__" : Str)) = false := by decide) :
    PE ((cxOf CX0 X.prog X.w X.K X.mg X.base Ng qg sg g cdg X.A X.stack s H E0).tr pn xe) (.Call (.Name a p1) [] [] p2)
      (fun σZ HZ Q => σZ[i]? = some (some (.ref f)) ∧ HZ c' = some (CodeO c' (X.env.qual ++ "<lambda>")) ∧ tb σ HZ Q) := by
  refine ⟨fun pinsZ sZ σZ HZ Q IZ ⟨hs, hc, ht⟩ => ?_⟩
  refine wpAny_Call_Name_kw (thn ((pe_var (pos := p1) (i := i) hN hv hd hcd).run pinsZ sZ σZ HZ (fun v H1 => v = .ref f ∧ H1 = HZ) IZ ⟨.ref f, hs, rfl, rfl⟩) fun u s1 z => ?_)
  obtain ⟨v, H1, I1, r1, rfl, rfl⟩ := z
  cases (show u = Value.ref f from r1)
  have there : s1.heap.get? f = some (PySem.W.kla_obj "<lambda>" (X.env.qual ++ "<lambda>") params body scope (cloFrom X.env.cells scope.names []) pm c' ctv) := I1.base.keep f _ hf hfn hfr (fun z => nomatch (show f ∈ ([] : List Addr) from z))
  have un : Un (frs X.stack) [] H H1 s.heap s1.heap := I1.base
  obtain ⟨⟨oc, vs, t, hoc, hdc, hvc⟩, _, _⟩ := I1.hok c' _ hc
  have rc : codeAny (model X.prog X.w) (X.A.deeper (envOfC qg sg s.heap.objs.size g cdg)) (.call (.ref f) ⟨[], []⟩) (CR (L2N.CX X.prog X.w) (envOfC qg sg s.heap.objs.size g cdg :: X.stack) X.prog X.w H1 s1 Q E) s1 := by
    refine PySem.W.kla_callFunE hr.depth there rfl L.co L.gen rfl ⟨c', oc, vs, t, rfl, hoc, hdc, hvc⟩ ?_
    rw [hbind]
    refine wpAny_pure (wpAny_newFunctionEnv (fun y hy => (L.own y hy).2) (fun y hy => absurd hy (by simp)) (fun h₁ hns hsb => ⟨I1.nolimit.fresh _ hsb, ?_⟩) L.kind)
    have kp : ∀ b o, s1.heap.get? b = some o → h₁.get? b = some o := fun b o e => hsb.extBut b o (Nat.ne_of_lt (Heap.lt_size e)) (Heap.get?_push_of_some _ e)
    have J0 : Inv (lamCx X (X.A.deeper (envOfC qg sg s.heap.objs.size g cdg)) (envOfC qg sg s.heap.objs.size g cdg :: X.stack) s1 H1 E scope f c') [] σ H1 { s1 with heap := h₁, toks := s1.toks + ([] : List (Str × Value)).length } := lam_start2 I L I1.env0 hr.hd un hns kp
    have J := J0.toTry (fun e s' => wpAny (model X.prog X.w) ((X.A.deeper (envOfC qg sg s.heap.objs.size g cdg)).deeper (lamEnv X scope s1.heap.objs.size f c')) (leaving (lamEnv X scope s1.heap.objs.size f c') e) (fun _ s'' => L2N.CX X.prog X.w (envOfC qg sg s.heap.objs.size g cdg :: X.stack) H1 s1 E e s'') (fun e' s'' => L2N.CX X.prog X.w (envOfC qg sg s.heap.objs.size g cdg :: X.stack) H1 s1 E e' s'') s')
    refine PySem.W.kla_codeExpr (wpAny_mono ((hbody _ _ s1 H1 (hr.deeper _)).run [] _ _ H1 Q J ht) (fun v s' hq => ?_) fun e s' hq => hq)
    obtain ⟨w', H', J', rv, q⟩ := hq
    exact ⟨w', H', J'.os, J'.bare, J'.base, J'.hok, rv, q⟩
  refine PySem.W.callWith_F0 ⟨_, _, _, _, there⟩ (wpAny_call (codeAny_mono rc fun r s' hq => ?_))
  match r, hq with
  | .error e, hq => exact L2N.passes_call tk hW pinsZ σZ H1 s1 e s' I1 hq
  | .ok (.ret u), hq => exact I1.after hq
  | .ok .next, hq => exact hq.elim
  | .ok .brk, hq => exact hq.elim
  | .ok .cont, hq => exact hq.elim
end
/-- the def that calls the lambda which it got: TT is what it makes of the lambda's reading -/
def AskN (X : Cx) (Ng : List Str) (x : Str) (sg : Scope) (g : Addr) (cdg : Value) (bg : List Stmt) (a : Str) (q : Str) (k : Nat) (TT : Addr → (XK → Hp → VK → Prop) → Hp → VK → Prop) : Prop :=
  ∀ (f c' : Addr) (s : Shared) (H : Hp) (Q : VK) (tl : XK → Hp → VK → Prop), Room (k + 1) (X.A.deeper (envOfC x sg s.heap.objs.size g cdg)) →
    (∀ (W : WX) (pn : List (Addr × Obj)) (xe : Value → Shared → Prop) (E : XK) (p1 p2 : Pos), L2N.Takes ((cxOf CX0 X.prog X.w X.K X.mg X.base Ng x sg g cdg X.A X.stack s H E0).tr pn xe) W → (∀ cls d σ' H', E cls d H' → W cls d σ' H') →
      PE ((cxOf CX0 X.prog X.w X.K X.mg X.base Ng x sg g cdg X.A X.stack s H E0).tr pn xe) (.Call (.Name a p1) [] [] p2) (fun σZ HZ Q => σZ[0]? = some (some (.ref f)) ∧ HZ c' = some (CodeO c' q) ∧ tl E HZ Q)) →
    H c' = some (CodeO c' q) → TT f tl H Q →
    ∃ t, PSs (cxOf CX0 X.prog X.w X.K X.mg X.base Ng x sg g cdg X.A X.stack s H E0).nox bg t ∧ t { nx := fun _ H' => Q .non H', rt := Q } (L2.start Ng [.ref f]) H
def tLamN (T : List (Addr × Str)) (TT : Addr → (XK → Hp → VK → Prop) → Hp → VK → Prop) (t : XK → TE) : TE := fun σ H Q => Tabs T H ∧ ∀ f H1, ExtN H H1 → Tabs T H1 → TT f (fun E H' Q' => t E σ H' Q') H1 Q
section
variable {X : Cx}
theorem pe_lamN {T : List (Addr × Str)} {TT : Addr → (XK → Hp → VK → Prop) → Hp → VK → Prop} {x a : Str} {g c P : Addr} {k : Nat} {pg : Arguments} {bg : List Stmt} {sg : Scope} {dV kV doc pm cdv ct oc : Value} {an od : Option Addr} {osl : Array (Option Value)} {Ng : List Str}
    {params : Arguments} {body : Expr} {scope : Scope} {t : XK → TE} {p lpos pos : Pos} (hg : Gl X x) (hm : X.mg x = some (.ref g)) (hk : PySem.W.keepIn X.K (.ref g) = true)
    (lk : X.K.lookup g = some ⟨oc, od, .func (PySem.W.fnOf x x pg bg sg dV kV doc pm an cdv ct), osl⟩) (hcg : PySem.W.codeIn X.K cdv x = true) (hb : L2.Binds X.K (PySem.W.fnOf x x pg bg sg dV kV doc pm an cdv ct) [a] []) (Sg : FnScope Ng [a] sg) (hNg : Ng[0]? = some a) (hva : Vis sg a)
    (hG : AskN X Ng x sg g cdv bg a (X.env.qual ++ "<lambda>") k TT)
    (TB : TabB X.base X.mg c P) (hcode : X.env.code = .ref c) (hmT : (P, X.env.qual ++ "<lambda>") ∈ T) (hu : ∀ p ∈ T, p.1 = P → p.2 = X.env.qual ++ "<lambda>") (hr : Room (k + 2) X.A) (L : LamS X.env.scope scope) (hdef : defaultsOf params X.env = ([], []))
    (hbind : ∀ (q : Str) (cl : List (Str × Addr)) (pm cv ctv : Value), bindArgs (PySem.W.kla_fn "<lambda>" q params body scope cl pm cv ctv) ⟨[], []⟩ = pure [])
    (hbody : ∀ (A : Around) (outer : List Env) (s : Shared) (H : Hp) (E : XK) (f c' : Addr), Room k (A.deeper (lamEnv X scope s.heap.objs.size f c')) → PE (lamX X A outer s H E scope f c') body (t E))
    (hdb : (x == ("__debug__" : Str)) = false := by decide) (hd : (a == ("__debug__" : Str)) = false := by decide) (hcd : (a == ("__classdict__" : Str)) = false := by decide) :
    PE X (.Call (.Name x p) [.Lambda params body scope lpos] [] pos) (tLamN T TT t) := by
  refine ⟨fun pins s σ H Q I ⟨hT, h⟩ => ?_⟩
  refine wpAny_Call_Name_kw (ld_glob I hg hm (PySem.W.callWith_K (h₀ := X.base) I.ok.mod.kin hk ?_ (by rfl) (by rfl)) hdb)
  show wpAny _ _ (spliced ((false, eval (.Lambda params body scope lpos) X.env) :: backTo pos (starEach [] X.env))) _ _ s
  refine Calls.spliced_cons (lam_make2 I TB hcode hmT hu hT hdef (L.has I.ok) fun f c' pm' ctv H1 s' I1 eN T1 hf hfn hfr hco => Calls.spliced_nil ⟨I1.kIn, ?_⟩)
  have rc : codeAny (model X.prog X.w) X.A (.call (.ref g) ⟨[.ref f], []⟩) (CR CX0 X.stack X.prog X.w H1 s' Q E0) s' := by
    refine run_ofS (N := Ng) (ps := [a]) (us := [.ref f]) (vs := [.ref f]) lk hcg Sg hr I1.env0 (hb s' [.ref f] I1.kIn rfl) (.cons rfl .nil) rfl fun hr' => ?_
    obtain ⟨t', ht', hq'⟩ := hG f c' s' H1 Q (fun E H' Q' => t E σ H' Q') hr' (fun W pn xe E p1 p2 tk hW => pe_actN (i := 0) I1 L hf hfn hfr (hbind _ _ _ _ _) tk hW hr' (fun A outer s H hr2 => hbody A outer s H E f c' hr2) hNg hva hd hcd) hco (h f H1 eN T1)
    exact ⟨t', ht'.nox, hq'⟩
  refine wpAny_call (codeAny_mono rc fun r s2 hq => ?_)
  match r, hq with
  | .error e, hq => exact (show False from hq).elim
  | .ok (.ret u), hq => exact I1.after hq
  | .ok .next, hq => exact hq.elim
  | .ok .brk, hq => exact hq.elim
  | .ok .cont, hq => exact hq.elim
end
end Sq
namespace Sq
open PySem L2 PySem.Spec PyProof.Rows
/-! ### own error classes over any built-in one: a field set by __init__, and raised; the error's context None -/
/-- a built-in class of errors under own ones -/
structure Root (B newId initId : String) (tail : List Value) : Prop where
  base : ExcBaseFacts B newId initId tail
  store : StoreFacts B tail "object.__setattr__" "object"
theorem root_arith : Root "ArithmeticError" "ArithmeticError.__new__" "ArithmeticError.__init__" [.type "ArithmeticError", .type "Exception", .type "BaseException", .type "object"] := ⟨F.excBase_ArithmeticError, F.store_ArithmeticError⟩
theorem root_lookup : Root "LookupError" "LookupError.__new__" "LookupError.__init__" [.type "LookupError", .type "Exception", .type "BaseException", .type "object"] := ⟨F.excBase_LookupError, F.store_LookupError⟩
theorem root_value : Root "ValueError" "ValueError.__new__" "ValueError.__init__" [.type "ValueError", .type "Exception", .type "BaseException", .type "object"] := ⟨F.excBase_ValueError, F.store_ValueError⟩
/-- an own class C over it -/
structure OexB (K : PySem.W.Frag) (newId : String) (tail : List Value) (C : Addr) : Prop where
  row : ∃ nm q N bs bm sn sub ab col dd k0 k1 k2 k3 k5, K.lookup C = some (excClassObj nm q C N bs bm true sn sub ab col dd k0 k1 k2 k3 k5 newId) ∧ PySem.W.excTail tail bm = true
  sa : PySem.W.findIn K (.ref C) "__setattr__" = some (some (.builtin "object.__setattr__"))
  exC : PySem.W.subIn K (.ref C) (.type "BaseException") = some true
  tyC : PySem.W.typeIn K (.ref C) = some (.type "type")
  kC : PySem.W.keepIn K (.ref C) = true
section
variable {X : Cx} {pins : List (Addr × Obj)} {σ : L2.St} {H : Hp} {s : Shared} {a C : Addr} {f : Str} {y : V} {u : Value} {Q : Unit → Shared → Prop} {E : Value → Shared → Prop} {A : Around} {B newId initId : String} {tail : List Value}
/-- its first field -/
theorem first_field (R : Root B newId initId tail) (T : OexB X.K newId tail C) (I : Inv X pins σ H s) (e : H a = some (exo a C none)) (no : PySem.W.findIn X.K (.ref C) f = some none) (ry : RelV y u)
    (h : ∀ dx s', H dx = none → dx ≠ a → Inv X pins σ (upd (upd H dx (exd dx [(f, y)])) a (exo a C (some dx))) s' → Q () s') : wpAny (model X.prog X.w) A (setAttr (.ref a) f u) Q E s := by
  obtain ⟨nm, q, N, bs, bm, sn, sub, ab, col, dd, k0, k1, k2, k3, k5, hC, hbm⟩ := T.row
  have hcl : ∃ cd : ClassData, PySem.W.clsIn X.K C = some cd ∧ cd.mro = .ref C :: bm ∧ cd.hasDict = true := by
    refine ⟨{ mro := .ref C :: bm, hasDict := true, name := nm, qualname := q, bases := bs, ns := N, abstract := ab, hasDel := false, collection := col, slotNames := sn, subclasses := sub }, ?_, rfl, rfl⟩
    unfold PySem.W.clsIn
    rw [hC]
  obtain ⟨cd, hcd, hmro, hdict⟩ := hcl
  obtain ⟨t1, ho⟩ := exo_at I.hok e
  obtain ⟨hp, g, d, t, os⟩ := s
  have over : PySem.W.excOver X.K C tail = true := by
    unfold PySem.W.excOver
    rw [hcd]
    show (match cd.mro with | .ref C' :: bm => C' == C && PySem.W.excTail tail bm | _ => false) = true
    rw [hmro]
    simp [hbm]
  have tk : PySem.W.takerIn X.K C f = some none := by
    unfold PySem.W.takerIn
    rw [no]
    rfl
  refine PySem.W.set_plain I.kIn (od := none) ⟨ho, rfl, rfl, trivial⟩ T.sa ?_
  refine PySem.W.osa_openX (od := none) R.store I.kIn ⟨ho, rfl, rfl, trivial⟩ over tk fun b => ?_
  have new := Heap.get?_push_size hp (o := ({ cls := .type "dict", data := .dict #[] } : Obj)) rfl
  have ne : hp.objs.size ≠ a := Nat.ne_of_gt (Heap.lt_size ho)
  have up : ∀ c o, hp.get? c = some o → (hp.push ({ cls := .type "dict", data := .dict #[] } : Obj)).get? c = some o := fun c o z => Heap.get?_push_of_some _ z
  refine wpAny_bind (wpAny_pure (wpAny_bind (PySem.W.instanceDict_exc ho (PySem.W.looks_clsIn I.kIn hcd) hdict ?_)))
  show wpAny _ _ (Builtin.ObjectAttr.storeInDict hp.objs.size (.str f _) f u) _ _ _
  refine PySem.HandSPX.store_in_new ⟨_, #[], _, (Heap.get?_update_other _ _ (Ne.symm ne)).trans new, rfl, fun e he => absurd he (by simp), fun _ => rfl⟩ fun h' tk' hn hs => ?_
  have na : H hp.objs.size = none := I.hok.fresh (Nat.le_refl _)
  generalize hold : ({ cls := .ref C, dict := none, data := .fields #[.ref t1, .none, .none, .none, .bool false, .none] } : Obj) = old at ho
  have hx : h'.get? a = some ({ cls := .ref C, dict := some hp.objs.size, data := .fields #[.ref t1, .none, .none, .none, .bool false, .none] } : Obj) := by
    rw [hs.2 a (Ne.symm ne)]
    refine (Heap.get?_update_self _ (up _ _ ho) (by rw [← hold]; rfl)).trans ?_
    rw [← hold]
  have gs : (h'.update a fun _ => old).get? a = some old := Heap.get?_update_self _ hx (by rw [← hold]; rfl)
  have go : ∀ b, b ≠ a → (h'.update a fun _ => old).get? b = h'.get? b := fun b hb => Heap.get?_update_other _ _ (Ne.symm hb)
  have lies : ∀ b o, hp.get? b = some o → (h'.update a fun _ => old).get? b = some o := fun b o z => by
    by_cases hb : b = a
    · rw [hb] at z ⊢
      rw [gs]
      exact ho.symm.trans z
    · rw [go b hb, hs.2 b (Nat.ne_of_lt (Heap.lt_size z))]
      exact (Heap.get?_update_other _ _ (Ne.symm hb)).trans (up b o z)
  have I1 : L2.Inv X pins σ (upd H hp.objs.size (exd hp.objs.size [(f, y)])) ⟨h'.update a fun _ => old, g, d, tk', os⟩ :=
    I.laid (t' := tk') lies (Nat.le_refl _) (exd_ok (hn.at fun o z => (go _ ne).trans z) (relO_put (fs := []) ry fun _ => True.intro))
  have I2 := I1.write (t' := tk') (x := a) (e := a) (o := exo a C (some hp.objs.size)) (h' := h') (by rw [upd_ne (Ne.symm ne), e]; exact True.intro) (.inl rfl) (fun b u hb z => (go b hb).symm.trans z) ⟨_, hx⟩ (exo_ok hx)
  exact h _ _ na ne I2
/-- self.f = e, the first field of an error that is being made -/
def tFirst (K : PySem.W.Frag) (newId : String) (tail : List Value) (f : Str) (to te : TE) : TS := fun D σ H => te σ H fun y H1 => to σ H1 fun x H2 => ∃ a C : Addr, x = .ref a ∧ OexB K newId tail C ∧ PySem.W.findIn K (.ref C) f = some none ∧ H2 a = some (exo a C none) ∧
  ∀ dx, H2 dx = none → dx ≠ a → D.nx σ (upd (upd H2 dx (exd dx [(f, y)])) a (exo a C (some dx)))
end
section
variable {X : Cx} {o e : Expr} {to te : TE} {f : Str} {p' pos : Pos} {B newId initId : String} {tail : List Value}
theorem ps_first (R : Root B newId initId tail) (ho : PE X o to) (he : PE X e te) (hs : swapsWith e (some (.Attribute o f p')) pos.line X.env = pure false := by rfl) : PS X (.Assign [.Attribute o f p'] e pos) (tFirst X.K newId tail f to te) := by
  refine ⟨fun pins s σ H D I h => plainObj_wpAny_Assign_Attribute (thn (he.run pins s σ H _ I h) fun v s1 z => ?_) hs⟩
  obtain ⟨y, H1, I1, r1, q1⟩ := z
  refine thn (ho.run pins s1 σ H1 _ I1 q1) fun u s2 z => ?_
  obtain ⟨x, H2, I2, r2, a, C, rfl, T, no, ea, q⟩ := z
  cases (show u = Value.ref a from r2)
  exact first_field R T I2 ea no r1 fun dx s' n ne J => ⟨σ, _, J, q dx n ne⟩
end
/-! ### raise C(e) -/
section
variable {X : Cx} {e : Expr} {es : List Expr} {ta : TA} {p pos : Pos} {B newId initId : String} {tail : List Value}
theorem pmk_any {CX : CXT} {x : Str} {C fI : Addr} {k : Nat} {fd : FuncData} {ps : List Str} {sp : Sp} (R : Root B newId initId tail) (T : OexB X.K newId tail C) (iC : PySem.W.findIn X.K (.ref C) "__init__" = some (some (.ref fI))) (tI : PySem.W.typeIn X.K (.ref fI) = some (.type "function"))
    (F1 : FnOk X.prog X.w X.K X.mg X.base CX k fI fd ps sp) (hr : Room (k + 1) X.A) (hb : Binds X.K fd ps []) (hx : Passes CX X (fun _ _ _ => False)) (hg : Gl X x) (hm : X.mg x = some (.ref C)) (ha : PA X (e :: es) ta)
    (hdb : (x == ("__debug__" : Str)) = false := by decide) (he : starEach (e :: es) X.env = (false, eval e X.env) :: starEach es X.env := by rfl) (hpl : (backTo pos (starEach es X.env)).any (·.1) = false := by rfl) :
    L2N.PMk X (.Call (.Name x p) (e :: es) [] pos) (tMkO C sp [] ta) := by
  intro pins s σ H Q I h
  obtain ⟨nm, q, N, bs, bm, sn, sub, ab, col, dd, k0, k1, k2, k3, k5, hC, hbm⟩ := T.row
  refine wpAny_Call_Name_kw (ld_glob I hg hm (PySem.W.callWith_K (h₀ := X.base) I.ok.mod.kin T.kC (thn (ha.run pos pins s σ H _ I h) fun us s1 z => ?_) he hpl) hdb)
  obtain ⟨vs, H1, I1, r1, _, q1⟩ := z
  refine ⟨I1.kIn, ?_⟩
  show wpAny _ _ (call (.ref C) us) _ _ _
  obtain ⟨hp, g, dr, tk, os⟩ := s1
  have new : H1 (hp.objs.size + 1) = none := I1.hok.fresh (Nat.le_succ _)
  have asked := q1 (hp.objs.size + 1) new
  have old : ∀ b o, hp.get? b = some o → ((hp.push (PySem.W.kdv_tup us)).push (PySem.HandSPX.excO C hp.objs.size)).get? b = some o := fun b o e => Heap.get?_push_of_some _ (Heap.get?_push_of_some _ e)
  have there : ((hp.push (PySem.W.kdv_tup us)).push (PySem.HandSPX.excO C hp.objs.size)).get? (hp.objs.size + 1) = some (PySem.HandSPX.excO C hp.objs.size) := by heap_get
  have I2 : L2.Inv X pins σ (upd H1 (hp.objs.size + 1) (exo (hp.objs.size + 1) C none)) ⟨(hp.push (PySem.W.kdv_tup us)).push (PySem.HandSPX.excO C hp.objs.size), g, dr, tk, os⟩ :=
    I1.laid (t' := tk) (a := hp.objs.size + 1) (o := exo (hp.objs.size + 1) C none) (h' := (hp.push (PySem.W.kdv_tup us)).push (PySem.HandSPX.excO C hp.objs.size)) old (Nat.le_succ _) (exo_ok there)
  have r2 : Vals (V.ref (hp.objs.size + 1) :: (vs ++ [])) (Value.ref (hp.objs.size + 1) :: (us ++ [])) := .cons rfl (r1.append .nil)
  have many : (Value.ref (hp.objs.size + 1) :: us ++ []).length = ps.length := by
    have z := r2.length
    rw [F1.len _ _ _ _ asked] at z
    exact z.symm
  have bt := hb _ (Value.ref (hp.objs.size + 1) :: us) I2.kIn many
  rw [List.cons_append] at bt
  have few : us.length ≤ sizeLine := by
    rw [← Paired.length r1, sizeLine_eq]
    omega
  refine wpAny_call (PySem.HandSPX.call_own R.base (fun Y => PySem.W.excTail_contains Y bm hbm) (I1.kIn _ _ hC) (PySem.W.looks_findIn I1.kIn iC) (fun self => PySem.W.bind_fn I1.kIn self tI) few
    (codeAny_mono (F1.run _ X.stack _ _ ⟨Value.ref (hp.objs.size + 1) :: us, []⟩ (Value.ref (hp.objs.size + 1) :: (us ++ [])) _ _ (fun _ _ _ => False) (hr.make C us []) (I2.env0.make C us []) bt r2 asked) fun r s' z => ?_))
  match r, z with
  | .error er, z => exact hx pins σ _ _ er s' I2 z
  | .ok (.ret u), ⟨v, H2, os2, bare2, un2, hok2, rv, ev, d, fs, ea, ed, hd1, q2⟩ =>
    subst ev
    obtain ⟨h2, g2, d2, t2, os'⟩ := s'
    obtain ⟨t0, G, J, kG, ge, hoe, na⟩ := mk_end0 (d2 := d2) (t2 := t2) I1 (Nat.le_succ _) old un2 hok2 os2 bare2 ea ed hd1
    exact ⟨rv, _, _, _, ⟨G, g2, d2, t2, os'⟩, _, .ref C, some d, rfl, J, kG, ge, hoe, ⟨rfl, rfl, fun vs' e' => by cases e'; rfl⟩, rfl, rfl, na, rfl, bare2, raises_own T.exC T.tyC, q2⟩
  | .ok .next, z => exact z.elim
  | .ok .brk, z => exact z.elim
  | .ok .cont, z => exact z.elim
/-- an own error class with one field -/
structure ErrB (P : Program) (w : World) (K : PySem.W.Frag) (mg : Str → Option Value) (base : Heap) (newId : String) (tail : List Value) (x f : Str) (C : Addr) : Prop where
  oex : OexB K newId tail C
  xf : XfC K C
  no : PySem.W.findIn K (.ref C) f = some none
  m : mg x = some (.ref C)
  ex : ∃ (fI : Addr) (fd : FuncData) (ps : List Str), PySem.W.findIn K (.ref C) "__init__" = some (some (.ref fI)) ∧ PySem.W.typeIn K (.ref fI) = some (.type "function") ∧ FnOk P w K mg base CX0 1 fI fd ps (spErrInit C f) ∧ Binds K fd ps []
theorem ps_errB {W : WX} {x f : Str} {C : Addr} {te : TE} {k : Nat} {pos2 : Pos} (R : Root B newId initId tail) (T : ErrB X.prog X.w X.K X.mg X.base newId tail x f C) (hc : X.calm = true) (tk : L2N.Takes X W) (hr : Room k X.A) (hk : 2 ≤ k) (hg : Gl X x) (he : PE X e te)
    (hdb : (x == ("__debug__" : Str)) = false := by decide) (hst : starEach (e :: []) X.env = (false, eval e X.env) :: starEach [] X.env := by rfl) (hpl : (backTo pos (starEach [] X.env)).any (·.1) = false := by rfl) :
    PS X (.Raise (some (.Call (.Name x p) [e] [] pos)) none pos2) (fun _ σ H => tMkO C (spErrInit C f) [] (tCons te tNil) σ H fun cls d H' => W cls d σ H') := by
  obtain ⟨fI, fd, ps, iC, tI, F, b⟩ := T.ex
  exact L2N.ps_raise (pos := pos2) hc tk (pmk_any (p := p) (pos := pos) R T.oex iC tI F (hr.mono hk) b pass0 hg T.m (pa_cons he pa_nil (hs := hst)) hdb hst hpl)
end
end Sq
namespace Sq.N4
open PySem L2 TL
section
variable {P : Program} {w : World} {K : PySem.W.Frag} {mg : Str → Option Value} {base : Heap}
variable {C CP CF : Addr}
abbrev s_spans_of : Stmt := top 45
theorem sc_spans_of : FnScope ["program", "size", "nest"] ["program", "size"] (defScope s_spans_of) := ⟨rfl, rfl, rfl, by decide +kernel, rfl, by decide +kernel, by decide +kernel⟩
theorem ok_spans_of {f : Addr} {fd : FuncData} (F : Fun K "spans_of" "spans_of" s_spans_of f fd) (T : Bt mg) (PNc : Pc K CP) {pN gN : Addr} {dN : FuncData} (PNp : PropOf K CP "nests" pN gN) (GNp : FnOk P w K mg base CX0 1 gN dN ["self"] (getSp CP "_nests")) (BNp : Binds K dN ["self"] []) (NN : Nc K C) (G_spans_at : FB P w K mg base "spans_at" 2 ["bounds", "size"] (spSpanAt K)) : FnOk P w K mg base CX0 3 f fd ["program", "size"] (spSpans K CP C) := by
  refine F.ok sc_spans_of (fun vs H Q E h => ?_) (fun cdv A outer s H vs Q E hr h => ?_)
  · obtain ⟨a, n, qs, rfl, _⟩ := h
    rfl
  · obtain ⟨a, n, qs, rfl, ⟨⟨dx, tp, xs, h1, h2, h3, h4⟩, okq, lq⟩, q⟩ := h
    refine ⟨_, (pss_one (ps_ret (pe_lc (own := [("nest", 2)]) (g := gName 2) (by rfl) sc_spans_of.nd (pi_tup (pe_prop (pv 0) PNc.cl PNp GNp hr BNp .nil pass0 rfl)) (blkOk_by (own := [("nest", 2)]) (N := ["program", "size", "nest"]) (sc := defScope s_spans_of) (by decide +kernel))
            (fun _ _ _ _ _ => (pg_name (i := 2) sc_spans_of.nd rfl (by first | exact .inl rfl | exact .inr rfl))) (fun _ _ _ _ _ => pts_nil) (fun _ _ _ _ _ => (pe_fb G_spans_at hr (by decide) (by rfl) (pa_cons (show PE _ _ (tFld K (tVar 2) "bounds") from pe_fld (pv 2) (by rfl)) (pa_cons (pv 1) pa_nil))))))), ?_⟩
    rw [List.length_map] at h3
    have bigL : 1000 ≤ sizeLine := by decide
    refine ⟨_, rfl, a, _, _, rfl, h1, a, _, _, .ref tp, rfl, h1, putN tp, tp, rfl, ⟨_, SqT.of h2⟩, fun D hD => ?_⟩
    refine lc_tup (K := K) (a := tp) (xs := xs.map V.ref) (fun i H' => Same H H' ∧ ∃ zs : List Addr, zs.length = i ∧ H' D = some (.lst (zs.map V.ref)) ∧ SpansAt H' zs ((qs.take i).map (spanOf n))) ⟨same_new hD, [], rfl, upd_same, rfl, fun j y S hy _ => by cases hy⟩ (fun i H' _ h => (SqT.of h2).ext h.1) (fun i x H' hi h => ?_) (fun H' h => ?_)
    · obtain ⟨sm, zs, hz, hL, hS⟩ := h
      refine ⟨rfl, ?_⟩
      obtain ⟨b, hb, rfl⟩ : ∃ b, xs[i]? = some b ∧ x = .ref b := by
        rw [List.getElem?_map] at hi
        cases e : xs[i]? with
        | none => rw [e] at hi; cases hi
        | some r => rw [e] at hi; exact ⟨r, rfl, (Option.some.inj hi).symm⟩

      have hil : i < qs.length := by rw [← h3]; exact (List.getElem?_eq_some_iff.mp hb).1
      have hgi : (qs.map Part.nest)[i]? = some qs[i].nest := by rw [List.getElem?_map, List.getElem?_eq_getElem hil]; rfl
      have okp := okq _ (List.getElem_mem hil)
      obtain ⟨dy, dp, bp, a1, a2, b1, b2, R, n1, n2, n3, k1, k2, k3, k4⟩ := nest_bounds okp ((h4 i b _ hb hgi).ext sm)
      refine ⟨_, rfl, b, C, dy, _, .ref bp, rfl, n1, NN.cl, NN.nB, (nfl_bounds _ _ _ _).trans (congrArg some n2), _, rfl, bp, a1, a2, b1, b2, _, _, _, _, n, rfl, n3, k1, k2, k3, k4, bt_ok (Nat.lt_of_lt_of_le okp.o1 (by decide)), bt_ok (Nat.lt_of_lt_of_le okp.o2 (by decide)), bt_ok okp.u1, bt_ok okp.u2, fun p H2 np s2 hp => ?_⟩
      have s2 : Same H' H2 := s2
      have ndp : ∀ c o, H2 c = some o → c ≠ D → (upd H2 D (.lst (zs.map V.ref ++ [.ref p]))) c = some o := fun c o hc ne => by rw [upd_ne ne]; exact hc
      refine ⟨_, s2 _ _ hL, ?_, ?_, zs ++ [p], ?_, ?_, ?_⟩
      · show _ < sizeLine
        rw [List.length_map, hz]
        omega
      · intro c o hc
        rw [upd_ne (fun e => by rw [e, hD] at hc; cases hc)]
        exact s2 c o (sm c o hc)
      · rw [List.length_append, hz]
        rfl
      · rw [upd_same, List.map_append]
        rfl
      · refine ⟨by rw [List.length_append, List.length_map, List.length_take, hz]; show i + 1 = _; omega, fun j y S hy hS2 => ?_⟩
        have ne : ∀ {c : Addr} {ys : List V}, H2 c = some (.tup ys) → c ≠ D := fun h e => by rw [e, s2 _ _ hL] at h; cases h
        rw [List.take_add_one, List.getElem?_eq_getElem hil, List.map_append] at hS2
        by_cases hj : j < i
        · rw [List.getElem?_append_left (by omega)] at hy
          rw [List.getElem?_append_left (by rw [List.length_map, List.length_take]; omega)] at hS2
          have z := s2 _ _ (hS.2 j y S hy hS2)
          exact ndp _ _ z (ne z)
        · rw [List.getElem?_append_right (by omega)] at hy
          rw [List.getElem?_append_right (by rw [List.length_map, List.length_take]; omega)] at hS2
          rw [List.length_map, List.length_take, Nat.min_eq_left (by omega)] at hS2
          rw [hz] at hy
          obtain ⟨e0, _⟩ := List.getElem?_eq_some_iff.mp hy
          have e1 : j - i = 0 := by
            have : j - i < 1 := e0
            omega
          rw [e1] at hy hS2
          cases hy
          cases hS2
          exact ndp _ _ hp (ne hp)
    · obtain ⟨sm, zs, hz, hL, hS⟩ := h
      rw [List.length_map, h3, List.take_length] at hS
      exact q H' D zs hD sm hL hS
abbrev s_falls_at : Stmt := top 47
theorem sc_falls_at : FnScope ["program", "size", "spans"] ["program", "size"] (defScope s_falls_at) := ⟨rfl, rfl, rfl, by decide +kernel, rfl, by decide +kernel, by decide +kernel⟩
theorem ok_falls_at {f : Addr} {fd : FuncData} (F : Fun K "falls_at" "falls_at" s_falls_at f fd) (T : Bt mg) (G_spans_of : FB P w K mg base "spans_of" 3 ["program", "size"] (spSpans K CP C)) (G_falls_with : FB P w K mg base "falls_with" 2 ["spans", "size"] spFallsW2) : FnOk P w K mg base CX0 4 f fd ["program", "size"] (spFallsAt K CP C) := by
  refine F.ok sc_falls_at (fun vs H Q E h => ?_) (fun cdv A outer s H vs Q E hr h => ?_)
  · obtain ⟨a, n, qs, rfl, _⟩ := h
    rfl
  · obtain ⟨a, n, qs, rfl, hq, n0, nb, q⟩ := h
    refine ⟨_, (pss_one (ps_ret (pe_callB (cr_any (by rfl)) (by rfl) T.any (by decide +kernel) (pa_cons (pe_lc (own := [("spans", 2)]) (g := gName 2) (by rfl) sc_falls_at.nd (pi_list (pe_fb G_spans_of hr (by decide) (by rfl) (pa_cons (pv 0) (pa_cons (pv 1) pa_nil)))) (blkOk_by (own := [("spans", 2)]) (N := ["program", "size", "spans"]) (sc := defScope s_falls_at) (by decide +kernel))
            (fun _ _ _ _ _ => (pg_name (i := 2) sc_falls_at.nd rfl (by first | exact .inl rfl | exact .inr rfl))) (fun _ _ _ _ _ => pts_nil) (fun _ _ _ _ _ => (pe_fb G_falls_with hr (by decide) (by rfl) (pa_cons (pv 2) (pa_cons (pv 1) pa_nil))))) pa_nil)))), ?_⟩
    refine ⟨_, rfl, _, rfl, a, n, qs, rfl, hq, fun H1 D0 xs hD0 s0 hL0 hS0 => ?_⟩
    obtain ⟨okq, lq⟩ := hq.2
    have bigL : 1000 ≤ sizeLine := by decide
    have h3 := hS0.1
    rw [List.length_map] at h3
    refine ⟨D0, rfl, ⟨_, SqL.of hL0⟩, fun D hD => ?_⟩
    refine lc_list (K := K) (a := D0) (xs := xs.map V.ref) (fun i H' => Same H1 H' ∧ H' D = some (.lst (((qs.take i).map fun z => fallsB (spanOf n z) n).map V.bl))) ⟨same_new hD, upd_same⟩ (fun i H' _ h => (SqL.of hL0).ext h.1) (fun i x H' hi h => ?_) (fun H' h => ?_)
    · obtain ⟨sm, hL⟩ := h
      refine ⟨rfl, ?_⟩
      obtain ⟨b, hb, rfl⟩ : ∃ b, xs[i]? = some b ∧ x = .ref b := by
        rw [List.getElem?_map] at hi
        cases e : xs[i]? with
        | none => rw [e] at hi; cases hi
        | some r => rw [e] at hi; exact ⟨r, rfl, (Option.some.inj hi).symm⟩

      have hil : i < qs.length := by rw [← h3]; exact (List.getElem?_eq_some_iff.mp hb).1
      have hgi : (qs.map (spanOf n))[i]? = some (spanOf n qs[i]) := by rw [List.getElem?_map, List.getElem?_eq_getElem hil]; rfl
      have okp := okq _ (List.getElem_mem hil)
      have hbs := sm _ _ (hS0.2 i b _ hb hgi)
      refine ⟨_, rfl, _, rfl, b, _, n, rfl, hbs, span_okQ okp n, span_leQ okp n0 nb, fun H2 s2 => ⟨_, s2 _ _ hL, ?_, ?_, ?_⟩⟩
      · show _ < sizeLine
        rw [List.length_map, List.length_map, List.length_take]
        omega
      · intro c o hc
        rw [upd_ne (fun e => by rw [e, hD] at hc; cases hc)]
        exact s2 c o (sm c o hc)
      · rw [upd_same, List.take_add_one, List.getElem?_eq_getElem hil, List.map_append, List.map_append]
        rfl
    · obtain ⟨sm, hL⟩ := h
      rw [List.length_map, h3, List.take_length] at hL
      refine ⟨D, _, rfl, SqL.of hL, ?_⟩
      have e : (qs.map fun z => fallsB (spanOf n z) n).any id = fallsQ qs n := by
        unfold fallsQ
        rw [List.any_map]
        rfl
      rw [e]
      exact q _ (s0.trans sm)
abbrev s_is_whole : Stmt := top 40
theorem sc_is_whole : FnScope ["value"] ["value"] (defScope s_is_whole) := ⟨rfl, rfl, rfl, by decide +kernel, rfl, by decide +kernel, by decide +kernel⟩
theorem ok_is_whole {f : Addr} {fd : FuncData} (F : Fun K "is_whole" "is_whole" s_is_whole f fd) (T : Bt mg)  : FnOk P w K mg base CX0 1 f fd ["value"] spWhole := by
  refine F.ok sc_is_whole (fun vs H Q E h => ?_) (fun cdv A outer s H vs Q E hr h => ?_)
  · obtain ⟨n, rfl, _⟩ := h
    rfl
  · obtain ⟨n, rfl, q⟩ := h
    refine ⟨_, (pss_one (ps_ret (pe_and (pe_callB call_isi (by rfl) T.isinstance (by decide +kernel) (pa_cons (pv 0) (pa_cons (pe_bltn (v := .ty "int") (by rfl) T.int (by decide +kernel) rfl) pa_nil)))
            (pe_and (pe_cmpR op_notTF (pv 0) pe_bl (nomark _))
            (pe_one (pe_cmpR op_notTF (pv 0) pe_bl (nomark _))))))), ?_⟩
    refine ⟨_, rfl, _, _, .type "int", _, true, rfl, .ty "int", .base (.int n), kit_ty (by decide +kernel), true, rfl, ?_⟩
    refine iteT ?_
    refine ⟨_, rfl, _, rfl, rfl, _, rfl, ?_⟩
    refine iteT ?_
    exact ⟨_, rfl, _, rfl, rfl, q⟩
abbrev s_is_within : Stmt := top 41
theorem sc_is_within : FnScope ["value", "least", "most"] ["value", "least", "most"] (defScope s_is_within) := ⟨rfl, rfl, rfl, by decide +kernel, rfl, by decide +kernel, by decide +kernel⟩
theorem ok_is_within {f : Addr} {fd : FuncData} (F : Fun K "is_within" "is_within" s_is_within f fd) (T : Bt mg) (G_is_whole : FB P w K mg base "is_whole" 1 ["value"] spWhole) : FnOk P w K mg base CX0 2 f fd ["value", "least", "most"] spWithin := by
  refine F.ok sc_is_within (fun vs H Q E h => ?_) (fun cdv A outer s H vs Q E hr h => ?_)
  · obtain ⟨n, a, b, rfl, _⟩ := h
    rfl
  · obtain ⟨n, a, b, rfl, q⟩ := h
    refine ⟨_, (pss_one (ps_ret (pe_and (pe_fb G_is_whole hr (by decide) (by rfl) (pa_cons (pv 0) pa_nil))
            (pe_one (pe_chain op_le op_le (pv 1) (pv 0) (pv 2)))))), ?_⟩
    refine ⟨_, rfl, n, rfl, true, rfl, ?_⟩
    refine iteT ?_
    refine ⟨_, rfl, _, rfl, _, _, rfl, rfl, _, rfl, ?_⟩
    by_cases h : a ≤ n
    · rw [decide_eq_true h] at q ⊢
      exact iteT ⟨_, rfl, _, _, rfl, rfl, q⟩
    · rw [decide_eq_false h] at q ⊢
      exact iteF q
abbrev s_check_size : Stmt := top 42
theorem sc_check_size : FnScope ["size"] ["size"] (defScope s_check_size) := ⟨rfl, rfl, rfl, by decide +kernel, rfl, by decide +kernel, by decide +kernel⟩
theorem ok_check_size {f : Addr} {fd : FuncData} (F : Fun K "check_size" "check_size" s_check_size f fd) (T : Bt mg) (G_is_within : FB P w K mg base "is_within" 2 ["value", "least", "most"] spWithin) {u : Tok} (mMS : mg "MOST_SIZE" = some (.int big u)) : FnOk P w K mg base CX0 3 f fd ["size"] spSize := by
  refine F.ok sc_check_size (fun vs H Q E h => ?_) (fun cdv A outer s H vs Q E hr h => ?_)
  · obtain ⟨n, rfl, _⟩ := h
    rfl
  · obtain ⟨n, rfl, h1, h2, q⟩ := h
    refine ⟨_, (pss_one (ps_if (pt_not (pt_val (pe_fb G_is_within hr (by decide) (by rfl) (pa_cons (pv 0) (pa_cons pe_int (pa_cons (pe_glob (v := .int big) (by rfl) mMS ⟨_, rfl⟩) pa_nil))))))
        (pss_one ps_never)
        pss_nil)), ?_⟩
    refine ⟨_, rfl, n, 1, big, rfl, _, rfl, ?_⟩
    rw [decide_eq_true h1, decide_eq_true h2]
    exact iteF q
def cntQ (qs : List Part) (n : Int) : Int := (qs.map fun z => cntS (spanOf n z)).sum
def spProg (CP : Addr) : Sp := fun vs H Q _ => ∃ (a dx : Addr) (fs : List (Str × V)), vs = [.ref a] ∧ H a = some (.ins CP dx fs) ∧ Q .non H
def spRound (K : PySem.W.Frag) (CP C CF : Addr) : Sp := fun vs H Q E => ∃ (a : Addr) (n : Int) (qs : List Part), vs = [.ref a, .int n] ∧ ProgQ K CP C H a qs ∧ 1 ≤ n ∧ n ≤ big ∧ (fallsQ qs n = false → ∀ H', Same H H' → Q (.int (cntQ qs n)) H') ∧
  (fallsQ qs n = true → ∀ d H', Same H H' → H' d = some (.xd [("size", .int n)]) → E (.ref CF) (some d) H')
abbrev s_check_program : Stmt := top 43
theorem sc_check_program : FnScope ["program"] ["program"] (defScope s_check_program) := ⟨rfl, rfl, rfl, by decide +kernel, rfl, by decide +kernel, by decide +kernel⟩
theorem ok_check_program {f : Addr} {fd : FuncData} (F : Fun K "check_program" "check_program" s_check_program f fd) (T : Bt mg) (PNc : Pc K CP) (I : Isn K CP) (mP : mg "Program" = some (.ref CP)) : FnOk P w K mg base CX0 1 f fd ["program"] (spProg CP) := by
  refine F.ok sc_check_program (fun vs H Q E h => ?_) (fun cdv A outer s H vs Q E hr h => ?_)
  · obtain ⟨a, dx, fs, rfl, _⟩ := h
    rfl
  · obtain ⟨a, dx, fs, rfl, ha, q⟩ := h
    refine ⟨_, (pss_one (ps_if (pt_not (pt_val (pe_callB call_isi (by rfl) T.isinstance (by decide +kernel) (pa_cons (pv 0) (pa_cons (pe_glob (v := .ref CP) (by rfl) mP rfl) pa_nil)))))
        (pss_one ps_never)
        pss_nil)), ?_⟩
    refine ⟨_, rfl, _, _, .ref CP, .ref CP, true, rfl, .own CP, .base (.ins ha PNc.cl I.c1 I.c2 I.c3 I.c4), kit_self K CP, true, rfl, ?_⟩
    exact iteF q
abbrev s_round_count : Stmt := top 49
theorem sc_round_count : FnScope ["program", "size", "spans"] ["program", "size"] (defScope s_round_count) := ⟨rfl, rfl, rfl, by decide +kernel, rfl, by decide +kernel, by decide +kernel⟩
theorem ok_round_count {f : Addr} {fd : FuncData} (F : Fun K "round_count" "round_count" s_round_count f fd) (T : Bt mg) (G_check_program : FB P w K mg base "check_program" 1 ["program"] (spProg CP)) (G_check_size : FB P w K mg base "check_size" 3 ["size"] spSize) (G_falls_at : FB P w K mg base "falls_at" 4 ["program", "size"] (spFallsAt K CP C)) (G_spans_of : FB P w K mg base "spans_of" 3 ["program", "size"] (spSpans K CP C)) (G_nest_count : FB P w K mg base "nest_count" 2 ["spans"] spCount) {nI : String} {tl0 : List Value} (EF : ErrB P w K mg base "ArithmeticError.__new__" [.type "ArithmeticError", .type "Exception", .type "BaseException", .type "object"] "Falls" "size" CF) : FnOk P w K mg base (L2N.CX P w) 5 f fd ["program", "size"] (spRound K CP C CF) := by
  refine Fun.okN F sc_round_count (fun vs H Q E h => ?_) (fun cdv A outer s H vs Q E hr h => ?_)
  · obtain ⟨a, n, qs, rfl, _⟩ := h
    rfl
  · obtain ⟨a, n, qs, rfl, hq, n1, nb, q1, q2⟩ := h
    refine ⟨_, (pss_cons (ps_expr (pe_fb G_check_program hr (by decide) (by rfl) (pa_cons (pv 0) pa_nil)))
        (pss_cons (ps_expr (pe_fb G_check_size hr (by decide) (by rfl) (pa_cons (pv 1) pa_nil)))
        (pss_cons (ps_if (pt_val (pe_fb G_falls_at hr (by decide) (by rfl) (pa_cons (pv 0) (pa_cons (pv 1) pa_nil))))
        (pss_one (ps_errB root_arith EF rfl (L2N.takes_of rfl rfl rfl rfl) hr (by decide) (by rfl) (pv 1)))
        pss_nil)
        (pss_one (ps_ret (pe_callB (cr_sum (by rfl)) (by rfl) T.sum (by decide +kernel) (pa_cons (pe_lc (own := [("spans", 2)]) (g := gName 2) (by rfl) sc_round_count.nd (pi_list (pe_fb G_spans_of hr (by decide) (by rfl) (pa_cons (pv 0) (pa_cons (pv 1) pa_nil)))) (blkOk_by (own := [("spans", 2)]) (N := ["program", "size", "spans"]) (sc := defScope s_round_count) (by decide +kernel))
            (fun _ _ _ _ _ => (pg_name (i := 2) sc_round_count.nd rfl (by first | exact .inl rfl | exact .inr rfl))) (fun _ _ _ _ _ => pts_nil) (fun _ _ _ _ _ => (pe_fb G_nest_count hr (by decide) (by rfl) (pa_cons (pv 2) pa_nil)))) pa_nil))))))), ?_⟩
    obtain ⟨dx, tp, xs0, g1, _⟩ := id hq.1
    have n0 : (0:Int) ≤ n := by omega
    refine ⟨_, rfl, a, dx, _, rfl, g1, ?_⟩
    refine ⟨_, rfl, n, rfl, n1, nb, ?_⟩
    refine ⟨_, rfl, _, rfl, a, n, qs, rfl, hq, n0, nb, fun H0 s00 => ⟨fallsQ qs n, rfl, ?_⟩⟩
    cases hf : fallsQ qs n with
    | true =>
      refine iteT ?_
      refine ⟨_, rfl, ?_⟩
      exact err_go fun d nd => q2 hf d _ (s00.trans (same_new nd)) upd_same
    | false =>
      refine iteF ?_
      have hq := hq.ext s00
      refine ⟨_, rfl, _, rfl, a, n, qs, rfl, hq, fun H1 D0 xs hD0 s0 hL0 hS0 => ?_⟩
      obtain ⟨okq, lq⟩ := hq.2
      have bigL : 1000 ≤ sizeLine := by decide
      have h3 := hS0.1
      rw [List.length_map] at h3
      refine ⟨D0, rfl, ⟨_, SqL.of hL0⟩, fun D hD => ?_⟩
      refine lc_list (K := K) (a := D0) (xs := xs.map V.ref) (fun i H' => Same H1 H' ∧ H' D = some (.lst (((qs.take i).map fun z => cntS (spanOf n z)).map V.int))) ⟨same_new hD, upd_same⟩ (fun i H' _ h => (SqL.of hL0).ext h.1) (fun i x H' hi h => ?_) (fun H' h => ?_)
      · obtain ⟨sm, hL⟩ := h
        refine ⟨rfl, ?_⟩
        obtain ⟨b, hb, rfl⟩ : ∃ b, xs[i]? = some b ∧ x = .ref b := by
          rw [List.getElem?_map] at hi
          cases e : xs[i]? with
          | none => rw [e] at hi; cases hi
          | some r => rw [e] at hi; exact ⟨r, rfl, (Option.some.inj hi).symm⟩

        have hil : i < qs.length := by rw [← h3]; exact (List.getElem?_eq_some_iff.mp hb).1
        have hgi : (qs.map (spanOf n))[i]? = some (spanOf n qs[i]) := by rw [List.getElem?_map, List.getElem?_eq_getElem hil]; rfl
        have okp := okq _ (List.getElem_mem hil)
        have hbs := sm _ _ (hS0.2 i b _ hb hgi)
        refine ⟨_, rfl, b, _, rfl, hbs, span_okQ okp n, span_leQ okp n0 nb, fun H2 s2 => ⟨_, s2 _ _ hL, ?_, ?_, ?_⟩⟩
        · show _ < sizeLine
          rw [List.length_map, List.length_map, List.length_take]
          omega
        · intro c o hc
          rw [upd_ne (fun e => by rw [e, hD] at hc; cases hc)]
          exact s2 c o (sm c o hc)
        · rw [upd_same, List.take_add_one, List.getElem?_eq_getElem hil, List.map_append, List.map_append]
          rfl
      · obtain ⟨sm, hL⟩ := h
        rw [List.length_map, h3, List.take_length] at hL
        refine ⟨D, _, rfl, SqL.of hL, ?_⟩
        exact q1 hf _ (s00.trans (s0.trans sm))
end
end Sq.N4
namespace Sq.N4
open PySem L2 TL
section
variable {P : Program} {w : World} {K : PySem.W.Frag} {mg : Str → Option Value} {base : Heap}
theorem PurlAt.ne_tup {H : Hp} {p a : Addr} {xs : List V} (h : PurlAt H p) (e : H a = some (.tup xs)) : a ≠ p := fun z => by
  obtain ⟨m, d, y⟩ := h
  rw [z, y] at e
  cases e
theorem PurlAt.ne_new {H : Hp} {p a : Addr} (h : PurlAt H p) (e : H a = none) : a ≠ p := fun z => by
  obtain ⟨m, d, y⟩ := h
  rw [z, y] at e
  cases e
theorem off_none {p a : Addr} {H H' : Hp} (h : Off p H H') (na : a ≠ p) (e : H' a = none) : H a = none := by
  cases z : H a with
  | none => rfl
  | some o => rw [h a o na z] at e; cases e
/-- a list of pairs of numbers, written out -/
def taPrs : List (Nat × Nat) → TA
  | [] => tNil
  | (a, b) :: r => tCons (tTup (tCons (tC (.int (a : Int))) (tCons (tC (.int (b : Int))) tNil))) (taPrs r)
def PrsAt (H : Hp) : List Addr → List (Nat × Nat) → Prop
  | [], [] => True
  | t :: ts, x :: L => H t = some (.tup [.int (x.1 : Int), .int (x.2 : Int)]) ∧ PrsAt H ts L
  | _, _ => False
theorem PrsAt.imp {H H' : Hp} (e : ∀ c xs, H c = some (.tup xs) → H' c = some (.tup xs)) : ∀ {ts : List Addr} {L : List (Nat × Nat)}, PrsAt H ts L → PrsAt H' ts L
  | [], [], _ => True.intro
  | _ :: _, _ :: _, h => ⟨e _ _ h.1, PrsAt.imp e h.2⟩
  | [], _ :: _, h => h.elim
  | _ :: _, [], h => h.elim
theorem PrsAt.len {H : Hp} : ∀ {ts : List Addr} {L : List (Nat × Nat)}, PrsAt H ts L → ts.length = L.length
  | [], [], _ => rfl
  | _ :: _, _ :: _, h => congrArg (· + 1) h.2.len
  | [], _ :: _, h => h.elim
  | _ :: _, [], h => h.elim
theorem PrsAt.get {H : Hp} : ∀ {ts : List Addr} {L : List (Nat × Nat)}, PrsAt H ts L → ∀ i, i < L.length → ∃ t x, ts[i]? = some t ∧ L[i]? = some x ∧ H t = some (.tup [.int (x.1 : Int), .int (x.2 : Int)])
  | [], [], _, i, h => absurd h (Nat.not_lt_zero _)
  | t :: _, x :: _, h, 0, _ => ⟨t, x, rfl, rfl, h.1⟩
  | _ :: _, _ :: _, h, i + 1, hi => h.2.get i (Nat.lt_of_succ_lt_succ hi)
  | [], _ :: _, h, _, _ => h.elim
  | _ :: _, [], h, _, _ => h.elim
theorem PrsAt.app {H : Hp} : ∀ {ts us : List Addr} {L M : List (Nat × Nat)}, PrsAt H ts L → PrsAt H us M → PrsAt H (ts ++ us) (L ++ M)
  | [], _, [], _, _, h => h
  | _ :: _, _, _ :: _, _, h, k => ⟨h.1, h.2.app k⟩
  | [], _, _ :: _, _, h, _ => h.elim
  | _ :: _, _, [], _, h, _ => h.elim
theorem prs_go : ∀ (L : List (Nat × Nat)) {σ : L2.St} {H : Hp} {Q : List V → Hp → Prop}, (∀ ts H', Same H H' → PrsAt H' ts L → Q (ts.map V.ref) H') → taPrs L σ H Q
  | [], σ, H, Q, h => h [] H (Same.refl H) True.intro
  | (a, b) :: r, σ, H, Q, h => ⟨by show 2 ≤ sizeLine; decide, fun t nt => prs_go r fun ts H' s k => h (t :: ts) H' ((same_new nt).trans s) ⟨s _ _ upd_same, k⟩⟩
theorem lst_prs (L : List (Nat × Nat)) (hl : L.length ≤ 100) {σ : L2.St} {H : Hp} {Q : VK} (h : ∀ ts p H', Same H H' → H p = none → H' p = some (.lst (ts.map V.ref)) → PrsAt H' ts L → Q (.ref p) H') : tLst (taPrs L) σ H Q :=
  prs_go L fun ts H' s k => ⟨by rw [List.length_map, k.len]; exact Nat.le_trans hl (by decide), fun p np => h ts p _ (s.trans (same_new np)) (by cases e : H p with | none => rfl | some o => rw [s _ _ e] at np; cases np) upd_same (k.imp fun c xs e => same_new np _ _ e)⟩
def usO : List (Nat × Nat) := [(1, 10), (1, 4), (1, 7), (1, 9), (4, 10), (7, 10)]
def usI : List (Nat × Nat) := [(1, 13), (13, 10), (14, 10), (13, 15), (13, 16), (16, 10), (1, 15)]
def usL (b : Bool) : List (Nat × Nat) := if b = true then usO ++ usI else usO
def lm (b : Bool) : Nat := if b = true then 18 else 12
theorem us_lt : ∀ b, ∀ x ∈ usL b, x.1 < lm b ∧ x.2 < lm b := by decide +kernel
theorem us_len (b : Bool) : 6 ≤ (usL b).length ∧ (usL b).length ≤ 13 := by cases b <;> decide
def dnN (r : Int) : Nat := if r = 0 then 1 else 0
theorem dn_eq (r : Int) : decide (V.int r = V.int 0) = decide (dnN r = 1) := by
  unfold dnN
  by_cases h : r = 0
  · subst h
    decide
  · rw [if_neg h, decide_eq_false (fun z => h (V.int.inj z))]
    decide
/-- a drawn loop -/
def WalkV (H : Hp) (t : Addr) (o : Nat × Nat × Nat) : Prop := H t = some (.tup [.int (o.1 : Int), .int (o.2.1 : Int), .bl (decide (o.2.2 = 1))])
def spLoop : Sp := fun vs H Q _ => ∃ (p : Addr) (b : Bool), vs = [.ref p, .bl b] ∧ PurlAt H p ∧ ∀ (t : Addr) (x y d : Nat) (H' : Hp), x < lm b → y < lm b → PurlAt H' p → Off p H H' → WalkV H' t (x, y, d) → Q (.ref t) H'
theorem walk_new {H : Hp} {t : Addr} {r1 r2 r : Int} (h1 : 0 ≤ r1) (h2 : 0 ≤ r2) : WalkV (upd H t (.tup [.int r1, .int r2, .bl (decide (V.int r = V.int 0))])) t (r1.toNat, r2.toNat, dnN r) := by
  unfold WalkV
  rw [upd_same, dn_eq, Int.toNat_of_nonneg h1, Int.toNat_of_nonneg h2]
theorem walk_newN {H : Hp} {t : Addr} {x1 x2 : Nat} {r : Int} : WalkV (upd H t (.tup [.int (x1 : Int), .int (x2 : Int), .bl (decide (V.int r = V.int 0))])) t (x1, x2, dnN r) := by
  unfold WalkV
  rw [upd_same, dn_eq]
theorem at_ref {ts : List Addr} {r : Int} {t : Addr} (h : 0 ≤ r) (e : ts[r.toNat]? = some t) : atI (ts.map V.ref) r = some (.ref t) := by
  have z : r = ((r.toNat : Nat) : Int) := (Int.toNat_of_nonneg h).symm
  rw [z]
  refine atI_nat ?_
  rw [List.getElem?_map, e]
  rfl
theorem gen_if {b : Bool} {t u : TE} {v : V} {σ : L2.St} {H : Hp} {Q : VK} (h : (if b = true then t σ H Q else u σ H Q) = Q v H) (k : Q v H) : if b = true then t σ H Q else u σ H Q := by rw [h]; exact k
abbrev s__law_purl : Stmt := top 67
theorem sc__law_purl : FnScope ["_law_script", "_law_spot", "_law_mixed", "_law_cell", "_law_own"] ["_law_script", "_law_spot"] (defScope s__law_purl) := ⟨rfl, rfl, rfl, by decide +kernel, rfl, by decide +kernel, by decide +kernel⟩
theorem ok__law_purl {f : Addr} {fd : FuncData} (F : Fun K "_law_purl" "_law_purl" s__law_purl f fd) (T : Bt mg)  : FnOk P w K mg base CX0 1 f fd ["_law_script", "_law_spot"] (spPurl K) := by
  refine F.ok sc__law_purl (fun vs H Q E h => ?_) (fun cdv A outer s H vs Q E hr h => ?_)
  · obtain ⟨a, ns, k, rfl, _⟩ := h
    rfl
  · obtain ⟨a, ns, k, rfl, hS, hl, k1, q⟩ := h
    refine ⟨_, (pss_cons (ps_set (i := 2) sc__law_purl.nd rfl (by first | exact .inl rfl | exact .inr rfl) (pe_op op_add pe_int (pe_op op_mul pe_int (pv 1))))
        (pss_cons (ps_for PassesOwn.never rfl (pi_list (pe_op op_cat (pe_slice sl_list (pv 0) po_none (po_some pe_int)) (pe_slice sl_list (pv 0) (po_some (pv 1)) (po_some (pe_op op_add (pv 1) pe_int))))) (pg_name (i := 3) sc__law_purl.nd rfl (by first | exact .inl rfl | exact .inr rfl))
        (pss_one (ps_set (i := 2) sc__law_purl.nd rfl (by first | exact .inl rfl | exact .inr rfl) (pe_op op_mod (pe_callTy call_int1 (by rfl) T.int (by decide +kernel) (pa_cons (pe_op op_add (pe_op op_add (pe_op op_mul (pv 2) pe_int) (pv 3)) pe_int) pa_nil)) pe_int))))
        (pss_cons (ps_set (i := 4) sc__law_purl.nd rfl (by first | exact .inl rfl | exact .inr rfl) (pe_ifExp (pt_cmpR op_lt (pv 1) (pe_callB call_len_seq (by rfl) T.len PySem.boot_len (pa_cons (pv 0) pa_nil)) (nomark _)) (pe_ix ix_list (pv 0) (pv 1) (fun _ _ => rfl)) pe_int))
        (pss_one (ps_ret (pe_lst (pa_cons (pv 2) (pa_cons (pe_ifExp (pt_cmpR op_ge (pe_callB call_abs (by rfl) T.abs (by decide +kernel) (pa_cons (pv 4) pa_nil)) (pe_op op_pow pe_int pe_int) (nomark _)) (pe_callB call_abs (by rfl) T.abs (by decide +kernel) (pa_cons (pv 4) pa_nil)) pe_int) pa_nil)))))))), ?_⟩
    refine ⟨_, rfl, _, _, rfl, rfl, .inl ⟨by decide, by decide⟩, _, _, rfl, rfl, ?_⟩
    refine ⟨_, rfl, _, rfl, a, _, rfl, hS, fun p np => ?_⟩
    have s1 := same_new (o := .lst (cutV (ns.map V.int) none (some 2))) np
    refine ⟨_, rfl, _, rfl, _, rfl, _, rfl, _, _, rfl, rfl, _, rfl, a, _, rfl, hS.ext s1, fun p2 np2 => ?_⟩
    have s2 := same_new (o := .lst (cutV (ns.map V.int) (some (k : Int)) (some ((k : Int) + 1)))) np2
    refine ⟨p, p2, _, _, rfl, rfl, s2 _ _ upd_same, upd_same, ?_, fun p3 np3 => ?_⟩
    · have h1 := cutV_length (ns.map V.int) none (some 2)
      have h2 := cutV_length (ns.map V.int) (some (k : Int)) (some ((k : Int) + 1))
      rw [List.length_map] at h1 h2
      have h3 : (126 : Nat) ≤ sizeLine := by decide
      omega
    have s3 := same_new (o := .lst (cutV (ns.map V.int) none (some 2) ++ cutV (ns.map V.int) (some (k : Int)) (some ((k : Int) + 1)))) np3
    have sm := (s1.trans s2).trans s3
    have allI : ∀ x ∈ cutV (ns.map V.int) none (some 2) ++ cutV (ns.map V.int) (some (k : Int)) (some ((k : Int) + 1)), ∃ i, x = V.int i := fun x hx => by
      have h0 : x ∈ ns.map V.int := by
        rcases List.mem_append.mp hx with hx | hx
        · unfold cutV at hx
          exact List.mem_of_mem_drop (List.mem_of_mem_take hx)
        · unfold cutV at hx
          exact List.mem_of_mem_drop (List.mem_of_mem_take hx)
      obtain ⟨i, _, e⟩ := List.mem_map.mp h0
      exact ⟨i, e.symm⟩
    refine ⟨p3, rfl, ⟨_, SqL.of upd_same⟩, ?_⟩
    refine for_list (K := K) (a := p3) (xs := cutV (ns.map V.int) none (some 2) ++ cutV (ns.map V.int) (some (k : Int)) (some ((k : Int) + 1))) (fun _ σ H' => (∃ m v v2, σ = [some (.ref a), some (.int (k : Int)), some (.int m), v, v2]) ∧ Same H H' ∧ H' p3 = some (.lst (cutV (ns.map V.int) none (some 2) ++ cutV (ns.map V.int) (some (k : Int)) (some ((k : Int) + 1)))))
      ⟨⟨_, _, _, rfl⟩, sm, upd_same⟩ (fun i σ H' _ h => SqL.of h.2.2) (fun i x σ H' hx h => ?_) (fun σ H' h => ?_)
    · obtain ⟨⟨m, v, v2, rfl⟩, sh, hp3⟩ := h
      obtain ⟨z, rfl⟩ := allI x (List.mem_of_getElem? hx)
      refine ⟨_, rfl, _, _, rfl, rfl, .inr ⟨by decide, by decide⟩, _, rfl, _, _, rfl, rfl, _, _, rfl, rfl, .inl ⟨_, rfl, _, _, rfl, rfl, (by show (0 : Int) < 2147483629; decide), ?_⟩⟩
      exact ⟨⟨_, _, _, rfl⟩, sh, hp3⟩
    · obtain ⟨⟨m, v, v2, rfl⟩, sh, hp3⟩ := h
      have fin : ∀ n : Int, ∀ p, H' p = none → Q (.ref p) (upd H' p (.lst [.int m, .int n])) := fun n p np => q _ _ (by
        cases e : H p with
        | none => rfl
        | some o => rw [sh _ _ e] at np; cases np) ⟨m, n, upd_same⟩ (sh.trans (same_new np))
      have last : ∀ j : Int, (∃ i, V.int j = V.int i ∧ ∃ i' j', V.int (if i < 0 then -i else i) = V.int i' ∧ V.int ((10 : Int) ^ (18 : Int).toNat) = V.int j' ∧ True) := fun j => ⟨_, rfl, _, _, rfl, rfl, trivial⟩
      have own : ∀ j : Int, tLst (tCons (tVar 2) (tCons (tIf (tTest (tOp (rI0 fun i j => .bl (decide (j ≤ i))) (tCB (fun xs H Q => ∃ i, xs = [.int i] ∧ Q (.int (if i < 0 then -i else i)) H) (tCons (tVar 4) tNil)) (tOp (rI CPow fun i j => .int (i ^ j.toNat)) (tC (.int 10)) (tC (.int 18)))))
          (tCB (fun xs H Q => ∃ i, xs = [.int i] ∧ Q (.int (if i < 0 then -i else i)) H) (tCons (tVar 4) tNil)) (tC (.int 0))) tNil)) [some (.ref a), some (.int (k : Int)), some (.int m), v, some (.int j)] H' Q := fun j => by
        refine ⟨_, rfl, _, rfl, _, rfl, _, _, rfl, rfl, ⟨by decide, by decide, by decide⟩, _, _, rfl, rfl, _, rfl, ?_⟩
        refine ite2 (fun _ => ?_) (fun _ => ?_)
        · exact ⟨_, rfl, _, rfl, (by show 2 ≤ sizeLine; decide), fun p np => fin _ p np⟩
        · exact ⟨(by show 2 ≤ sizeLine; decide), fun p np => fin _ p np⟩
      refine ⟨_, rfl, _, rfl, a, _, rfl, .inl (hS.ext sh), _, _, rfl, rfl, _, rfl, ?_⟩
      rw [List.length_map]
      refine ite2 (fun hk => ?_) (fun hk => ?_)
      · have hlt : k < ns.length := Int.ofNat_lt.mp (of_decide_eq_true hk)
        refine ⟨_, rfl, _, rfl, a, _, _, _, rfl, rfl, hS.ext sh, atI_nat (by rw [List.getElem?_map, List.getElem?_eq_getElem hlt]; rfl), ?_⟩
        exact own _
      · exact own _
abbrev s__law_dig : Stmt := top 56
theorem sc__law_dig : FnScope ["_law_purl_here", "_law_many", "_law_digit"] ["_law_purl_here", "_law_many"] (defScope s__law_dig) := ⟨rfl, rfl, rfl, by decide +kernel, rfl, by decide +kernel, by decide +kernel⟩
theorem ok__law_dig {f : Addr} {fd : FuncData} (F : Fun K "_law_dig" "_law_dig" s__law_dig f fd) (T : Bt mg)  : FnOk P w K mg base CX0 1 f fd ["_law_purl_here", "_law_many"] spDig := by
  refine F.ok sc__law_dig (fun vs H Q E h => ?_) (fun cdv A outer s H vs Q E hr h => ?_)
  · obtain ⟨p, k, rfl, _⟩ := h
    rfl
  · obtain ⟨p, k, rfl, ⟨m, d, hp⟩, k0, k1, q⟩ := h
    refine ⟨_, (pss_cons (ps_if (pt_cmpR op_gt (pe_ix ix_list (pv 0) pe_int (fun _ _ => rfl)) pe_int (nomark _))
        (pss_cons (ps_asg (pe_callB call_divmod (by rfl) T.divmod (by decide +kernel) (pa_cons (pe_ix ix_list (pv 0) pe_int (fun _ _ => rfl)) (pa_cons (pv 1) pa_nil))) (pg_tup (by rfl) (pgs_cons (pg_sub (pv 0) pe_int set_list) (pgs_cons (pg_name (i := 2) sc__law_dig.nd rfl (by first | exact .inl rfl | exact .inr rfl)) pgs_nil))))
        (pss_one (ps_ret (pv 2))))
        pss_nil)
        (pss_cons (ps_asg (pe_op op_mod (pe_callTy call_int1 (by rfl) T.int (by decide +kernel) (pa_cons (pe_op op_add (pe_op op_mul (pe_ix ix_list (pv 0) pe_int (fun _ _ => rfl)) pe_int) pe_int) pa_nil)) pe_int) (pg_sub (pv 0) pe_int set_list))
        (pss_one (ps_ret (pe_op op_mod (pe_callTy call_int1 (by rfl) T.int (by decide +kernel) (pa_cons (pe_op op_fdiv (pe_ix ix_list (pv 0) pe_int (fun _ _ => rfl)) pe_int) pa_nil)) (pv 1)))))), ?_⟩
    refine ⟨_, rfl, p, _, 1, _, rfl, rfl, SqL.of hp, rfl, _, _, rfl, rfl, _, rfl, ?_⟩
    refine ite2 (fun hd => ?_) (fun hd => ?_)
    · refine ⟨_, rfl, p, _, 1, _, rfl, rfl, SqL.of hp, rfl, _, rfl, d, k, rfl, ⟨k0, k1⟩, fun t nt => ?_⟩
      have ntp : p ≠ t := fun e => by
        rw [← e, hp] at nt
        cases nt
      refine ⟨t, _, rfl, SqT.of upd_same, rfl, _, _, rfl, _, rfl, p, _, 1, 1, rfl, rfl, (by rw [upd_ne ntp]; exact hp), rfl, _, _, rfl, rfl, _, rfl, ?_⟩
      refine q _ _ (Int.emod_nonneg _ (by omega)) (Int.emod_lt_of_pos _ k0) ⟨_, _, upd_same⟩ fun b o hb e => ?_
      have nbt : b ≠ t := fun z => by
        rw [← z, e] at nt
        cases nt
      rw [upd_ne hb, upd_ne nbt]
      exact e
    · refine ⟨_, rfl, p, _, 0, _, rfl, rfl, SqL.of hp, rfl, _, _, rfl, rfl, .inr ⟨by decide, by decide⟩, _, _, rfl, rfl, .inl ⟨_, rfl, _, _, rfl, rfl, (by show (0 : Int) < 2147483629; decide), ?_⟩⟩
      refine ⟨_, rfl, p, _, 0, 0, rfl, rfl, hp, rfl, ?_⟩
      refine ⟨_, rfl, p, _, 0, _, rfl, rfl, SqL.of upd_same, rfl, _, _, rfl, rfl, ⟨by decide, by decide⟩, .inl ⟨_, rfl, _, rfl, _, _, rfl, rfl, k0, ?_⟩⟩
      exact q _ _ (Int.emod_nonneg _ (by omega)) (Int.emod_lt_of_pos _ k0) ⟨_, _, upd_same⟩ fun b o hb e => by rw [upd_ne hb]; exact e
abbrev s__law_loop : Stmt := top 57
theorem sc__law_loop : FnScope ["_law_purl_here", "_law_inner", "_law_down", "_law_usual_here", "_law_first", "_law_second", "_law_many"] ["_law_purl_here", "_law_inner"] (defScope s__law_loop) := ⟨rfl, rfl, rfl, by decide +kernel, rfl, by decide +kernel, by decide +kernel⟩
theorem ok__law_loop {f : Addr} {fd : FuncData} (F : Fun K "_law_loop" "_law_loop" s__law_loop f fd) (T : Bt mg) (G__law_dig : FB P w K mg base "_law_dig" 1 ["_law_purl_here", "_law_many"] spDig) : FnOk P w K mg base CX0 2 f fd ["_law_purl_here", "_law_inner"] spLoop := by
  refine F.ok sc__law_loop (fun vs H Q E h => ?_) (fun cdv A outer s H vs Q E hr h => ?_)
  · obtain ⟨p, b, rfl, _⟩ := h
    rfl
  · obtain ⟨p, b, rfl, hp, q⟩ := h
    refine ⟨_, (pss_cons (ps_set (i := 2) sc__law_loop.nd rfl (by first | exact .inl rfl | exact .inr rfl) (pe_cmpR op_eq (pe_fb G__law_dig hr (by decide) (by rfl) (pa_cons (pv 0) (pa_cons pe_int pa_nil))) pe_int (nomark _)))
        (pss_cons (ps_if (pt_cmpR op_eq (pe_fb G__law_dig hr (by decide) (by rfl) (pa_cons (pv 0) (pa_cons pe_int pa_nil))) pe_int (nomark _))
        (pss_cons (ps_set (i := 3) sc__law_loop.nd rfl (by first | exact .inl rfl | exact .inr rfl) (show PE _ _ (tLst (taPrs usO)) from (pe_lst (pa_cons (pe_tup (pa_cons pe_int (pa_cons pe_int pa_nil))) (pa_cons (pe_tup (pa_cons pe_int (pa_cons pe_int pa_nil))) (pa_cons (pe_tup (pa_cons pe_int (pa_cons pe_int pa_nil))) (pa_cons (pe_tup (pa_cons pe_int (pa_cons pe_int pa_nil))) (pa_cons (pe_tup (pa_cons pe_int (pa_cons pe_int pa_nil))) (pa_cons (pe_tup (pa_cons pe_int (pa_cons pe_int pa_nil))) pa_nil)))))))))
        (pss_cons (ps_if (pt_val (pv 1))
        (pss_one (ps_set (i := 3) sc__law_loop.nd rfl (by first | exact .inl rfl | exact .inr rfl) (pe_op op_cat (pv 3) (show PE _ _ (tLst (taPrs usI)) from (pe_lst (pa_cons (pe_tup (pa_cons pe_int (pa_cons pe_int pa_nil))) (pa_cons (pe_tup (pa_cons pe_int (pa_cons pe_int pa_nil))) (pa_cons (pe_tup (pa_cons pe_int (pa_cons pe_int pa_nil))) (pa_cons (pe_tup (pa_cons pe_int (pa_cons pe_int pa_nil))) (pa_cons (pe_tup (pa_cons pe_int (pa_cons pe_int pa_nil))) (pa_cons (pe_tup (pa_cons pe_int (pa_cons pe_int pa_nil))) (pa_cons (pe_tup (pa_cons pe_int (pa_cons pe_int pa_nil))) pa_nil))))))))))))
        pss_nil)
        (pss_cons (ps_asg (pe_ix ix_list (pv 3) (pe_fb G__law_dig hr (by decide) (by rfl) (pa_cons (pv 0) (pa_cons (pe_callB call_len_seq (by rfl) T.len PySem.boot_len (pa_cons (pv 3) pa_nil)) pa_nil))) (fun _ _ => rfl)) (pg_tup (by rfl) (pgs_cons (pg_name (i := 4) sc__law_loop.nd rfl (by first | exact .inl rfl | exact .inr rfl)) (pgs_cons (pg_name (i := 5) sc__law_loop.nd rfl (by first | exact .inl rfl | exact .inr rfl)) pgs_nil))))
        (pss_one (ps_ret (pe_tup (pa_cons (pv 4) (pa_cons (pv 5) (pa_cons (pv 2) pa_nil)))))))))
        pss_nil)
        (pss_cons (ps_set (i := 6) sc__law_loop.nd rfl (by first | exact .inl rfl | exact .inr rfl) (pe_ifExp (pt_val (pv 1)) pe_int pe_int))
        (pss_one (ps_ret (pe_tup (pa_cons (pe_fb G__law_dig hr (by decide) (by rfl) (pa_cons (pv 0) (pa_cons (pv 6) pa_nil))) (pa_cons (pe_fb G__law_dig hr (by decide) (by rfl) (pa_cons (pv 0) (pa_cons (pv 6) pa_nil))) (pa_cons (pv 2) pa_nil))))))))), ?_⟩
    refine ⟨_, rfl, p, 4, rfl, hp, by decide, by decide, fun rd H1 _ _ hp1 o1 => ?_⟩
    refine ⟨rfl, ?_⟩
    simp only [L2.start, List.map_cons, List.map_nil, List.length_cons, List.length_nil, Nat.reduceAdd, Nat.reduceSub, List.replicate_succ, List.replicate_zero, List.cons_append, List.nil_append, List.set_cons_zero, List.set_cons_succ]
    refine ⟨_, rfl, p, 2, rfl, hp1, by decide, by decide, fun r2 H2 _ _ hp2 o2 => ?_⟩
    refine ⟨rfl, _, rfl, ?_⟩
    refine ite2 (fun _ => ?_) (fun _ => ?_)
    · refine sq_ (set_ (lst_prs usO (by decide) fun ts l HA sA nl hl hts => ?_))
      simp only [L2.start, List.map_cons, List.map_nil, List.length_cons, List.length_nil, Nat.reduceAdd, Nat.reduceSub, List.replicate_succ, List.replicate_zero, List.cons_append, List.nil_append, List.set_cons_zero, List.set_cons_succ]
      have hlp : l ≠ p := PurlAt.ne_new hp2 nl
      refine sq_ (st_of (fun σ' H' => ∃ l ts, σ' = [some (.ref p), some (.bl b), some (.bl (decide (V.int rd = V.int 0))), some (.ref l), none, none, none] ∧ PurlAt H' p ∧ Off p H2 H' ∧ l ≠ p ∧ H' l = some (.lst (ts.map V.ref)) ∧ PrsAt H' ts (usL b)) (fun D' k => ?_) ?_)
      · refine if_ ⟨_, rfl, b, rfl, ?_⟩
        cases b with
        | false => exact iteF (k _ _ ⟨l, ts, rfl, PurlAt.same hp2 sA, Same.off sA, hlp, hl, hts⟩)
        | true =>
          refine iteT ?_
          refine set_ ⟨_, rfl, ?_⟩
          refine lst_prs usI (by decide) fun us m HB sB nm hm hus => ?_
          refine ⟨l, m, _, _, rfl, rfl, sB _ _ hl, hm, by rw [List.length_map, List.length_map, hts.len, hus.len]; decide, fun r nr => ?_⟩
          have s3 := (sA.trans sB).trans (same_new (o := .lst (ts.map V.ref ++ us.map V.ref)) nr)
          refine k _ _ ⟨r, ts ++ us, rfl, PurlAt.same hp2 s3, Same.off s3, PurlAt.ne_new (PurlAt.same hp2 (sA.trans sB)) nr, ?_, ?_⟩
          · rw [upd_same, List.map_append]
          · exact PrsAt.app (hts.imp fun c xs e => same_new nr _ _ (sB _ _ e)) (hus.imp fun c xs e => same_new nr _ _ e)
      rintro _ H3 ⟨l, ts, rfl, hp3, o3, hlp, hl, hts⟩
      have ul := us_len b
      have tl' := hts.len
      first | refine sq_ ?_ | refine pr_seq ?_
      refine ⟨_, rfl, _, rfl, _, rfl, l, _, rfl, .inl (SqL.of hl), p, ts.length, (by rw [List.length_map]; rfl), hp3, by omega, by omega, fun r H4 r0 r1 hp4 o4 => ?_⟩
      obtain ⟨t, x, e1, e2, ht⟩ := hts.get r.toNat (by omega)
      obtain ⟨x1, x2⟩ := us_lt b x (List.mem_of_getElem? e2)
      refine ⟨l, _, r, _, rfl, rfl, SqL.of (o4 l _ hlp hl), at_ref r0 e1, ?_⟩
      refine ⟨t, _, rfl, SqT.of (o4 t _ (PurlAt.ne_tup hp3 ht) ht), rfl, _, _, rfl, _, _, rfl, rfl, ?_⟩
      simp only [L2.start, List.map_cons, List.map_nil, List.length_cons, List.length_nil, Nat.reduceAdd, Nat.reduceSub, List.replicate_succ, List.replicate_zero, List.cons_append, List.nil_append, List.set_cons_zero, List.set_cons_succ]
      refine ⟨_, rfl, _, rfl, _, rfl, by show 3 ≤ sizeLine; decide, fun t2 nt2 => ?_⟩
      exact q t2 x.1 x.2 (dnN rd) _ x1 x2 (PurlAt.same hp4 (same_new nt2)) ((((o1.trans o2).trans o3).trans o4).trans (Same.off (same_new nt2))) walk_newN
    · have hk : ∃ k : Nat, k = lm b := ⟨_, rfl⟩
      refine ⟨_, rfl, b, rfl, ?_⟩
      refine gen_if (v := .int (lm b : Int)) (by cases b <;> rfl) ?_
      simp only [L2.start, List.map_cons, List.map_nil, List.length_cons, List.length_nil, Nat.reduceAdd, Nat.reduceSub, List.replicate_succ, List.replicate_zero, List.cons_append, List.nil_append, List.set_cons_zero, List.set_cons_succ]
      have l0 : 0 < lm b ∧ lm b ≤ 18 := by cases b <;> decide
      refine ⟨_, rfl, _, rfl, p, (lm b : Int), rfl, hp2, by omega, by omega, fun r3 H3 r30 r31 hp3 o3 => ?_⟩
      refine ⟨_, rfl, _, rfl, p, (lm b : Int), rfl, hp3, by omega, by omega, fun r4 H4 r40 r41 hp4 o4 => ?_⟩
      refine ⟨_, rfl, by show 3 ≤ sizeLine; decide, fun t2 nt2 => ?_⟩
      exact q t2 r3.toNat r4.toNat (dnN rd) _ (by omega) (by omega) (PurlAt.same hp4 (same_new nt2)) ((((o1.trans o2).trans o3).trans o4).trans (Same.off (same_new nt2))) (walk_new r30 r40)
abbrev s__law_usual : Stmt := top 58
theorem sc__law_usual : FnScope ["_law_purl_here", "_law_inner", "_law_usual_here", "_law_first", "_law_second"] ["_law_purl_here", "_law_inner"] (defScope s__law_usual) := ⟨rfl, rfl, rfl, by decide +kernel, rfl, by decide +kernel, by decide +kernel⟩
theorem ok__law_usual {f : Addr} {fd : FuncData} (F : Fun K "_law_usual" "_law_usual" s__law_usual f fd) (T : Bt mg) (G__law_dig : FB P w K mg base "_law_dig" 1 ["_law_purl_here", "_law_many"] spDig) : FnOk P w K mg base CX0 2 f fd ["_law_purl_here", "_law_inner"] spLoop := by
  refine F.ok sc__law_usual (fun vs H Q E h => ?_) (fun cdv A outer s H vs Q E hr h => ?_)
  · obtain ⟨p, b, rfl, _⟩ := h
    rfl
  · obtain ⟨p, b, rfl, hp, q⟩ := h
    refine ⟨_, (pss_cons (ps_set (i := 2) sc__law_usual.nd rfl (by first | exact .inl rfl | exact .inr rfl) (show PE _ _ (tLst (taPrs usO)) from (pe_lst (pa_cons (pe_tup (pa_cons pe_int (pa_cons pe_int pa_nil))) (pa_cons (pe_tup (pa_cons pe_int (pa_cons pe_int pa_nil))) (pa_cons (pe_tup (pa_cons pe_int (pa_cons pe_int pa_nil))) (pa_cons (pe_tup (pa_cons pe_int (pa_cons pe_int pa_nil))) (pa_cons (pe_tup (pa_cons pe_int (pa_cons pe_int pa_nil))) (pa_cons (pe_tup (pa_cons pe_int (pa_cons pe_int pa_nil))) pa_nil)))))))))
        (pss_cons (ps_if (pt_val (pv 1))
        (pss_one (ps_set (i := 2) sc__law_usual.nd rfl (by first | exact .inl rfl | exact .inr rfl) (pe_op op_cat (pv 2) (show PE _ _ (tLst (taPrs usI)) from (pe_lst (pa_cons (pe_tup (pa_cons pe_int (pa_cons pe_int pa_nil))) (pa_cons (pe_tup (pa_cons pe_int (pa_cons pe_int pa_nil))) (pa_cons (pe_tup (pa_cons pe_int (pa_cons pe_int pa_nil))) (pa_cons (pe_tup (pa_cons pe_int (pa_cons pe_int pa_nil))) (pa_cons (pe_tup (pa_cons pe_int (pa_cons pe_int pa_nil))) (pa_cons (pe_tup (pa_cons pe_int (pa_cons pe_int pa_nil))) (pa_cons (pe_tup (pa_cons pe_int (pa_cons pe_int pa_nil))) pa_nil))))))))))))
        pss_nil)
        (pss_cons (ps_asg (pe_ix ix_list (pv 2) (pe_fb G__law_dig hr (by decide) (by rfl) (pa_cons (pv 0) (pa_cons (pe_callB call_len_seq (by rfl) T.len PySem.boot_len (pa_cons (pv 2) pa_nil)) pa_nil))) (fun _ _ => rfl)) (pg_tup (by rfl) (pgs_cons (pg_name (i := 3) sc__law_usual.nd rfl (by first | exact .inl rfl | exact .inr rfl)) (pgs_cons (pg_name (i := 4) sc__law_usual.nd rfl (by first | exact .inl rfl | exact .inr rfl)) pgs_nil))))
        (pss_one (ps_ret (pe_tup (pa_cons (pv 3) (pa_cons (pv 4) (pa_cons (pe_cmpR op_eq (pe_fb G__law_dig hr (by decide) (by rfl) (pa_cons (pv 0) (pa_cons pe_int pa_nil))) pe_int (nomark _)) pa_nil))))))))), ?_⟩
    refine sq_ (set_ (lst_prs usO (by decide) fun ts l HA sA nl hl hts => ?_))
    simp only [L2.start, List.map_cons, List.map_nil, List.length_cons, List.length_nil, Nat.reduceAdd, Nat.reduceSub, List.replicate_succ, List.replicate_zero, List.cons_append, List.nil_append, List.set_cons_zero, List.set_cons_succ]
    have hlp : l ≠ p := PurlAt.ne_new hp nl
    refine sq_ (st_of (fun σ' H' => ∃ l ts, σ' = [some (.ref p), some (.bl b), some (.ref l), none, none] ∧ PurlAt H' p ∧ Off p H H' ∧ l ≠ p ∧ H' l = some (.lst (ts.map V.ref)) ∧ PrsAt H' ts (usL b)) (fun D' k => ?_) ?_)
    · refine if_ ⟨_, rfl, b, rfl, ?_⟩
      cases b with
      | false => exact iteF (k _ _ ⟨l, ts, rfl, PurlAt.same hp sA, Same.off sA, hlp, hl, hts⟩)
      | true =>
        refine iteT ?_
        refine set_ ⟨_, rfl, ?_⟩
        refine lst_prs usI (by decide) fun us m HB sB nm hm hus => ?_
        refine ⟨l, m, _, _, rfl, rfl, sB _ _ hl, hm, by rw [List.length_map, List.length_map, hts.len, hus.len]; decide, fun r nr => ?_⟩
        have s3 := (sA.trans sB).trans (same_new (o := .lst (ts.map V.ref ++ us.map V.ref)) nr)
        refine k _ _ ⟨r, ts ++ us, rfl, PurlAt.same hp s3, Same.off s3, PurlAt.ne_new (PurlAt.same hp (sA.trans sB)) nr, ?_, ?_⟩
        · rw [upd_same, List.map_append]
        · exact PrsAt.app (hts.imp fun c xs e => same_new nr _ _ (sB _ _ e)) (hus.imp fun c xs e => same_new nr _ _ e)
    rintro _ H3 ⟨l, ts, rfl, hp3, o3, hlp, hl, hts⟩
    have ul := us_len b
    have tl' := hts.len
    first | refine sq_ ?_ | refine pr_seq ?_
    refine ⟨_, rfl, _, rfl, _, rfl, l, _, rfl, .inl (SqL.of hl), p, ts.length, (by rw [List.length_map]; rfl), hp3, by omega, by omega, fun r H4 r0 r1 hp4 o4 => ?_⟩
    obtain ⟨t, x, e1, e2, ht⟩ := hts.get r.toNat (by omega)
    obtain ⟨x1, x2⟩ := us_lt b x (List.mem_of_getElem? e2)
    refine ⟨l, _, r, _, rfl, rfl, SqL.of (o4 l _ hlp hl), at_ref r0 e1, ?_⟩
    refine ⟨t, _, rfl, SqT.of (o4 t _ (PurlAt.ne_tup hp3 ht) ht), rfl, _, _, rfl, _, _, rfl, rfl, ?_⟩
    simp only [L2.start, List.map_cons, List.map_nil, List.length_cons, List.length_nil, Nat.reduceAdd, Nat.reduceSub, List.replicate_succ, List.replicate_zero, List.cons_append, List.nil_append, List.set_cons_zero, List.set_cons_succ]
    refine ⟨_, rfl, _, rfl, _, rfl, p, 5, rfl, hp4, by decide, by decide, fun rd H5 _ _ hp5 o5 => ?_⟩
    refine ⟨rfl, by show 3 ≤ sizeLine; decide, fun t2 nt2 => ?_⟩
    exact q t2 x.1 x.2 (dnN rd) _ x1 x2 (PurlAt.same hp5 (same_new nt2)) (((o3.trans o4).trans o5).trans (Same.off (same_new nt2))) walk_newN
end
end Sq.N4
namespace Sq.N4
open PySem L2 TL
section
variable {P : Program} {w : World} {K : PySem.W.Frag} {mg : Str → Option Value} {base : Heap}
def nvv (n : Nat) : V := .int (n : Int)
theorem erase_perm : ∀ (l : List Nat) (i : Nat), i < l.length → (l.getD i 0 :: l.eraseIdx i).Perm l
  | [], i, h => absurd h (Nat.not_lt_zero _)
  | a :: l, 0, _ => List.Perm.refl _
  | a :: l, i + 1, h => by
    have ih := erase_perm l i (Nat.lt_of_succ_lt_succ h)
    show (l.getD i 0 :: a :: l.eraseIdx i).Perm (a :: l)
    exact (List.Perm.swap _ _ _).trans (ih.cons a)
theorem off_upd {p a : Addr} {H H' : Hp} {o : HO} (h : Off p H H') (ha : H a = none) : Off p H (upd H' a o) := fun b u nb e => by
  rw [upd_ne (fun z => by rw [z, ha] at e; cases e)]
  exact h b u nb e
theorem cut_erase (ls : List Nat) {r : Int} (h0 : 0 ≤ r) (h1 : r < ls.length) : cutV (ls.map nvv) none (some r) ++ cutV (ls.map nvv) (some (r + 1)) none = (ls.eraseIdx r.toNat).map nvv := by
  obtain ⟨k, rfl⟩ : ∃ k : Nat, r = k := ⟨r.toNat, (Int.toNat_of_nonneg h0).symm⟩
  unfold cutV
  rw [show ((k : Int) + 1) = ((k + 1 : Nat) : Int) by omega, HT.sIx_none, HT.sIx_none, HT.sIx_nat, HT.sIx_nat, List.length_map, Nat.min_eq_left (by omega), Nat.min_eq_left (by omega), Int.toNat_natCast, List.eraseIdx_eq_take_drop_succ, List.map_append, List.map_take, List.map_drop]
  rw [List.drop_zero, Nat.sub_zero]
  refine congrArg _ (List.take_of_length_le ?_)
  rw [List.length_drop, List.length_map]
  exact Nat.le_refl _
theorem nat_at (L : List Nat) {r : Int} (h0 : 0 ≤ r) (h : r < L.length) : atI (L.map nvv) r = some (nvv (L.getD r.toNat 0)) := by
  obtain ⟨k, rfl⟩ : ∃ k : Nat, r = k := ⟨r.toNat, (Int.toNat_of_nonneg h0).symm⟩
  have hk : k < L.length := by omega
  refine atI_nat ?_
  rw [List.getElem?_map, List.getElem?_eq_getElem hk, Int.toNat_natCast, List.getD_eq_getElem?_getD, List.getElem?_eq_getElem hk]
  rfl
/-- a drawn guard -/
def GuardV (N : Addr → Prop) (H : Hp) (gv : V) : Option (Nat × Nat × Nat) → Prop
  | none => gv = .non
  | some (a, b, c) => ∃ t, gv = .ref t ∧ N t ∧ H t = some (.tup [.int (a : Int), .int (b : Int), .int (c : Int)])
/-- a drawn deed, all of it where N holds -/
def DeedV (N : Addr → Prop) (H : Hp) (t : Addr) (x : Act3) : Prop := ∃ s gv, N t ∧ N s ∧ H t = some (.tup [.str (wdN x.1), .ref s, gv]) ∧ H s = some (.lst (x.2.1.map nvv)) ∧ GuardV N H gv x.2.2
theorem GuardV.keep {N N' : Addr → Prop} {H H' : Hp} {gv : V} (n : ∀ a, N a → N' a) (e : ∀ b o, N b → H b = some o → H' b = some o) : ∀ {g : Option (Nat × Nat × Nat)}, GuardV N H gv g → GuardV N' H' gv g
  | none, h => h
  | some (a, b, c), ⟨t, h1, h2, h3⟩ => ⟨t, h1, n _ h2, e _ _ h2 h3⟩
theorem DeedV.keep {N N' : Addr → Prop} {H H' : Hp} {t : Addr} {x : Act3} (n : ∀ a, N a → N' a) (e : ∀ b o, N b → H b = some o → H' b = some o) (h : DeedV N H t x) : DeedV N' H' t x := by
  obtain ⟨s, gv, n1, n2, h1, h2, h3⟩ := h
  exact ⟨s, gv, n _ n1, n _ n2, e _ _ n1 h1, e _ _ n2 h2, h3.keep n e⟩
def DeedsV (N : Addr → Prop) (H : Hp) : List Addr → List Act3 → Prop
  | [], [] => True
  | t :: ts, x :: L => DeedV N H t x ∧ DeedsV N H ts L
  | _, _ => False
theorem DeedsV.keep {N N' : Addr → Prop} {H H' : Hp} (n : ∀ a, N a → N' a) (e : ∀ b o, N b → H b = some o → H' b = some o) : ∀ {ts : List Addr} {L : List Act3}, DeedsV N H ts L → DeedsV N' H' ts L
  | [], [], _ => True.intro
  | _ :: _, _ :: _, h => ⟨h.1.keep n e, DeedsV.keep n e h.2⟩
  | [], _ :: _, h => h.elim
  | _ :: _, [], h => h.elim
theorem DeedsV.len {N : Addr → Prop} {H : Hp} : ∀ {ts : List Addr} {L : List Act3}, DeedsV N H ts L → ts.length = L.length
  | [], [], _ => rfl
  | _ :: _, _ :: _, h => congrArg (· + 1) h.2.len
  | [], _ :: _, h => h.elim
  | _ :: _, [], h => h.elim
theorem DeedsV.get {N : Addr → Prop} {H : Hp} : ∀ {ts : List Addr} {L : List Act3}, DeedsV N H ts L → ∀ (i : Nat) (t : Addr), ts[i]? = some t → ∃ x, L[i]? = some x ∧ DeedV N H t x
  | [], [], _, i, t, h => by cases h
  | _ :: _, x :: _, h, 0, t, e => by cases e; exact ⟨x, rfl, h.1⟩
  | _ :: _, _ :: _, h, i + 1, t, e => h.2.get i t e
  | [], _ :: _, h, _, _, _ => h.elim
  | _ :: _, [], h, _, _, _ => h.elim
theorem DeedsV.snoc {N : Addr → Prop} {H : Hp} {t : Addr} {x : Act3} (k : DeedV N H t x) : ∀ {ts : List Addr} {L : List Act3}, DeedsV N H ts L → DeedsV N H (ts ++ [t]) (L ++ [x])
  | [], [], _ => ⟨k, True.intro⟩
  | _ :: _, _ :: _, h => ⟨h.1, h.2.snoc k⟩
  | [], _ :: _, h => h.elim
  | _ :: _, [], h => h.elim
/-- a drawn nest -/
def PartV (N : Addr → Prop) (H : Hp) (t : Addr) (q : Part) : Prop := ∃ o u l ds, N t ∧ N o ∧ N u ∧ N l ∧ H t = some (.tup [.ref o, .ref u, .ref l]) ∧ WalkV H o q.o ∧ WalkV H u q.u ∧ H l = some (.lst (ds.map V.ref)) ∧ DeedsV N H ds q.acts
theorem PartV.keep {N N' : Addr → Prop} {H H' : Hp} {t : Addr} {q : Part} (n : ∀ a, N a → N' a) (e : ∀ b o, N b → H b = some o → H' b = some o) (h : PartV N H t q) : PartV N' H' t q := by
  obtain ⟨o, u, l, ds, n1, n2, n3, n4, h1, h2, h3, h4, h5⟩ := h
  exact ⟨o, u, l, ds, n _ n1, n _ n2, n _ n3, n _ n4, e _ _ n1 h1, e _ _ n2 h2, e _ _ n3 h3, e _ _ n4 h4, h5.keep n e⟩
def PartsV (N : Addr → Prop) (H : Hp) : List Addr → List Part → Prop
  | [], [] => True
  | t :: ts, x :: L => PartV N H t x ∧ PartsV N H ts L
  | _, _ => False
theorem PartsV.keep {N N' : Addr → Prop} {H H' : Hp} (n : ∀ a, N a → N' a) (e : ∀ b o, N b → H b = some o → H' b = some o) : ∀ {ts : List Addr} {L : List Part}, PartsV N H ts L → PartsV N' H' ts L
  | [], [], _ => True.intro
  | _ :: _, _ :: _, h => ⟨h.1.keep n e, PartsV.keep n e h.2⟩
  | [], _ :: _, h => h.elim
  | _ :: _, [], h => h.elim
theorem PartsV.len {N : Addr → Prop} {H : Hp} : ∀ {ts : List Addr} {L : List Part}, PartsV N H ts L → ts.length = L.length
  | [], [], _ => rfl
  | _ :: _, _ :: _, h => congrArg (· + 1) h.2.len
  | [], _ :: _, h => h.elim
  | _ :: _, [], h => h.elim
theorem PartsV.get {N : Addr → Prop} {H : Hp} : ∀ {ts : List Addr} {L : List Part}, PartsV N H ts L → ∀ (i : Nat) (t : Addr), ts[i]? = some t → ∃ x, L[i]? = some x ∧ PartV N H t x
  | [], [], _, i, t, h => by cases h
  | _ :: _, x :: _, h, 0, t, e => by cases e; exact ⟨x, rfl, h.1⟩
  | _ :: _, _ :: _, h, i + 1, t, e => h.2.get i t e
  | [], _ :: _, h, _, _, _ => h.elim
  | _ :: _, [], h, _, _, _ => h.elim
theorem PartsV.snoc {N : Addr → Prop} {H : Hp} {t : Addr} {x : Part} (k : PartV N H t x) : ∀ {ts : List Addr} {L : List Part}, PartsV N H ts L → PartsV N H (ts ++ [t]) (L ++ [x])
  | [], [], _ => ⟨k, True.intro⟩
  | _ :: _, _ :: _, h => ⟨h.1, h.2.snoc k⟩
  | [], _ :: _, h => h.elim
  | _ :: _, [], h => h.elim
/-- a drawn plan -/
def PlanV (H : Hp) (a : Addr) (qs : List Part) : Prop := ∃ ts, H a = some (.lst (ts.map V.ref)) ∧ PartsV (fun _ => True) H ts qs
theorem PlanV.ext {H H' : Hp} {a : Addr} {qs : List Part} (s : Same H H') (h : PlanV H a qs) : PlanV H' a qs := by
  obtain ⟨ts, h1, h2⟩ := h
  exact ⟨ts, s _ _ h1, h2.keep (fun _ h => h) fun b o _ e => s b o e⟩
def w6 (r : Int) : Nat := [0, 1, 2, 3, 2, 3].getD r.toNat 0
theorem w6_at : ∀ r : _root_.Fin 6, (["swap", "copy", "order", "turn", "order", "turn"] : List Str)[r.val]? = some (wdN (w6 (r.val : Int))) ∧ w6 (r.val : Int) < 4 := by decide +kernel
theorem wd_turn : ∀ k : _root_.Fin 4, (wdN k.val = "turn") ↔ k.val = 3 := by decide +kernel
def spDeed : Sp := fun vs H Q _ => ∃ p : Addr, vs = [.ref p] ∧ PurlAt H p ∧ ∀ (t : Addr) (x : Act3) (H' : Hp), PurlAt H' p → Off p H H' → DeedV (fun a => H a = none) H' t x → ActOk x.1 x.2.1 x.2.2 → Q (.ref t) H'
def spLoops : Sp := fun vs H Q _ => ∃ p : Addr, vs = [.ref p, .int 4] ∧ PurlAt H p ∧ ∀ (a : Addr) (qs : List Part) (H' : Hp), PurlAt H' p → Off p H H' → (a ≠ p ∧ PlanV H' a qs ∧ ∀ H'', Off p H' H'' → PlanV H'' a qs) → qs.length ≤ 4 → (∀ q ∈ qs, PartOk q ∧ q.acts.length ≤ 1) → Q (.ref a) H'
abbrev s__law_deed : Stmt := top 59
theorem sc__law_deed : FnScope ["_law_purl_here", "_law_word", "_law_many", "_law_left", "_law_spots_here", "_law_k", "_law_at", "_law_guard", "_law_one", "_law_other"] ["_law_purl_here"] (defScope s__law_deed) := ⟨rfl, rfl, rfl, by decide +kernel, rfl, by decide +kernel, by decide +kernel⟩
theorem ok__law_deed {f : Addr} {fd : FuncData} (F : Fun K "_law_deed" "_law_deed" s__law_deed f fd) (T : Bt mg) (G__law_dig : FB P w K mg base "_law_dig" 1 ["_law_purl_here", "_law_many"] spDig) : FnOk P w K mg base CX0 2 f fd ["_law_purl_here"] spDeed := by
  refine F.ok sc__law_deed (fun vs H Q E h => ?_) (fun cdv A outer s H vs Q E hr h => ?_)
  · obtain ⟨p, rfl, _⟩ := h
    rfl
  · obtain ⟨p, rfl, hp, q⟩ := h
    refine ⟨_, (pss_cons (ps_set (i := 1) sc__law_deed.nd rfl (by first | exact .inl rfl | exact .inr rfl) (pe_ix ix_list (pe_lst (pa_cons pe_str (pa_cons pe_str (pa_cons pe_str (pa_cons pe_str (pa_cons pe_str (pa_cons pe_str pa_nil))))))) (pe_fb G__law_dig hr (by decide) (by rfl) (pa_cons (pv 0) (pa_cons pe_int pa_nil))) (fun _ _ => rfl)))
        (pss_cons (ps_set (i := 2) sc__law_deed.nd rfl (by first | exact .inl rfl | exact .inr rfl) (pe_ifExp (pt_cmpR op_eq (pv 1) pe_str (nomark _)) (pe_op op_add pe_int (pe_fb G__law_dig hr (by decide) (by rfl) (pa_cons (pv 0) (pa_cons pe_int pa_nil)))) pe_int))
        (pss_cons (ps_par (i := 3) (j := 4) (by rfl) sc__law_deed.nd rfl rfl (by decide) rfl rfl (pa_cons (pe_lst (pa_cons pe_int (pa_cons pe_int (pa_cons pe_int (pa_cons pe_int (pa_cons pe_int (pa_cons pe_int (pa_cons pe_int (pa_cons pe_int pa_nil))))))))) (pa_cons (pe_lst pa_nil) pa_nil)) (by rfl))
        (pss_cons (ps_for PassesOwn.never rfl (pi_range1 (by rfl) T.range (pa_cons (pv 2) pa_nil)) (pg_name (i := 5) sc__law_deed.nd rfl (by first | exact .inl rfl | exact .inr rfl))
        (pss_cons (ps_set (i := 6) sc__law_deed.nd rfl (by first | exact .inl rfl | exact .inr rfl) (pe_fb G__law_dig hr (by decide) (by rfl) (pa_cons (pv 0) (pa_cons (pe_op op_sub pe_int (pv 5)) pa_nil))))
        (pss_cons (ps_expr (pe_bm PySem.F.plainAttrs_list PySem.F.slot_list_append PySem.F.type_list_append mt_append (pv 4) (pa_cons (pe_ix ix_list (pv 3) (pv 6) (fun _ _ => rfl)) pa_nil)))
        (pss_one (ps_set (i := 3) sc__law_deed.nd rfl (by first | exact .inl rfl | exact .inr rfl) (pe_op op_cat (pe_slice sl_list (pv 3) po_none (po_some (pv 6))) (pe_slice sl_list (pv 3) (po_some (pe_op op_add (pv 6) pe_int)) po_none)))))))
        (pss_cons (ps_set (i := 7) sc__law_deed.nd rfl (by first | exact .inl rfl | exact .inr rfl) pe_non)
        (pss_cons (ps_if (pt_cmpR op_eq (pe_fb G__law_dig hr (by decide) (by rfl) (pa_cons (pv 0) (pa_cons pe_int pa_nil))) pe_int (nomark _))
        (pss_cons (ps_par (i := 8) (j := 9) (by rfl) sc__law_deed.nd rfl rfl (by decide) rfl rfl (pa_cons (pe_fb G__law_dig hr (by decide) (by rfl) (pa_cons (pv 0) (pa_cons pe_int pa_nil))) (pa_cons (pe_fb G__law_dig hr (by decide) (by rfl) (pa_cons (pv 0) (pa_cons pe_int pa_nil))) pa_nil)) (by rfl))
        (pss_one (ps_set (i := 7) sc__law_deed.nd rfl (by first | exact .inl rfl | exact .inr rfl) (pe_tup (pa_cons (pv 8) (pa_cons (pe_fb G__law_dig hr (by decide) (by rfl) (pa_cons (pv 0) (pa_cons pe_int pa_nil))) (pa_cons (pe_ifExp (pt_cmpR op_lt (pv 9) (pv 8) (nomark _)) (pv 9) (pe_op op_add (pv 9) pe_int)) pa_nil)))))))
        pss_nil)
        (pss_one (ps_ret (pe_tup (pa_cons (pv 1) (pa_cons (pv 4) (pa_cons (pv 7) pa_nil)))))))))))), ?_⟩
    refine ⟨by show 6 ≤ sizeLine; decide, fun wl nwl => ?_⟩
    have s1 := same_new (o := .lst [V.str "swap", .str "copy", .str "order", .str "turn", .str "order", .str "turn"]) nwl
    have hwp : wl ≠ p := PurlAt.ne_new hp nwl
    refine ⟨_, rfl, p, 6, rfl, hp.same s1, by decide, by decide, fun rw0 H1 rw1 rw2 hp1 o1 => ?_⟩
    obtain ⟨k6, rfl⟩ : ∃ k : Nat, rw0 = k := ⟨rw0.toNat, (Int.toNat_of_nonneg rw1).symm⟩
    obtain ⟨ew, w4⟩ := w6_at ⟨k6, by omega⟩
    have ew2 : atI [V.str "swap", .str "copy", .str "order", .str "turn", .str "order", .str "turn"] (k6 : Int) = some (.str (wdN (w6 (k6 : Int)))) := by
      refine atI_nat ?_
      show ((["swap", "copy", "order", "turn", "order", "turn"] : List Str).map V.str)[k6]? = _
      rw [List.getElem?_map, ew]
      rfl
    refine ⟨wl, _, _, _, rfl, rfl, SqL.of (o1 _ _ hwp upd_same), ew2, ?_⟩
    have w4 : w6 (k6 : Int) < 4 := w4
    generalize w6 (k6 : Int) = wn at *
    have o01 : Off p H H1 := (Same.off s1).trans o1
    simp only [L2.start, List.map_cons, List.map_nil, List.length_cons, List.length_nil, Nat.reduceAdd, Nat.reduceSub, List.replicate_succ, List.replicate_zero, List.cons_append, List.nil_append, List.set_cons_zero, List.set_cons_succ]
    refine sq_ (set_ (gen_of (fun v H' => ∃ mm : Nat, v = .int (mm : Int) ∧ (wn < 3 → mm = 2) ∧ (wn = 3 → 3 ≤ mm ∧ mm ≤ 8) ∧ PurlAt H' p ∧ Off p H H') (fun Q' k => ?_) ?_))
    · refine ⟨_, rfl, rfl, _, rfl, ?_⟩
      refine ite2 (fun e3 => ?_) (fun e3 => ?_)
      · have w3 : wn = 3 := (wd_turn ⟨wn, w4⟩).mp (V.str.inj (of_decide_eq_true e3))
        refine ⟨_, rfl, p, 6, rfl, hp1, by decide, by decide, fun r H2 r0 r1 hp2 o2 => ?_⟩
        refine ⟨_, _, rfl, rfl, ?_⟩
        exact k _ _ ⟨3 + r.toNat, congrArg V.int (by omega), fun e => by omega, fun _ => by omega, hp2, o01.trans o2⟩
      · refine k _ _ ⟨2, rfl, fun _ => rfl, fun e => ?_, hp1, o01⟩
        exact absurd (decide_eq_true (congrArg V.str ((wd_turn ⟨wn, w4⟩).mpr e))) e3
    rintro _ H2 ⟨mm, rfl, m2, m3, hp2, o2⟩
    simp only [L2.start, List.map_cons, List.map_nil, List.length_cons, List.length_nil, Nat.reduceAdd, Nat.reduceSub, List.replicate_succ, List.replicate_zero, List.cons_append, List.nil_append, List.set_cons_zero, List.set_cons_succ]
    refine ⟨by show 8 ≤ sizeLine; decide, fun l nl => ?_⟩
    refine ⟨Nat.zero_le _, fun sp nsp => ⟨_, _, rfl, ?_⟩⟩
    have mle : mm ≤ 8 := by
      rcases (show wn < 3 ∨ wn = 3 by omega) with e | e
      · have := m2 e; omega
      · exact (m3 e).2
    have x1 := same_new (o := .lst [V.int 0, .int 1, .int 2, .int 3, .int 4, .int 5, .int 6, .int 7]) nl
    have x2 := same_new (o := .lst []) nsp
    have hpB := (hp2.same x1).same x2
    have hlp := PurlAt.ne_new hp2 nl
    have hsp := PurlAt.ne_new (hp2.same x1) nsp
    have nslH : H sp = none := off_none (o2.trans (Same.off x1)) hsp nsp
    simp only [L2.start, List.map_cons, List.map_nil, List.length_cons, List.length_nil, Nat.reduceAdd, Nat.reduceSub, List.replicate_succ, List.replicate_zero, List.cons_append, List.nil_append, List.set_cons_zero, List.set_cons_succ]
    refine ⟨_, rfl, mm, rfl, by omega, by omega, ?_⟩
    refine for_range (n := mm) (fun i σ H' => ∃ (l : Addr) (ls qs : List Nat) (v5 v6 : Option V), σ = [some (.ref p), some (.str (wdN wn)), some (.int (mm : Int)), some (.ref l), some (.ref sp), v5, v6, none, none, none] ∧ PurlAt H' p ∧ Off p H H' ∧ l ≠ p ∧ l ≠ sp ∧ H' l = some (.lst (ls.map nvv)) ∧ H' sp = some (.lst (qs.map nvv)) ∧ (qs ++ ls).Perm (List.range 8) ∧ qs.length = i)
      ⟨l, List.range 8, [], none, none, rfl, hpB, (o2.trans (Same.off x1)).trans (Same.off x2), hlp, (fun e => by rw [← e, upd_same] at nsp; cases nsp), x2 _ _ upd_same, upd_same, List.Perm.refl _, rfl⟩ (fun i σ H' hi h => ?_) (fun σ H' h => ?_)
    · obtain ⟨l, ls, qs, v5, v6, rfl, hp', o', hlp, hls, hl, hq, pm, ql⟩ := h
      have lens := pm.length_eq
      rw [List.length_append, List.length_range] at lens
      have bigL : 1000 ≤ sizeLine := by decide
      refine ⟨_, rfl, _, rfl, _, _, rfl, rfl, p, _, rfl, hp', (by omega), (by omega), fun r H3 r0 r1 hp3 o3 => ?_⟩
      have hl3 := o3 l _ hlp hl
      have hq3 := o3 sp _ hsp hq
      have rl : r < ls.length := by omega
      refine ⟨_, rfl, .inl ⟨rfl, _, SqL.of hq3⟩, _, rfl, _, rfl, l, _, r, _, rfl, rfl, SqL.of hl3, nat_at ls r0 rl, ?_⟩
      refine ⟨sp, _, _, rfl, rfl, hq3, by rw [List.length_map]; omega, ?_⟩
      have hl4 : (upd H3 sp (.lst (qs.map nvv ++ [nvv (ls.getD r.toNat 0)]))) l = some (.lst (ls.map nvv)) := by rw [upd_ne hls]; exact hl3
      refine ⟨_, rfl, _, rfl, _, rfl, l, _, rfl, SqL.of hl4, fun a1 n1 => ?_⟩
      refine ⟨_, rfl, _, rfl, _, _, rfl, rfl, _, rfl, l, _, rfl, SqL.of (same_new n1 _ _ hl4), fun a2 n2 => ?_⟩
      refine ⟨a1, a2, _, _, rfl, rfl, same_new n2 _ _ upd_same, upd_same, ?_, fun a3 n3 => ?_⟩
      · have h1 := cutV_length (ls.map nvv) none (some r)
        have h2 := cutV_length (ls.map nvv) (some (r + 1)) none
        rw [List.length_map] at h1 h2
        omega
      rw [cut_erase ls r0 rl] at *
      have y := ((same_new (o := .lst (cutV (ls.map nvv) none (some r))) n1).trans (same_new (o := .lst (cutV (ls.map nvv) (some (r + 1)) none)) n2)).trans (same_new (o := .lst ((ls.eraseIdx r.toNat).map nvv)) n3)
      have hsp4 : (upd H3 sp (.lst (qs.map nvv ++ [nvv (ls.getD r.toNat 0)]))) sp = some (.lst ((qs ++ [ls.getD r.toNat 0]).map nvv)) := by rw [upd_same, List.map_append]; rfl
      have hp4 : PurlAt (upd H3 sp (.lst (qs.map nvv ++ [nvv (ls.getD r.toNat 0)]))) p := by
        obtain ⟨m, d, e⟩ := hp3
        exact ⟨m, d, by rw [upd_ne hsp.symm]; exact e⟩
      have hp5 := (hp4.same (same_new (o := .lst (cutV (ls.map nvv) none (some r))) n1)).same (same_new (o := .lst (cutV (ls.map nvv) (some (r + 1)) none)) n2)
      refine ⟨a3, ls.eraseIdx r.toNat, qs ++ [ls.getD r.toNat 0], _, _, rfl, hp4.same y, (off_upd (o'.trans o3) nslH).trans (Same.off y), PurlAt.ne_new hp5 n3, fun e => ?_, upd_same, y _ _ hsp4, ?_, ?_⟩
      · have z := (same_new (o := .lst (cutV (ls.map nvv) (some (r + 1)) none)) n2) _ _ ((same_new (o := .lst (cutV (ls.map nvv) none (some r))) n1) _ _ hsp4)
        rw [e, z] at n3
        cases n3
      · rw [List.append_assoc]
        exact ((erase_perm ls r.toNat (by omega)).append_left qs).trans pm
      · rw [List.length_append, ql]
        rfl
    obtain ⟨l, ls, qs, v5, v6, rfl, hp', o', hlp, hls, hl, hq, pm, ql⟩ := h
    have nd : qs.Nodup := (List.nodup_append.mp (pm.nodup_iff.mpr List.nodup_range)).1
    have lt8 : ∀ x ∈ qs, x < 8 := fun x hx => List.mem_range.mp (pm.mem_iff.mp (List.mem_append_left _ hx))
    have okN : ∀ g, (∀ a b c, g = some (a, b, c) → a < 4 ∧ b < 4 ∧ c < 4 ∧ a ≠ c) → ActOk wn qs g := fun g hg => ⟨w4, fun e => by rw [ql]; exact m2 e, fun e => by rw [ql]; exact m3 e, nd, lt8, hg⟩
    simp only [L2.start, List.map_cons, List.map_nil, List.length_cons, List.length_nil, Nat.reduceAdd, Nat.reduceSub, List.replicate_succ, List.replicate_zero, List.cons_append, List.nil_append, List.set_cons_zero, List.set_cons_succ]
    refine sq_ (set_ (val_of V.non (fun Q' k => k) ?_))
    simp only [L2.start, List.map_cons, List.map_nil, List.length_cons, List.length_nil, Nat.reduceAdd, Nat.reduceSub, List.replicate_succ, List.replicate_zero, List.cons_append, List.nil_append, List.set_cons_zero, List.set_cons_succ]
    refine sq_ (st_of (fun σ' H' => ∃ (gv : V) (g : Option (Nat × Nat × Nat)) (v8 v9 : Option V), σ' = [some (.ref p), some (.str (wdN wn)), some (.int (mm : Int)), some (.ref l), some (.ref sp), v5, v6, some gv, v8, v9] ∧ PurlAt H' p ∧ Off p H H' ∧ H' sp = some (.lst (qs.map nvv)) ∧ GuardV (fun a => H a = none) H' gv g ∧ ∀ a b c, g = some (a, b, c) → a < 4 ∧ b < 4 ∧ c < 4 ∧ a ≠ c) (fun D' k => ?_) ?_)
    · refine ⟨_, rfl, p, 3, rfl, hp', by decide, by decide, fun r3 H5 _ _ hp5 o5 => ?_⟩
      have hq5 := o5 sp _ hsp hq
      refine ⟨rfl, _, rfl, ?_⟩
      refine ite2 (fun _ => ?_) (fun _ => ?_)
      · refine ⟨_, rfl, p, 4, rfl, hp5, by decide, by decide, fun ga H6 a0 a1 hp6 o6 => ?_⟩
        refine ⟨_, rfl, p, 3, rfl, hp6, by decide, by decide, fun gc H7 c0 c1 hp7 o7 => ⟨_, _, rfl, ?_⟩⟩
        simp only [L2.start, List.map_cons, List.map_nil, List.length_cons, List.length_nil, Nat.reduceAdd, Nat.reduceSub, List.replicate_succ, List.replicate_zero, List.cons_append, List.nil_append, List.set_cons_zero, List.set_cons_succ]
        refine ⟨_, rfl, _, rfl, p, 4, rfl, hp7, by decide, by decide, fun gb H8 b0 b1 hp8 o8 => ?_⟩
        have hq8 := o8 sp _ hsp (o7 sp _ hsp (o6 sp _ hsp hq5))
        have oo := (((o'.trans o5).trans o6).trans o7).trans o8
        have fin : ∀ (z : Int) (t : Addr), 0 ≤ z → z < 4 → z ≠ ga → H8 t = none → D'.nx [some (.ref p), some (.str (wdN wn)), some (.int (mm : Int)), some (.ref l), some (.ref sp), v5, v6, some (.ref t), some (.int ga), some (.int gc)] (upd H8 t (.tup [.int ga, .int gb, .int z])) := fun z t z0 z4 zn nt =>
          k _ _ ⟨.ref t, some (ga.toNat, gb.toNat, z.toNat), _, _, rfl, hp8.same (same_new nt), oo.trans (Same.off (same_new nt)), same_new nt _ _ hq8, ⟨t, rfl, off_none oo (PurlAt.ne_new hp8 nt) nt, by rw [upd_same, Int.toNat_of_nonneg a0, Int.toNat_of_nonneg b0, Int.toNat_of_nonneg z0]⟩, fun a b c e => by
            cases e
            omega⟩
        refine ⟨_, rfl, _, rfl, _, _, rfl, rfl, _, rfl, ?_⟩
        refine ite2 (fun hc => ?_) (fun hc => ?_)
        · have hc : gc < ga := of_decide_eq_true hc
          exact ⟨_, rfl, by show 3 ≤ sizeLine; decide, fun t nt => fin gc t c0 (by omega) (by omega) nt⟩
        · have hc : ¬ gc < ga := fun z => hc (decide_eq_true z)
          exact ⟨_, rfl, _, _, rfl, rfl, by show 3 ≤ sizeLine; decide, fun t nt => fin (gc + 1) t (by omega) (by omega) (by omega) nt⟩
      · exact k _ _ ⟨.non, none, none, none, rfl, hp5, o'.trans o5, hq5, rfl, fun a b c e => by cases e⟩
    rintro _ H9 ⟨gv, g, v8, v9, rfl, hp9, o9, hq9, hg, gok⟩
    refine ⟨_, rfl, _, rfl, _, rfl, by show 3 ≤ sizeLine; decide, fun t nt => ?_⟩
    refine q t (wn, qs, g) _ (hp9.same (same_new nt)) (o9.trans (Same.off (same_new nt))) ⟨sp, gv, off_none o9 (PurlAt.ne_new hp9 nt) nt, nslH, upd_same, same_new nt _ _ hq9, hg.keep (fun _ h => h) fun b o _ e => same_new nt b o e⟩ (okN g gok)
abbrev s__law_loops : Stmt := top 60
theorem sc__law_loops : FnScope ["_law_purl_here", "_law_most", "_law_found", "_law_k", "_law_outer", "_law_inner", "_law_turn"] ["_law_purl_here", "_law_most"] (defScope s__law_loops) := ⟨rfl, rfl, rfl, by decide +kernel, rfl, by decide +kernel, by decide +kernel⟩
theorem ok__law_loops {f : Addr} {fd : FuncData} (F : Fun K "_law_loops" "_law_loops" s__law_loops f fd) (T : Bt mg) (G__law_dig : FB P w K mg base "_law_dig" 1 ["_law_purl_here", "_law_many"] spDig) (G__law_loop : FB P w K mg base "_law_loop" 2 ["_law_purl_here", "_law_inner"] spLoop) (G__law_usual : FB P w K mg base "_law_usual" 2 ["_law_purl_here", "_law_inner"] spLoop) (G__law_deed : FB P w K mg base "_law_deed" 2 ["_law_purl_here"] spDeed) : FnOk P w K mg base CX0 3 f fd ["_law_purl_here", "_law_most"] spLoops := by
  refine F.ok sc__law_loops (fun vs H Q E h => ?_) (fun cdv A outer s H vs Q E hr h => ?_)
  · obtain ⟨p, rfl, _⟩ := h
    rfl
  · obtain ⟨p, rfl, hp, q⟩ := h
    refine ⟨_, (pss_cons (ps_set (i := 2) sc__law_loops.nd rfl (by first | exact .inl rfl | exact .inr rfl) (pe_lst pa_nil))
        (pss_cons (ps_for PassesOwn.never rfl (pi_range1 (by rfl) T.range (pa_cons (pe_fb G__law_dig hr (by decide) (by rfl) (pa_cons (pv 0) (pa_cons (pe_op op_add (pv 1) pe_int) pa_nil))) pa_nil)) (pg_name (i := 3) sc__law_loops.nd rfl (by first | exact .inl rfl | exact .inr rfl))
        (pss_cons (ps_par (i := 4) (j := 5) (by rfl) sc__law_loops.nd rfl rfl (by decide) rfl rfl (pa_cons (pe_fb G__law_loop hr (by decide) (by rfl) (pa_cons (pv 0) (pa_cons pe_bl pa_nil))) (pa_cons (pe_fb G__law_loop hr (by decide) (by rfl) (pa_cons (pv 0) (pa_cons pe_bl pa_nil))) pa_nil)) (by rfl))
        (pss_cons (ps_if (pt_cmpR op_eq (pe_fb G__law_dig hr (by decide) (by rfl) (pa_cons (pv 0) (pa_cons pe_int pa_nil))) pe_int (nomark _))
        (pss_one (ps_par (i := 4) (j := 5) (by rfl) sc__law_loops.nd rfl rfl (by decide) rfl rfl (pa_cons (pe_fb G__law_usual hr (by decide) (by rfl) (pa_cons (pv 0) (pa_cons pe_bl pa_nil))) (pa_cons (pe_fb G__law_usual hr (by decide) (by rfl) (pa_cons (pv 0) (pa_cons pe_bl pa_nil))) pa_nil)) (by rfl)))
        pss_nil)
        (pss_one (ps_expr (pe_bm PySem.F.plainAttrs_list PySem.F.slot_list_append PySem.F.type_list_append mt_append (pv 2) (pa_cons (pe_tup (pa_cons (pv 4) (pa_cons (pv 5) (pa_cons (pe_lc (own := [("_law_turn", 6)]) (g := gName 6) (by rfl) sc__law_loops.nd (pi_range1 (by rfl) T.range (pa_cons (pe_fb G__law_dig hr (by decide) (by rfl) (pa_cons (pv 0) (pa_cons pe_int pa_nil))) pa_nil)) (blkOk_by (own := [("_law_turn", 6)]) (N := ["_law_purl_here", "_law_most", "_law_found", "_law_k", "_law_outer", "_law_inner", "_law_turn"]) (sc := defScope s__law_loops) (by decide +kernel))
            (fun _ _ _ _ _ => (pg_name (i := 6) sc__law_loops.nd rfl (by first | exact .inl rfl | exact .inr rfl))) (fun _ _ _ _ _ => pts_nil) (fun _ _ _ _ _ => (pe_fb G__law_deed hr (by decide) (by rfl) (pa_cons (pv 0) pa_nil)))) pa_nil)))) pa_nil)))))))
        (pss_one (ps_ret (pv 2))))), ?_⟩
    have bigL : 1000 ≤ sizeLine := by decide
    refine ⟨Nat.zero_le _, fun F nF => ?_⟩
    have hFp := PurlAt.ne_new hp nF
    simp only [L2.start, List.map_cons, List.map_nil, List.length_cons, List.length_nil, Nat.reduceAdd, Nat.reduceSub, List.replicate_succ, List.replicate_zero, List.cons_append, List.nil_append, List.set_cons_zero, List.set_cons_succ]
    refine ⟨_, rfl, _, rfl, _, _, rfl, rfl, p, 5, rfl, hp.same (same_new nF), by decide, by decide, fun r H1 r0 r1 hp1 o1 => ?_⟩
    refine ⟨r, rfl, by omega, by omega, ?_⟩
    have o01 : Off p H H1 := (Same.off (same_new nF)).trans o1
    refine for_range (n := r.toNat) (fun i σ H' => ∃ (ts : List Addr) (qs : List Part) (v3 v4 v5 : Option V), σ = [some (.ref p), some (.int 4), some (.ref F), v3, v4, v5, none] ∧ PurlAt H' p ∧ Off p H H' ∧ H' F = some (.lst (ts.map V.ref)) ∧ PartsV (fun a => a ≠ p ∧ a ≠ F) H' ts qs ∧ qs.length = i ∧ ∀ q ∈ qs, PartOk q ∧ q.acts.length ≤ 1)
      ⟨[], [], none, none, none, rfl, hp1, o01, o1 _ _ hFp upd_same, True.intro, rfl, (fun q h => by cases h)⟩ (fun i σ H' hi h => ?_) (fun σ H' h => ?_)
    · obtain ⟨ts, qs, v3, v4, v5, rfl, hp', o', hF, hts, hqs, hok⟩ := h
      have keep : ∀ {H H' : Hp}, Off p H H' → ∀ {b : Addr} {o : HO}, (b ≠ p ∧ b ≠ F) → H b = some o → H' b = some o := fun o b x n e => o b x n.1 e
      refine ⟨_, rfl, p, false, rfl, hp', fun t1 x1 y1 d1 H2 hx1 hy1 hp2 o2 h1 => ?_⟩
      refine ⟨_, rfl, p, true, rfl, hp2, fun t2 x2 y2 d2 H3 hx2 hy2 hp3 o3 h2 => ⟨_, _, rfl, ?_⟩⟩
      have h1' : WalkV H3 t1 (x1, y1, d1) := o3 _ _ (PurlAt.ne_tup hp2 h1) h1
      simp only [L2.start, List.map_cons, List.map_nil, List.length_cons, List.length_nil, Nat.reduceAdd, Nat.reduceSub, List.replicate_succ, List.replicate_zero, List.cons_append, List.nil_append, List.set_cons_zero, List.set_cons_succ]
      refine sq_ (st_of (fun σ' H' => ∃ (t1 t2 : Addr) (w1 w2 : Nat × Nat × Nat) (v3 : Option V), σ' = [some (.ref p), some (.int 4), some (.ref F), v3, some (.ref t1), some (.ref t2), none] ∧ PurlAt H' p ∧ Off p H3 H' ∧ WalkV H' t1 w1 ∧ WalkV H' t2 w2 ∧ w1.1 < 12 ∧ w1.2.1 < 12 ∧ w2.1 < 18 ∧ w2.2.1 < 18) (fun D' k => ?_) ?_)
      · refine ⟨_, rfl, p, 3, rfl, hp3, by decide, by decide, fun r3 H5 _ _ hp5 o5 => ?_⟩
        refine ⟨rfl, _, rfl, ?_⟩
        refine ite2 (fun _ => ?_) (fun _ => ?_)
        · refine ⟨_, rfl, p, false, rfl, hp5, fun t3 x3 y3 d3 H6 hx3 hy3 hp6 o6 h3 => ?_⟩
          refine ⟨_, rfl, p, true, rfl, hp6, fun t4 x4 y4 d4 H7 hx4 hy4 hp7 o7 h4 => ⟨_, _, rfl, ?_⟩⟩
          exact k _ _ ⟨t3, t4, _, _, _, rfl, hp7, (o5.trans o6).trans o7, o7 _ _ (PurlAt.ne_tup hp6 h3) h3, h4, hx3, hy3, hx4, hy4⟩
        · exact k _ _ ⟨t1, t2, _, _, _, rfl, hp5, o5, o5 _ _ (PurlAt.ne_tup hp3 h1') h1', o5 _ _ (PurlAt.ne_tup hp3 h2) h2, hx1, hy1, hx2, hy2⟩
      rintro _ H4 ⟨t1, t2, w1, w2, v3, rfl, hp4, o4, h1, h2, a1, a2, a3, a4⟩
      have oA : Off p H' H4 := (o2.trans o3).trans o4
      have hF4 := oA F _ hFp hF
      refine ⟨_, rfl, .inl ⟨rfl, _, SqL.of hF4⟩, _, rfl, _, rfl, ?_⟩
      refine ⟨_, rfl, p, 2, rfl, hp4, by decide, by decide, fun r5 H5 r50 r51 hp5 o5 => ?_⟩
      refine ⟨r5, rfl, by omega, by omega, fun D nD => ?_⟩
      have hDp := PurlAt.ne_new hp5 nD
      have hF5 := o5 F _ hFp hF4
      have hDF : D ≠ F := fun e => by rw [e, hF5] at nD; cases nD
      have sD : Same H5 (upd H5 D (.lst [])) := same_new nD
      refine lc_range (lo := 0) (n := r5.toNat) (fun j H2 => PurlAt H2 p ∧ Off p H5 H2 ∧ ∃ (ds : List Addr) (xs : List Act3), ds.length = j ∧ DeedsV (fun a => a ≠ p ∧ a ≠ F ∧ a ≠ D) H2 ds xs ∧ (∀ x ∈ xs, ActOk x.1 x.2.1 x.2.2) ∧ H2 D = some (.lst (ds.map V.ref)))
        ⟨hp5.same sD, Same.off sD, [], [], rfl, True.intro, (fun x h => by cases h), upd_same⟩ (fun j H2 hj h => ?_) (fun H2 h => ?_)
      · obtain ⟨hp2, o2, ds, xs, hds, hdv, hok2, hD⟩ := h
        have hF2 := o2 F _ hFp hF5
        refine ⟨rfl, ?_⟩
        refine ⟨_, rfl, p, rfl, hp2, fun t x H3 hp3 o3 hd okx => ?_⟩
        have hD3 := o3 _ _ hDp hD
        have hup : ∀ b o, b ≠ D → H3 b = some o → (upd H3 D (.lst (ds.map V.ref ++ [.ref t]))) b = some o := fun b o nb e => by rw [upd_ne nb]; exact e
        have nn : ∀ a, H2 a = none → a ≠ p ∧ a ≠ F ∧ a ≠ D := fun a e => ⟨PurlAt.ne_new hp2 e, (fun z => by rw [z, hF2] at e; cases e), fun z => by rw [z, hD] at e; cases e⟩
        refine ⟨_, hD3, by rw [List.length_map]; omega, ?_, fun c y hc z => ?_, ds ++ [t], xs ++ [x], by simp [hds], ?_, ?_, ?_⟩
        · obtain ⟨m, d, z⟩ := hp3
          exact ⟨m, d, by rw [upd_ne hDp.symm]; exact z⟩
        · rw [upd_ne (ne_of_none z nD)]
          exact (o2.trans o3) c y hc z
        · refine DeedsV.snoc (DeedV.keep nn (fun b o n e => hup b o (nn b n).2.2 e) hd) (DeedsV.keep (fun _ h => h) (fun b o n e => ?_) hdv)
          exact hup b o n.2.2 (o3 b o n.1 e)
        · intro y hy
          rcases List.mem_append.mp hy with h | h
          · exact hok2 y h
          · rw [List.mem_singleton.mp h]
            exact okx
        · rw [upd_same, List.map_append]
          rfl
      obtain ⟨hp2, o2, ds, xs, hds, hdv, hok2, hD⟩ := h
      have hF2 := o2 F _ hFp hF5
      refine ⟨by show 3 ≤ sizeLine; decide, fun t nt => ?_⟩
      have y := same_new (o := .tup [.ref t1, .ref t2, .ref D]) nt
      refine ⟨F, _, _, rfl, rfl, y _ _ hF2, by rw [List.length_map, hts.len, hqs]; omega, ?_⟩
      have htp := PurlAt.ne_new hp2 nt
      have htF : t ≠ F := fun e => by rw [e, hF2] at nt; cases nt
      have ne_t : ∀ {a : Addr} {xs : List V} {H : Hp}, H F = some (.lst (ts.map V.ref)) → H a = some (.tup xs) → a ≠ F := fun h1 h2 e => by rw [e, h1] at h2; cases h2
      have g1 : WalkV H5 t1 w1 := o5 _ _ (PurlAt.ne_tup hp4 h1) h1
      have g2 : WalkV H5 t2 w2 := o5 _ _ (PurlAt.ne_tup hp4 h2) h2
      have f1 : WalkV H2 t1 w1 := o2 _ _ (PurlAt.ne_tup hp5 g1) g1
      have f2 : WalkV H2 t2 w2 := o2 _ _ (PurlAt.ne_tup hp5 g2) g2
      have hup : ∀ b o, b ≠ F → H2 b = some o → (upd (upd H2 t (.tup [.ref t1, .ref t2, .ref D])) F (.lst (ts.map V.ref ++ [.ref t]))) b = some o := fun b o nb e => by rw [upd_ne nb]; exact y _ _ e
      have oB : Off p H' H2 := (oA.trans o5).trans o2
      refine ⟨ts ++ [t], qs ++ [⟨w1, w2, xs⟩], _, _, _, rfl, ?_, ?_, ?_, ?_, ?_, ?_⟩
      · obtain ⟨m, d, z⟩ := hp2
        exact ⟨m, d, by rw [upd_ne hFp.symm]; exact y _ _ z⟩
      · exact off_upd ((o'.trans oB).trans (Same.off y)) nF
      · rw [upd_same, List.map_append]
        rfl
      · refine PartsV.snoc (x := ⟨w1, w2, xs⟩) ⟨t1, t2, D, ds, ⟨htp, htF⟩, ⟨PurlAt.ne_tup hp2 f1, ne_t hF2 f1⟩, ⟨PurlAt.ne_tup hp2 f2, ne_t hF2 f2⟩, ⟨hDp, hDF⟩, ?_, hup _ _ (ne_t hF2 f1) f1, hup _ _ (ne_t hF2 f2) f2, hup _ _ hDF hD, hdv.keep (fun a h => ⟨h.1, h.2.1⟩) fun b o n e => hup b o n.2.1 e⟩ (hts.keep (fun _ h => h) fun b o n e => hup b o n.2 (oB b o n.1 e))
        rw [upd_ne htF]
        exact upd_same
      · rw [List.length_append, hqs]
        rfl
      · intro z hz
        rcases List.mem_append.mp hz with h | h
        · exact hok z h
        · have xl : xs.length ≤ 1 := by rw [← hdv.len, hds]; omega
          rw [List.mem_singleton.mp h]
          exact ⟨⟨a1, a2, a3, a4, (show xs.length ≤ 6 by omega), hok2⟩, xl⟩
    obtain ⟨ts, qs, v3, v4, v5, rfl, hp', o', hF, hts, hqs, hok⟩ := h
    exact ⟨_, rfl, q F qs H' hp' o' ⟨hFp, ⟨ts, hF, hts.keep (fun _ _ => True.intro) fun b o n e => e⟩, fun H'' oo => ⟨ts, oo _ _ hFp hF, hts.keep (fun _ _ => True.intro) fun b o n e => oo b o n.1 e⟩⟩ (by omega) hok⟩
end
end Sq.N4
namespace Sq.N4
open PySem L2 TL
section
variable {P : Program} {w : World} {K : PySem.W.Frag} {mg : Str → Option Value} {base : Heap}
def em (a : Nat) : Nat := if a < 3 then a else if a < 9 then a + 3 else if a < 12 then a - 6 else a
theorem em_lt {a : Nat} (h : a < 18) : em a < 18 := by
  unfold em
  split
  · omega
  split
  · omega
  split <;> omega
theorem em_lt2 {a : Nat} (h : a < 12) : em a < 12 := by
  unfold em
  split
  · omega
  split
  · omega
  omega
/-- a drawn nest, its bounds counted as the document does -/
def toQ (q : Part) : Part := ⟨(em q.o.1, em q.o.2.1, q.o.2.2), (em q.u.1, em q.u.2.1, q.u.2.2), q.acts⟩
theorem PartOk.toQ {q : Part} (h : PartOk q) : PartOk (toQ q) := ⟨em_lt2 h.o1, em_lt2 h.o2, em_lt h.u1, em_lt h.u2, h.al, h.ok⟩
def endB : List Str := ["n//2", "(n+1)//2", "n", "i", "n-i"]
def endT : List Str := ["-1", "", "+1"]
theorem end_low : ∀ a : _root_.Fin 3, (toString ((a.val : Int) - 1) : String) = "-1" ∧ a.val = 0 ∨ (toString ((a.val : Int) - 1) : String) = "0" ∧ a.val = 1 ∨ (toString ((a.val : Int) - 1) : String) = "1" ∧ a.val = 2 := by decide
theorem end_high : ∀ a : _root_.Fin 18, 3 ≤ a.val → endB.getD (a.val / 3 - 1) "" ++ endT.getD (a.val % 3) "" = edge (em a.val) := by decide +kernel
theorem end_lows : edge (em 0) = "-1" ∧ edge (em 1) = "0" ∧ edge (em 2) = "1" := by decide +kernel
theorem strs_at (L : List Str) {i : Nat} (h : i < L.length) : atI (L.map V.str) ((i : Nat) : Int) = some (.str (L.getD i "")) := by
  refine atI_nat ?_
  rw [List.getElem?_map, List.getElem?_eq_getElem h]
  show some (V.str L[i]) = _
  rw [List.getD_eq_getElem?_getD, List.getElem?_eq_getElem h]
  rfl
def spEnd : Sp := fun vs H Q _ => ∃ a : Nat, vs = [.int (a : Int)] ∧ a < 18 ∧ ∀ H', Same H H' → Q (.str (edge (em a))) H'
def spLoopT : Sp := fun vs H Q _ => ∃ (t : Addr) (o : Nat × Nat × Nat), vs = [.ref t] ∧ WalkV H t o ∧ o.1 < 18 ∧ o.2.1 < 18 ∧ ∀ H', Same H H' → Q (.str (rowOf (em o.1) (em o.2.1) o.2.2)) H'
def spSpots : Sp := fun vs H Q _ => vs = [] ∧ ∀ p, H p = none → Q (.ref p) (upd H p (.lst (plcs.map V.str)))
def spDeedT : Sp := fun vs H Q _ => ∃ (t : Addr) (x : Act3), vs = [.ref t] ∧ DeedV (fun _ => True) H t x ∧ ActOk x.1 x.2.1 x.2.2 ∧ ∀ H', Same H H' → Q (.str (actS x.1 x.2.1 x.2.2)) H'
theorem edge_le {a : Nat} (h : a < 18) : (edge (em a)).length ≤ 12 := (edge_plain ⟨em a, em_lt h⟩).2.2.2
theorem join_on {A B : List Str} (ha : A ≠ []) (hb : B ≠ []) : Txt.join " " (Txt.join " " A :: B) = Txt.join " " (A ++ B) := by
  refine ext_tl ?_
  rw [join_eq " " (Txt.join " " A :: B), tl_join, join_eq " " (A ++ B), tl_join, List.map_append, List.map_cons, join_eq, tl_join, joinL_cons (fun e => hb (List.map_eq_nil_iff.mp e)), joinL_app (fun e => ha (List.map_eq_nil_iff.mp e)) (fun e => hb (List.map_eq_nil_iff.mp e))]
theorem actOk_none {w : Nat} {ps : List Nat} {g : Option (Nat × Nat × Nat)} (h : ActOk w ps g) : ActOk w ps none := ⟨h.w4, h.two, h.more, h.nd, h.lt, fun a b c e => by cases e⟩
def spText : Sp := fun vs H Q _ => ∃ (a : Addr) (qs : List Part), vs = [.ref a] ∧ PlanV H a qs ∧ (∀ q ∈ qs, PartOk q) ∧ qs.length ≤ 5 ∧ ∀ H', Same H H' → Q (.str (progT ((qs.map toQ).map Part.nest))) H'
def pageRows (qs : List Part) : List Str := (((qs.map toQ).map Part.nest).map rowsOf).flatten
theorem pageRows_succ {qs : List Part} {i : Nat} {q : Part} (h : qs[i]? = some q) : pageRows (qs.take (i + 1)) = pageRows (qs.take i) ++ rowsOf (toQ q).nest := by
  unfold pageRows
  rw [List.take_add_one, h]
  simp
theorem nests_t {qs : List Part} (ok : ∀ q ∈ qs, PartOk q) : ∀ n ∈ (qs.map toQ).map Part.nest, NestT n := fun n hn => by
  obtain ⟨q, hq, rfl⟩ := List.mem_map.mp hn
  obtain ⟨r, hr, rfl⟩ := List.mem_map.mp hq
  exact (ok r hr).toQ.nest
theorem pageRows_len {qs : List Part} (ok : ∀ q ∈ qs, PartOk q) : (pageRows qs).length ≤ 8 * qs.length := by
  have z := flat_len (nests_t ok)
  rw [List.length_map, List.length_map] at z
  exact z
theorem pageRows_rows {qs : List Part} (ok : ∀ q ∈ qs, PartOk q) : ∀ r ∈ pageRows qs, r.length ≤ 200 := fun r hr => (flat_all (nests_t ok) r hr).2
abbrev s__law_endtext : Stmt := top 61
theorem sc__law_endtext : FnScope ["_law_at", "_law_base"] ["_law_at"] (defScope s__law_endtext) := ⟨rfl, rfl, rfl, by decide +kernel, rfl, by decide +kernel, by decide +kernel⟩
theorem ok__law_endtext {f : Addr} {fd : FuncData} (F : Fun K "_law_endtext" "_law_endtext" s__law_endtext f fd) (T : Bt mg)  : FnOk P w K mg base CX0 1 f fd ["_law_at"] spEnd := by
  refine F.ok sc__law_endtext (fun vs H Q E h => ?_) (fun cdv A outer s H vs Q E hr h => ?_)
  · obtain ⟨a, rfl, _⟩ := h
    rfl
  · obtain ⟨a, rfl, ha, q⟩ := h
    refine ⟨_, (pss_cons (ps_if (pt_cmpR op_lt (pv 0) pe_int (nomark _))
        (pss_one (ps_ret (pe_callTy call_str_int (by rfl) T.str (by decide +kernel) (pa_cons (pe_op op_sub (pv 0) pe_int) pa_nil))))
        pss_nil)
        (pss_cons (ps_set (i := 1) sc__law_endtext.nd rfl (by first | exact .inl rfl | exact .inr rfl) (pe_ix ix_list (pe_lst (pa_cons pe_str (pa_cons pe_str (pa_cons pe_str (pa_cons pe_str (pa_cons pe_str pa_nil)))))) (pe_op op_sub (pe_op op_fdiv (pv 0) pe_int) pe_int) (fun _ _ => rfl)))
        (pss_one (ps_ret (pe_op op_add_str (pv 1) (pe_ix ix_list (pe_lst (pa_cons pe_str (pa_cons pe_str (pa_cons pe_str pa_nil)))) (pe_op op_mod (pe_callTy call_int1 (by rfl) T.int (by decide +kernel) (pa_cons (pv 0) pa_nil)) pe_int) (fun _ _ => rfl))))))), ?_⟩
    have bigL : 100 ≤ sizeLine := by decide
    refine ⟨_, rfl, _, _, rfl, rfl, _, rfl, ?_⟩
    refine ite2 (fun h3 => ?_) (fun h3 => ?_)
    · have h3 : a < 3 := by have : (a : Int) < 3 := of_decide_eq_true h3; omega
      refine ⟨_, rfl, _, _, rfl, rfl, (a : Int) - 1, rfl, ?_, ?_⟩
      · rcases (show a = 0 ∨ a = 1 ∨ a = 2 by omega) with e | e | e <;> subst e <;> decide
      · obtain ⟨l0, l1, l2⟩ := end_lows
        rcases (show a = 0 ∨ a = 1 ∨ a = 2 by omega) with e | e | e <;> subst e
        · rw [l0] at q
          exact q _ (Same.refl _)
        · rw [l1] at q
          exact q _ (Same.refl _)
        · rw [l2] at q
          exact q _ (Same.refl _)
    · have h3 : ¬ a < 3 := fun z => h3 (decide_eq_true (show (a : Int) < 3 by omega))
      have ez := end_high ⟨a, ha⟩ (by show 3 ≤ a; omega)
      have e1 : ((a : Int) / 3 - 1) = ((a / 3 - 1 : Nat) : Int) := by omega
      have e2 : ((a : Int) % 3) = ((a % 3 : Nat) : Int) := by omega
      refine ⟨by show 5 ≤ sizeLine; omega, fun b1 n1 => ?_⟩
      refine ⟨_, rfl, _, _, rfl, rfl, ⟨by decide, by decide⟩, _, _, rfl, rfl, b1, _, _, _, rfl, rfl, SqL.of upd_same, (congrArg (atI _) e1).trans (strs_at endB (by show _ < 5; omega)), ?_⟩
      refine ⟨_, rfl, by show 3 ≤ sizeLine; omega, fun b2 n2 => ?_⟩
      refine ⟨_, rfl, .inl ⟨_, rfl, _, _, rfl, rfl, (by show (0 : Int) < 3; decide), ?_⟩⟩
      refine ⟨b2, _, _, _, rfl, rfl, SqL.of upd_same, (congrArg (atI _) e2).trans (strs_at endT (by show _ < 3; omega)), ?_⟩
      refine ⟨_, _, rfl, rfl, ?_, ?_⟩
      · have k : ∀ i : _root_.Fin 5, (endB.getD i.val "").length ≤ 8 := by decide +kernel
        have k2 : ∀ i : _root_.Fin 3, (endT.getD i.val "").length ≤ 2 := by decide +kernel
        have z1 := k ⟨a / 3 - 1, by omega⟩
        have z2 := k2 ⟨a % 3, by omega⟩
        simp only at z1 z2
        omega
      · rw [ez]
        exact q _ ((same_new n1).trans (same_new n2))
abbrev s__law_looptext : Stmt := top 62
theorem sc__law_looptext : FnScope ["_law_loop_here"] ["_law_loop_here"] (defScope s__law_looptext) := ⟨rfl, rfl, rfl, by decide +kernel, rfl, by decide +kernel, by decide +kernel⟩
theorem ok__law_looptext {f : Addr} {fd : FuncData} (F : Fun K "_law_looptext" "_law_looptext" s__law_looptext f fd) (T : Bt mg) (G__law_endtext : FB P w K mg base "_law_endtext" 1 ["_law_at"] spEnd) : FnOk P w K mg base CX0 2 f fd ["_law_loop_here"] spLoopT := by
  refine F.ok sc__law_looptext (fun vs H Q E h => ?_) (fun cdv A outer s H vs Q E hr h => ?_)
  · obtain ⟨t, o, rfl, _⟩ := h
    rfl
  · obtain ⟨t, ⟨x, y, d⟩, rfl, ht, hx, hy, q⟩ := h
    refine ⟨_, (pss_one (ps_ret (pe_op op_add_str (pe_op op_add_str (pe_op op_add_str (pe_fb G__law_endtext hr (by decide) (by rfl) (pa_cons (pe_ix ix_tup (pv 0) pe_int (fun _ _ => rfl)) pa_nil)) pe_str) (pe_fb G__law_endtext hr (by decide) (by rfl) (pa_cons (pe_ix ix_tup (pv 0) pe_int (fun _ _ => rfl)) pa_nil))) (pe_ifExp (pt_val (pe_ix ix_tup (pv 0) pe_int (fun _ _ => rfl))) pe_str pe_str)))), ?_⟩
    have bigL : 100 ≤ sizeLine := by decide
    have l1 : (edge (em x)).length ≤ 12 := edge_le hx
    have l2 : (edge (em y)).length ≤ 12 := edge_le hy
    have lt : (" to " : Str).length = 4 := by decide +kernel
    have ld : (" down" : Str).length = 5 := by decide +kernel
    have le : ("" : Str).length = 0 := by decide +kernel
    refine ⟨_, rfl, t, _, 0, _, rfl, rfl, SqT.of ht, rfl, x, rfl, hx, fun H1 s1 => ?_⟩
    refine ⟨_, _, rfl, rfl, by omega, ?_⟩
    refine ⟨_, rfl, t, _, 1, _, rfl, rfl, SqT.of (s1 _ _ ht), rfl, y, rfl, hy, fun H2 s2 => ?_⟩
    refine ⟨_, _, rfl, rfl, by rw [str_len_append]; omega, ?_⟩
    refine ⟨_, rfl, t, _, 2, _, rfl, rfl, SqT.of (s2 _ _ (s1 _ _ ht)), rfl, decide (d = 1), rfl, ?_⟩
    have q : ∀ z : Str, z = (if decide (d = 1) = true then (" down" : Str) else "") → Q (.str (edge (em x) ++ " to " ++ edge (em y) ++ z)) H2 := fun z e => by
      rw [e]
      exact q H2 (s1.trans s2)
    refine ite2 (fun hd => ?_) (fun hd => ?_)
    · exact ⟨_, _, rfl, rfl, by rw [str_len_append, str_len_append]; omega, q _ (by rw [if_pos hd])⟩
    · exact ⟨_, _, rfl, rfl, by rw [str_len_append, str_len_append]; omega, q _ (by rw [if_neg hd])⟩
abbrev s__law_spots : Stmt := top 63
theorem sc__law_spots : FnScope [] [] (defScope s__law_spots) := ⟨rfl, rfl, rfl, by decide +kernel, rfl, by decide +kernel, by decide +kernel⟩
theorem ok__law_spots {f : Addr} {fd : FuncData} (F : Fun K "_law_spots" "_law_spots" s__law_spots f fd) (T : Bt mg)  : FnOk P w K mg base CX0 1 f fd [] spSpots := by
  refine F.ok sc__law_spots (fun vs H Q E h => ?_) (fun cdv A outer s H vs Q E hr h => ?_)
  · obtain ⟨rfl, _⟩ := h
    rfl
  · obtain ⟨rfl, q⟩ := h
    refine ⟨_, (pss_one (ps_ret (pe_lst (pa_cons pe_str (pa_cons pe_str (pa_cons pe_str (pa_cons pe_str (pa_cons pe_str (pa_cons pe_str (pa_cons pe_str (pa_cons pe_str pa_nil))))))))))), ?_⟩
    exact ⟨by show 8 ≤ sizeLine; decide, fun p np => q p np⟩
abbrev s__law_deedtext : Stmt := top 64
theorem sc__law_deedtext : FnScope ["_law_deed_here", "_law_found", "_law_spot", "_law_one", "_law_sign", "_law_other", "_law_letters", "_law_signs"] ["_law_deed_here"] (defScope s__law_deedtext) := ⟨rfl, rfl, rfl, by decide +kernel, rfl, by decide +kernel, by decide +kernel⟩
theorem ok__law_deedtext {f : Addr} {fd : FuncData} (F : Fun K "_law_deedtext" "_law_deedtext" s__law_deedtext f fd) (T : Bt mg) (G__law_spots : FB P w K mg base "_law_spots" 1 [] spSpots) : FnOk P w K mg base CX0 2 f fd ["_law_deed_here"] spDeedT := by
  refine F.ok sc__law_deedtext (fun vs H Q E h => ?_) (fun cdv A outer s H vs Q E hr h => ?_)
  · obtain ⟨t, x, rfl, _⟩ := h
    rfl
  · obtain ⟨t, ⟨w', ps, g⟩, rfl, ⟨sl, gv, _, _, ht, hs, hg⟩, okx, q⟩ := h
    refine ⟨_, (pss_cons (ps_set (i := 1) sc__law_deedtext.nd rfl (by first | exact .inl rfl | exact .inr rfl) (pe_join pe_str (pe_op op_cat (pe_lst (pa_cons (pe_ix ix_tup (pv 0) pe_int (fun _ _ => rfl)) pa_nil)) (pe_lc (own := [("_law_spot", 2)]) (g := gName 2) (by rfl) sc__law_deedtext.nd (pi_list (pe_ix ix_tup (pv 0) pe_int (fun _ _ => rfl))) (blkOk_by (own := [("_law_spot", 2)]) (N := ["_law_deed_here", "_law_found", "_law_spot", "_law_one", "_law_sign", "_law_other", "_law_letters", "_law_signs"]) (sc := defScope s__law_deedtext) (by decide +kernel))
            (fun _ _ _ _ _ => (pg_name (i := 2) sc__law_deedtext.nd rfl (by first | exact .inl rfl | exact .inr rfl))) (fun _ _ _ _ _ => pts_nil) (fun _ _ _ _ _ => (show PE _ _ (tOp (rIxL K) (tCall spSpots [] E0 tNil) (tVar 2)) from pe_ix ix_list (pe_fb0 G__law_spots hr (by decide) (by rfl)) (pv 2) (fun _ _ => rfl)))))))
        (pss_cons (ps_if (pt_cmpR op_isN (pe_ix ix_tup (pv 0) pe_int (fun _ _ => rfl)) pe_non (nomark _))
        (pss_one (ps_ret (pv 1)))
        pss_nil)
        (pss_cons (ps_asg (pe_ix ix_tup (pv 0) pe_int (fun _ _ => rfl)) (pg_tup (by rfl) (pgs_cons (pg_name (i := 3) sc__law_deedtext.nd rfl (by first | exact .inl rfl | exact .inr rfl)) (pgs_cons (pg_name (i := 4) sc__law_deedtext.nd rfl (by first | exact .inl rfl | exact .inr rfl)) (pgs_cons (pg_name (i := 5) sc__law_deedtext.nd rfl (by first | exact .inl rfl | exact .inr rfl)) pgs_nil)))))
        (pss_cons (ps_par (i := 6) (j := 7) (by rfl) sc__law_deedtext.nd rfl rfl (by decide) rfl rfl (pa_cons (pe_lst (pa_cons pe_str (pa_cons pe_str (pa_cons pe_str (pa_cons pe_str pa_nil))))) (pa_cons (pe_lst (pa_cons pe_str (pa_cons pe_str (pa_cons pe_str (pa_cons pe_str pa_nil))))) pa_nil)) (by rfl))
        (pss_one (ps_ret (pe_join pe_str (pe_lst (pa_cons (pv 1) (pa_cons pe_str (pa_cons (pe_ix ix_list (pv 6) (pv 3) (fun _ _ => rfl)) (pa_cons (pe_ix ix_list (pv 7) (pv 4) (fun _ _ => rfl)) (pa_cons (pe_ix ix_list (pv 6) (pv 5) (fun _ _ => rfl)) pa_nil))))))))))))), ?_⟩
    have bigL : 1000 ≤ sizeLine := by decide
    have okx : ActOk w' ps g := okx
    have hpl : 2 ≤ ps.length ∧ ps.length ≤ 8 := ps_len okx
    refine ⟨⟨_, rfl⟩, ?_⟩
    refine ⟨_, rfl, t, _, 0, _, rfl, rfl, SqT.of ht, rfl, by show 1 ≤ sizeLine; omega, fun ol nol => ?_⟩
    have k1 := same_new (o := .lst [.str (wdN w')]) nol
    refine ⟨_, rfl, t, _, 1, _, rfl, rfl, SqT.of (k1 _ _ ht), rfl, sl, rfl, ⟨_, SqL.of (k1 _ _ hs)⟩, fun D hD => ?_⟩
    refine lc_list (K := K) (a := sl) (xs := ps.map nvv) (fun i H' => Same (upd H ol (.lst [.str (wdN w')])) H' ∧ H' D = some (.lst (((ps.take i).map plN).map V.str)))
      ⟨same_new hD, upd_same⟩ (fun i H' _ h => SqL.of (h.1 _ _ (k1 _ _ hs))) (fun i x H' hi h => ?_) (fun H' h => ?_)
    · obtain ⟨sm, hLD⟩ := h
      refine ⟨rfl, ?_⟩
      obtain ⟨a, ha, rfl⟩ : ∃ a : Nat, ps[i]? = some a ∧ x = nvv a := by
        rw [List.getElem?_map] at hi
        cases e : ps[i]? with
        | none => rw [e] at hi; cases hi
        | some r => rw [e] at hi; exact ⟨r, rfl, (Option.some.inj hi).symm⟩
      have ha8 : a < 8 := okx.lt a (List.mem_of_getElem? ha)
      refine ⟨rfl, fun pl npl => ?_⟩
      have s2 : Same H' (upd H' pl (.lst (plcs.map V.str))) := same_new npl
      refine ⟨_, rfl, pl, _, _, _, rfl, rfl, SqL.of upd_same, strs_at plcs ha8, _, s2 _ _ hLD, ?_, ?_, ?_⟩
      · rw [List.length_map, List.length_map, List.length_take]
        have := hpl.2
        omega
      · intro c o hc
        rw [upd_ne (ne_of_none hc (show _ = none from hD))]
        exact s2 c o (sm c o hc)
      · rw [upd_same, List.take_add_one, ha, List.map_append, List.map_append]
        rfl
    obtain ⟨sm, hLD⟩ := h
    rw [List.length_map, List.take_length] at hLD
    refine ⟨ol, D, _, _, rfl, rfl, sm _ _ upd_same, hLD, ?_, fun jp njp => ?_⟩
    · rw [List.length_map, List.length_map]
      show 1 + ps.length ≤ sizeLine
      omega
    have k4 := (k1.trans sm).trans (same_new (o := .lst ([.str (wdN w')] ++ (ps.map plN).map V.str)) njp)
    have dr := act_deed (actOk_none okx)
    have ws : actW w' ps none = wdN w' :: ps.map plN := by
      unfold actW guardW
      rw [List.append_nil]
    have pw := actW_plain (actOk_none okx)
    have s5 := sum_le (m := 5) (ys := actW w' ps none) fun y hy => (pw y hy).ln
    have l13 := actW_len (actOk_none okx)
    have sp1 : (" " : Str).length = 1 := by decide +kernel
    refine ⟨" ", jp, actW w' ps none, rfl, rfl, .inl (SqL.of (upd_same.trans ?_)), by rw [sp1]; omega, ?_⟩
    · rw [ws]
      rfl
    simp only [L2.start, List.map_cons, List.map_nil, List.length_cons, List.length_nil, Nat.reduceAdd, Nat.reduceSub, List.replicate_succ, List.replicate_zero, List.cons_append, List.nil_append, List.set_cons_zero, List.set_cons_succ]
    have ht4 := k4 _ _ ht
    refine ⟨_, rfl, t, _, 2, _, rfl, rfl, SqT.of ht4, rfl, rfl, _, rfl, ?_⟩
    match g, hg, okx, q with
    | none, hg, okx, q =>
      have e : gv = .non := hg
      subst e
      refine iteT ?_
      exact ⟨_, rfl, q _ k4⟩
    | some (ga, gb, gc), hg, okx, q =>
      obtain ⟨gt, rfl, _, hgt⟩ := hg
      obtain ⟨a4, b4, c4, _⟩ := okx.gd ga gb gc rfl
      refine iteF ?_
      refine ⟨_, rfl, t, _, 2, _, rfl, rfl, SqT.of ht4, rfl, gt, _, rfl, SqT.of (k4 _ _ hgt), rfl, _, _, rfl, _, _, rfl, _, _, rfl, rfl, ?_⟩
      simp only [L2.start, List.map_cons, List.map_nil, List.length_cons, List.length_nil, Nat.reduceAdd, Nat.reduceSub, List.replicate_succ, List.replicate_zero, List.cons_append, List.nil_append, List.set_cons_zero, List.set_cons_succ]
      refine ⟨by show 4 ≤ sizeLine; omega, fun al nal => ?_⟩
      refine ⟨by show 4 ≤ sizeLine; omega, fun bl nbl => ⟨_, _, rfl, ?_⟩⟩
      simp only [L2.start, List.map_cons, List.map_nil, List.length_cons, List.length_nil, Nat.reduceAdd, Nat.reduceSub, List.replicate_succ, List.replicate_zero, List.cons_append, List.nil_append, List.set_cons_zero, List.set_cons_succ]
      have y1 := same_new (o := .lst [V.str "i", .str "j", .str "~i", .str "~j"]) nal
      have y2 := same_new (o := .lst [V.str "<", .str "<=", .str "==", .str "!="]) nbl
      refine ⟨⟨_, rfl⟩, _, rfl, ?_⟩
      refine ⟨_, rfl, _, rfl, al, _, _, _, rfl, rfl, SqL.of (y2 _ _ upd_same), strs_at nmz a4, ?_⟩
      refine ⟨_, rfl, _, rfl, bl, _, _, _, rfl, rfl, SqL.of upd_same, strs_at cmps b4, ?_⟩
      refine ⟨_, rfl, _, rfl, al, _, _, _, rfl, rfl, SqL.of (y2 _ _ upd_same), strs_at nmz c4, ?_⟩
      refine ⟨by show 5 ≤ sizeLine; omega, fun zp nzp => ?_⟩
      have y3 := same_new (o := .lst [V.str (Txt.join " " (actW w' ps none)), .str "if", .str (nuN ga), .str (cmN gb), .str (nuN gc)]) nzp
      have pg := actW_plain okx
      have ww : actW w' ps (some (ga, gb, gc)) = actW w' ps none ++ (["if", nuN ga, cmN gb, nuN gc] : List Str) := by
        rw [ws]
        rfl
      have dl : (Txt.join " " (actW w' ps none)).length ≤ 200 := dr.ln
      have s6 := sum_le (m := 200) (ys := [Txt.join " " (actW w' ps none), "if", nuN ga, cmN gb, nuN gc]) fun y hy => by
        rcases List.mem_cons.mp hy with e | hy
        · rw [e]; exact dl
        · have z := (pg y (by rw [ww]; exact List.mem_append_right _ hy)).ln
          omega
      refine ⟨" ", zp, [Txt.join " " (actW w' ps none), "if", nuN ga, cmN gb, nuN gc], rfl, rfl, .inl (SqL.of upd_same), by rw [sp1]; exact Nat.le_trans (Nat.add_le_add_right s6 _) (by show 200 * 5 + 5 * 1 ≤ 16777216; decide), ?_⟩
      rw [join_on (by rw [ws]; exact List.cons_ne_nil _ _) (List.cons_ne_nil _ _), ← ww]
      exact q _ (((k4.trans y1).trans y2).trans y3)
abbrev s__law_text : Stmt := top 65
theorem sc__law_text : FnScope ["_law_plan", "_law_rows", "_law_outer", "_law_inner", "_law_deeds", "_law_deed_here"] ["_law_plan"] (defScope s__law_text) := ⟨rfl, rfl, rfl, by decide +kernel, rfl, by decide +kernel, by decide +kernel⟩
theorem ok__law_text {f : Addr} {fd : FuncData} (F : Fun K "_law_text" "_law_text" s__law_text f fd) (T : Bt mg) (G__law_looptext : FB P w K mg base "_law_looptext" 2 ["_law_loop_here"] spLoopT) (G__law_deedtext : FB P w K mg base "_law_deedtext" 2 ["_law_deed_here"] spDeedT) : FnOk P w K mg base CX0 3 f fd ["_law_plan"] spText := by
  refine F.ok sc__law_text (fun vs H Q E h => ?_) (fun cdv A outer s H vs Q E hr h => ?_)
  · obtain ⟨D, qs, rfl, _⟩ := h
    rfl
  · obtain ⟨D, qs, rfl, ⟨ts, hD, hts⟩, ok, ql, q⟩ := h
    refine ⟨_, (pss_cons (ps_set (i := 1) sc__law_text.nd rfl (by first | exact .inl rfl | exact .inr rfl) (pe_lst pa_nil))
        (pss_cons (ps_for PassesOwn.never rfl (pi_list (pv 0)) (pg_tup (by rfl) (pgs_cons (pg_name (i := 2) sc__law_text.nd rfl (by first | exact .inl rfl | exact .inr rfl)) (pgs_cons (pg_name (i := 3) sc__law_text.nd rfl (by first | exact .inl rfl | exact .inr rfl)) (pgs_cons (pg_name (i := 4) sc__law_text.nd rfl (by first | exact .inl rfl | exact .inr rfl)) pgs_nil))))
        (pss_cons (ps_set (i := 1) sc__law_text.nd rfl (by first | exact .inl rfl | exact .inr rfl) (pe_op op_cat (pv 1) (pe_lst (pa_cons (pe_op op_add_str pe_str (pe_fb G__law_looptext hr (by decide) (by rfl) (pa_cons (pv 2) pa_nil))) (pa_cons (pe_op op_add_str pe_str (pe_fb G__law_looptext hr (by decide) (by rfl) (pa_cons (pv 3) pa_nil))) pa_nil)))))
        (pss_one (ps_set (i := 1) sc__law_text.nd rfl (by first | exact .inl rfl | exact .inr rfl) (pe_op op_cat (pv 1) (pe_lc (own := [("_law_deed_here", 5)]) (g := gName 5) (by rfl) sc__law_text.nd (pi_list (pv 4)) (blkOk_by (own := [("_law_deed_here", 5)]) (N := ["_law_plan", "_law_rows", "_law_outer", "_law_inner", "_law_deeds", "_law_deed_here"]) (sc := defScope s__law_text) (by decide +kernel))
            (fun _ _ _ _ _ => (pg_name (i := 5) sc__law_text.nd rfl (by first | exact .inl rfl | exact .inr rfl))) (fun _ _ _ _ _ => pts_nil) (fun _ _ _ _ _ => (pe_fb G__law_deedtext hr (by decide) (by rfl) (pa_cons (pv 5) pa_nil)))))))))
        (pss_one (ps_ret (pe_join pe_str (pv 1)))))), ?_⟩
    have big : 10000 ≤ sizeLine := by decide
    have tl' := hts.len
    refine ⟨Nat.zero_le _, fun R0 nR => ?_⟩
    have k0 := same_new (o := .lst []) nR
    simp only [L2.start, List.map_cons, List.map_nil, List.length_cons, List.length_nil, Nat.reduceAdd, Nat.reduceSub, List.replicate_succ, List.replicate_zero, List.cons_append, List.nil_append, List.set_cons_zero, List.set_cons_succ]
    refine ⟨_, rfl, D, rfl, ⟨_, SqL.of (k0 _ _ hD)⟩, ?_⟩
    refine for_list (xs := ts.map V.ref) (fun i σ H' => (∃ R v2 v3 v4 v5, σ = [some (.ref D), some (.ref R), v2, v3, v4, v5] ∧ H' R = some (.lst ((pageRows (qs.take i)).map V.str))) ∧ Same H H') ⟨⟨R0, _, _, _, _, rfl, upd_same⟩, k0⟩ (fun i σ H' _ h => SqL.of (h.2 _ _ hD)) (fun i x σ H' hi h => ?_) (fun σ H' h => ?_)
    · obtain ⟨⟨R, v2, v3, v4, v5, rfl, hR⟩, sm⟩ := h
      obtain ⟨t, ht, rfl⟩ : ∃ t, ts[i]? = some t ∧ x = .ref t := by
        rw [List.getElem?_map] at hi
        cases e : ts[i]? with
        | none => rw [e] at hi; cases hi
        | some r => rw [e] at hi; exact ⟨r, rfl, (Option.some.inj hi).symm⟩
      obtain ⟨p, hqi, o, u, l, as, _, _, _, _, h1, h2, h3, h4, h6⟩ := hts.get i t ht
      have hil : i < qs.length := (List.getElem?_eq_some_iff.mp hqi).1
      have okq := ok p (List.mem_of_getElem? hqi)
      have okn := okq.toQ.nest
      have h5 := h6.len
      have T1 := okn.l1
      have T2 := okn.l2
      have o7 : ofrom.length = 7 := by decide +kernel
      have j7 : jfrom.length = 7 := by decide +kernel
      have plen : (pageRows (qs.take i)).length ≤ 40 := by
        have := pageRows_len (qs := qs.take i) fun q hq => ok q (List.mem_of_mem_take hq)
        rw [List.length_take] at this
        omega
      have a1 := okq.o1
      have a2 := okq.o2
      refine ⟨t, _, rfl, SqT.of (sm _ _ h1), rfl, _, _, rfl, _, _, rfl, _, _, rfl, rfl, ?_⟩
      simp only [L2.start, List.map_cons, List.map_nil, List.length_cons, List.length_nil, Nat.reduceAdd, Nat.reduceSub, List.replicate_succ, List.replicate_zero, List.cons_append, List.nil_append, List.set_cons_zero, List.set_cons_succ]
      refine ⟨_, rfl, ?_⟩
      refine ⟨_, rfl, o, p.o, rfl, sm _ _ h2, by omega, by omega, fun H1 s1 => ?_⟩
      refine ⟨ofrom, (toQ p).nest.1, rfl, rfl, by omega, ?_⟩
      refine ⟨_, rfl, u, p.u, rfl, s1 _ _ (sm _ _ h3), okq.u1, okq.u2, fun H2 s2 => ?_⟩
      refine ⟨jfrom, (toQ p).nest.2.1, rfl, rfl, by omega, ?_⟩
      refine ⟨(by show 2 ≤ sizeLine; omega), fun a2 na2 => ?_⟩
      have k1 := (s1.trans s2).trans (same_new (o := .lst [.str (ofrom ++ (toQ p).nest.1), .str (jfrom ++ (toQ p).nest.2.1)]) na2)
      refine ⟨R, a2, _, _, rfl, rfl, k1 _ _ hR, upd_same, (by rw [List.length_map]; show (pageRows (qs.take i)).length + 2 ≤ sizeLine; omega), fun R2 nR2 => ?_⟩
      have k2 := k1.trans (same_new (o := .lst ((pageRows (qs.take i)).map V.str ++ [.str (ofrom ++ (toQ p).nest.1), .str (jfrom ++ (toQ p).nest.2.1)])) nR2)
      simp only [L2.start, List.map_cons, List.map_nil, List.length_cons, List.length_nil, Nat.reduceAdd, Nat.reduceSub, List.replicate_succ, List.replicate_zero, List.cons_append, List.nil_append, List.set_cons_zero, List.set_cons_succ]
      refine ⟨_, rfl, ?_⟩
      refine ⟨_, rfl, l, rfl, ⟨_, SqL.of (k2 _ _ (sm _ _ h4))⟩, fun D2 nD2 => ?_⟩
      have hR2 : (upd (upd H2 a2 (.lst [.str (ofrom ++ (toQ p).nest.1), .str (jfrom ++ (toQ p).nest.2.1)])) R2 (.lst ((pageRows (qs.take i)).map V.str ++ [.str (ofrom ++ (toQ p).nest.1), .str (jfrom ++ (toQ p).nest.2.1)]))) R2 = some (.lst ((pageRows (qs.take i)).map V.str ++ [.str (ofrom ++ (toQ p).nest.1), .str (jfrom ++ (toQ p).nest.2.1)])) := upd_same
      refine lc_list (K := K) (a := l) (xs := as.map V.ref) (fun j H'' => Same _ H'' ∧ H'' D2 = some (.lst ((((toQ p).nest.2.2).take j).map V.str))) ⟨same_new nD2, upd_same⟩ (fun j H'' _ h => SqL.of (h.1 _ _ (k2 _ _ (sm _ _ h4)))) (fun j y H'' hj h => ?_) (fun H'' h => ?_)
      · obtain ⟨sj, hL⟩ := h
        refine ⟨rfl, ?_⟩
        obtain ⟨a, ha, rfl⟩ : ∃ a, as[j]? = some a ∧ y = .ref a := by
          rw [List.getElem?_map] at hj
          cases e : as[j]? with
          | none => rw [e] at hj; cases hj
          | some r => rw [e] at hj; exact ⟨r, rfl, (Option.some.inj hj).symm⟩
        obtain ⟨x, hpj, hA⟩ := h6.get j a ha
        refine ⟨_, rfl, a, x, rfl, hA.keep (fun _ h => h) (fun b o _ e => ((sm.trans k2).trans sj) b o e), okq.ok _ (List.mem_of_getElem? hpj), fun H3 s3 => ⟨_, s3 _ _ hL, ?_, ?_, ?_⟩⟩
        · rw [List.length_map, List.length_take]
          have := okn.dl
          omega
        · intro c z hc
          rw [upd_ne (ne_of_none hc nD2)]
          exact s3 c z (sj c z hc)
        · rw [upd_same, List.take_add_one, show (toQ p).nest.2.2[j]? = some (actS x.1 x.2.1 x.2.2) from by show (p.acts.map fun x => actS x.1 x.2.1 x.2.2)[j]? = _; rw [List.getElem?_map, hpj]; rfl, List.map_append]
          rfl
      · obtain ⟨sj, hL⟩ := h
        rw [List.length_map, h5, show p.acts.length = (toQ p).nest.2.2.length from (List.length_map ..).symm, List.take_length] at hL
        refine ⟨R2, D2, _, _, rfl, rfl, sj _ _ hR2, hL, ?_, fun R3 nR3 => ?_⟩
        · have := okn.dl
          rw [List.length_append, List.length_map, List.length_map]
          show (pageRows (qs.take i)).length + 2 + (toQ p).nest.2.2.length ≤ sizeLine
          omega
        · refine ⟨⟨R3, _, _, _, _, rfl, ?_⟩, ((sm.trans k2).trans sj).trans (same_new nR3)⟩
          rw [upd_same, pageRows_succ hqi, List.map_append, List.append_assoc]
          rfl
    · obtain ⟨⟨R, v2, v3, v4, v5, rfl, hR⟩, sm⟩ := h
      rw [List.length_map, tl', List.take_length] at hR
      refine ⟨⟨_, rfl⟩, _, rfl, "\n", R, pageRows qs, rfl, rfl, .inl (SqL.of hR), ?_, q H' sm⟩
      have b1 := sum_le (m := 200) (pageRows_rows ok)
      have b2 := pageRows_len ok
      have b3 : ("\n" : Str).length = 1 := by decide +kernel
      rw [b3]
      omega
end
end Sq.N4
namespace Sq
open PySem L2 TL
/-! ### the bounds at sizes two apart: lines of slope 0, 1, 2, well apart from size 14 on -/
def sl (k : Int) : Int := if k = 0 then 0 else if k = 1 then 2 else 1
theorem k4 {k : Int} (h : 0 ≤ k) (h' : k ≤ 3) : k = 0 ∨ k = 1 ∨ k = 2 ∨ k = 3 := by omega
theorem pt_lin {k : Int} (h : 0 ≤ k) (h' : k ≤ 3) (b s : Int) : pt k (b + 2 * s) = pt k b + sl k * s := by
  rcases k4 h h' with e | e | e | e <;> subst e
  · show (0 : Int) = 0 + 0 * s
    omega
  · show b + 2 * s = b + 2 * s
    rfl
  · show (b + 2 * s) / 2 = b / 2 + 1 * s
    omega
  · show (b + 2 * s + 1) / 2 = (b + 1) / 2 + 1 * s
    omega
/-- a line x + r s of one of the three slopes -/
def Lv (x r : Int) : Prop := (r = 0 ∧ -2 ≤ x ∧ x ≤ 3) ∨ (r = 1 ∧ 5 ≤ x ∧ x ≤ 11) ∨ (r = 2 ∧ 12 ≤ x ∧ x ≤ 19)
theorem lv_le {x r y t s : Int} (hx : Lv x r) (hy : Lv y t) (h : 0 ≤ s) : x + r * s ≤ y + t * s ↔ x ≤ y := by
  rcases hx with ⟨e, h1, h2⟩ | ⟨e, h1, h2⟩ | ⟨e, h1, h2⟩ <;> rcases hy with ⟨e', h3, h4⟩ | ⟨e', h3, h4⟩ | ⟨e', h3, h4⟩ <;> subst e <;> subst e' <;> omega
theorem lv_max {x r y t : Int} (hx : Lv x r) (hy : Lv y t) : ∃ u, Lv (if y > x then y else x) u ∧ ∀ s, 0 ≤ s → (if y + t * s > x + r * s then y + t * s else x + r * s) = (if y > x then y else x) + u * s := by
  by_cases h : y > x
  · refine ⟨t, by rw [if_pos h]; exact hy, fun s hs => ?_⟩
    rw [if_pos h, if_pos]
    exact Int.not_le.mp fun z => by have := (lv_le hy hx hs).mp z; omega
  · refine ⟨r, by rw [if_neg h]; exact hx, fun s hs => ?_⟩
    rw [if_neg h, if_neg]
    exact Int.not_lt.mpr ((lv_le hy hx hs).mpr (by omega))
theorem lv_min {x r y t : Int} (hx : Lv x r) (hy : Lv y t) : ∃ u, Lv (if y < x then y else x) u ∧ ∀ s, 0 ≤ s → (if y + t * s < x + r * s then y + t * s else x + r * s) = (if y < x then y else x) + u * s := by
  by_cases h : y < x
  · refine ⟨t, by rw [if_pos h]; exact hy, fun s hs => ?_⟩
    rw [if_pos h, if_pos]
    exact Int.not_le.mp fun z => by have := (lv_le hx hy hs).mp z; omega
  · refine ⟨r, by rw [if_neg h]; exact hx, fun s hs => ?_⟩
    rw [if_neg h, if_neg]
    exact Int.not_lt.mpr ((lv_le hx hy hs).mpr (by omega))
/-- a bound with no i in it -/
structure Flat (t : Int × Int × Int) : Prop where
  k0 : 0 ≤ t.1
  k3 : t.1 ≤ 3
  c : Unit3 t.2.2
  z : t.2.1 = 0
/-- an inner bound -/
structure Inn (t : Int × Int × Int) : Prop where
  k0 : 0 ≤ t.1
  k3 : t.1 ≤ 3
  c : Unit3 t.2.2
  s : t.2.1 = 0 ∨ t.2.1 = 1 ∧ t.1 = 0 ∨ t.2.1 = -1 ∧ t.1 = 1
theorem lv_pt {k c b : Int} (h : 0 ≤ k) (h' : k ≤ 3) (hc : Unit3 c) (hb : b = 14 ∨ b = 15) : Lv (pt k b + c) (sl k) := by
  unfold Unit3 at hc
  rcases k4 h h' with e | e | e | e <;> subst e
  · refine .inl ⟨rfl, ?_⟩
    show -2 ≤ 0 + c ∧ 0 + c ≤ 3
    omega
  · refine .inr (.inr ⟨rfl, ?_⟩)
    show 12 ≤ b + c ∧ b + c ≤ 19
    omega
  · refine .inr (.inl ⟨rfl, ?_⟩)
    show 5 ≤ b / 2 + c ∧ b / 2 + c ≤ 11
    omega
  · refine .inr (.inl ⟨rfl, ?_⟩)
    show 5 ≤ (b + 1) / 2 + c ∧ (b + 1) / 2 + c ≤ 11
    omega
/-- a bound's place, moved by little -/
theorem lv_near {k c b : Int} (h : 0 ≤ k) (h' : k ≤ 3) (h1 : -2 ≤ c) (h2 : c ≤ 3) (hb : b = 14 ∨ b = 15) : Lv (pt k b + c) (sl k) := by
  rcases k4 h h' with e | e | e | e <;> subst e
  · refine .inl ⟨rfl, ?_⟩
    show -2 ≤ 0 + c ∧ 0 + c ≤ 3
    omega
  · refine .inr (.inr ⟨rfl, ?_⟩)
    show 12 ≤ b + c ∧ b + c ≤ 19
    omega
  · refine .inr (.inl ⟨rfl, ?_⟩)
    show 5 ≤ b / 2 + c ∧ b / 2 + c ≤ 11
    omega
  · refine .inr (.inl ⟨rfl, ?_⟩)
    show 5 ≤ (b + 1) / 2 + c ∧ (b + 1) / 2 + c ≤ 11
    omega
/-- and seen from the other end -/
theorem lv_far {k c b : Int} (h : 0 ≤ k) (h' : k ≤ 3) (h1 : -2 ≤ c) (h2 : c ≤ 3) (hb : b = 14 ∨ b = 15) : Lv (b - pt k b + c) (2 - sl k) := by
  rcases k4 h h' with e | e | e | e <;> subst e
  · refine .inr (.inr ⟨rfl, ?_⟩)
    show 12 ≤ b - 0 + c ∧ b - 0 + c ≤ 19
    omega
  · refine .inl ⟨rfl, ?_⟩
    show -2 ≤ b - b + c ∧ b - b + c ≤ 3
    omega
  · refine .inr (.inl ⟨rfl, ?_⟩)
    show 5 ≤ b - b / 2 + c ∧ b - b / 2 + c ≤ 11
    omega
  · refine .inr (.inl ⟨rfl, ?_⟩)
    show 5 ≤ b - (b + 1) / 2 + c ∧ b - (b + 1) / 2 + c ≤ 11
    omega
def SB (t1 t2 u1 u2 : Int × Int × Int) (b s : Int) : Span := spanB t1 t2 u1 u2 (b + 2 * s)
theorem SB_a {t1 t2 u1 u2 : Int × Int × Int} (h : Flat t1) (b s : Int) : (SB t1 t2 u1 u2 b s).a = (pt t1.1 b + t1.2.2) + sl t1.1 * s := by
  show pt t1.1 (b + 2 * s) + t1.2.2 = _
  rw [pt_lin h.k0 h.k3]
  omega
theorem SB_b {t1 t2 u1 u2 : Int × Int × Int} (h : Flat t2) (b s : Int) : (SB t1 t2 u1 u2 b s).b = (pt t2.1 b + t2.2.2) + sl t2.1 * s := by
  show pt t2.1 (b + 2 * s) + t2.2.2 = _
  rw [pt_lin h.k0 h.k3]
  omega
theorem SB_l {t1 t2 u1 u2 : Int × Int × Int} (h : Inn u1) (b s : Int) : (SB t1 t2 u1 u2 b s).l = (pt u1.1 b + u1.2.2) + sl u1.1 * s := by
  show pt u1.1 (b + 2 * s) + u1.2.2 = _
  rw [pt_lin h.k0 h.k3]
  omega
theorem SB_h {t1 t2 u1 u2 : Int × Int × Int} (h : Inn u2) (b s : Int) : (SB t1 t2 u1 u2 b s).h = (pt u2.1 b + u2.2.2) + sl u2.1 * s := by
  show pt u2.1 (b + 2 * s) + u2.2.2 = _
  rw [pt_lin h.k0 h.k3]
  omega
/-- the ends of the rounds that are -/
structure Ends (t1 t2 u1 u2 : Int × Int × Int) (b p e : Int) (r t : Int) : Prop where
  lp : Lv p r
  le : Lv e t
  f : ∀ s, 0 ≤ s → (SB t1 t2 u1 u2 b s).ends.1 = p + r * s
  e : ∀ s, 0 ≤ s → (SB t1 t2 u1 u2 b s).ends.2 = e + t * s
theorem nar_pos1 (f e w : Int) : nar f e w 1 = (if -w > f then -w else f, e) := by
  unfold nar
  rw [if_pos (by decide), Int.ediv_one]
theorem nar_pos2 (f e w : Int) : nar f e w 2 = (if -(w / 2) > f then -(w / 2) else f, e) := by
  unfold nar
  rw [if_pos (by decide)]
theorem nar_neg1 (f e w : Int) : nar f e w (-1) = (f, if w + 1 < e then w + 1 else e) := by
  unfold nar
  rw [if_neg (by decide), if_pos (by decide)]
  show (f, if w / 1 + 1 < e then w / 1 + 1 else e) = _
  rw [Int.ediv_one]
theorem nar_neg2 (f e w : Int) : nar f e w (-2) = (f, if w / 2 + 1 < e then w / 2 + 1 else e) := by
  unfold nar
  rw [if_neg (by decide), if_pos (by decide)]
  rfl
theorem nar_zero (f e w : Int) : nar f e w 0 = (f, if 0 ≤ w then e else f) := by
  unfold nar
  rw [if_neg (by decide), if_neg (by decide)]
/-- from a lower end that is a line -/
theorem ends_pos {t1 t2 u1 u2 : Int × Int × Int} {b g v : Int} (h1 : Flat t1) (h2 : Flat t2) (hb : b = 14 ∨ b = 15) (hg : Lv g v)
    (h : ∀ s, 0 ≤ s → (SB t1 t2 u1 u2 b s).ends = (if g + v * s > (SB t1 t2 u1 u2 b s).a then g + v * s else (SB t1 t2 u1 u2 b s).a, (SB t1 t2 u1 u2 b s).b)) : ∃ p e r t, Ends t1 t2 u1 u2 b p e r t := by
  obtain ⟨r, hr, k⟩ := lv_max (lv_pt h1.k0 h1.k3 h1.c hb) hg
  refine ⟨_, _, r, _, hr, lv_pt h2.k0 h2.k3 h2.c hb, fun s hs => ?_, fun s hs => ?_⟩
  · rw [h s hs, SB_a h1]
    exact k s hs
  · rw [h s hs, SB_b h2]
theorem ends_neg {t1 t2 u1 u2 : Int × Int × Int} {b g v : Int} (h1 : Flat t1) (h2 : Flat t2) (hb : b = 14 ∨ b = 15) (hg : Lv g v)
    (h : ∀ s, 0 ≤ s → (SB t1 t2 u1 u2 b s).ends = ((SB t1 t2 u1 u2 b s).a, if g + v * s < (SB t1 t2 u1 u2 b s).b then g + v * s else (SB t1 t2 u1 u2 b s).b)) : ∃ p e r t, Ends t1 t2 u1 u2 b p e r t := by
  obtain ⟨r, hr, k⟩ := lv_min (lv_pt h2.k0 h2.k3 h2.c hb) hg
  refine ⟨_, _, _, r, lv_pt h1.k0 h1.k3 h1.c hb, hr, fun s hs => ?_, fun s hs => ?_⟩
  · rw [h s hs, SB_a h1]
  · rw [h s hs, SB_b h2]
    exact k s hs
theorem ends_zero {t1 t2 u1 u2 : Int × Int × Int} {b : Int} (h1 : Flat t1) (h2 : Flat t2) (hb : b = 14 ∨ b = 15) (c : Prop) [Decidable c]
    (h : ∀ s, 0 ≤ s → (SB t1 t2 u1 u2 b s).ends = ((SB t1 t2 u1 u2 b s).a, if c then (SB t1 t2 u1 u2 b s).b else (SB t1 t2 u1 u2 b s).a)) : ∃ p e r t, Ends t1 t2 u1 u2 b p e r t := by
  by_cases hc : c
  · refine ⟨_, _, _, _, lv_pt h1.k0 h1.k3 h1.c hb, lv_pt h2.k0 h2.k3 h2.c hb, fun s hs => ?_, fun s hs => ?_⟩
    · rw [h s hs, SB_a h1]
    · rw [h s hs, ← SB_b h2, if_pos hc]
  · refine ⟨_, _, _, _, lv_pt h1.k0 h1.k3 h1.c hb, lv_pt h1.k0 h1.k3 h1.c hb, fun s hs => ?_, fun s hs => ?_⟩
    · rw [h s hs, SB_a h1]
    · rw [h s hs, ← SB_a h1, if_neg hc]
theorem ends_lin {t1 t2 u1 u2 : Int × Int × Int} {b : Int} (h1 : Flat t1) (h2 : Flat t2) (h3 : Inn u1) (h4 : Inn u2) (hb : b = 14 ∨ b = 15) : ∃ p e r t, Ends t1 t2 u1 u2 b p e r t := by
  have c1 := h3.c
  have c2 := h4.c
  unfold Unit3 at c1 c2
  have en : ∀ s x, u2.2.1 - u1.2.1 = x → (SB t1 t2 u1 u2 b s).ends = nar (SB t1 t2 u1 u2 b s).a (SB t1 t2 u1 u2 b s).b ((pt u2.1 b + u2.2.2) + sl u2.1 * s - ((pt u1.1 b + u1.2.2) + sl u1.1 * s) - 1) x := fun s x e => by
    rw [← SB_h (t1 := t1) (t2 := t2) (u1 := u1) h4, ← SB_l (t1 := t1) (t2 := t2) (u2 := u2) h3, ← e]
    rfl
  rcases h3.s with z1 | ⟨z1, y1⟩ | ⟨z1, y1⟩ <;> rcases h4.s with z2 | ⟨z2, y2⟩ | ⟨z2, y2⟩ <;> rw [z1, z2] at en
  -- 0, 0
  · refine ends_zero h1 h2 hb (pt u1.1 b + u1.2.2 + 1 ≤ pt u2.1 b + u2.2.2) fun s hs => ?_
    rw [en s 0 rfl, nar_zero]
    have k : 0 ≤ (pt u2.1 b + u2.2.2) + sl u2.1 * s - ((pt u1.1 b + u1.2.2) + sl u1.1 * s) - 1 ↔ pt u1.1 b + u1.2.2 + 1 ≤ pt u2.1 b + u2.2.2 := by
      have z := lv_le (x := pt u1.1 b + (u1.2.2 + 1)) (lv_near h3.k0 h3.k3 (by omega) (by omega) hb) (lv_pt h4.k0 h4.k3 h4.c hb) hs
      omega
    simp only [k]
  -- 0, 1
  · refine ends_pos (g := pt u1.1 b + (u1.2.2 - u2.2.2 + 1)) (v := sl u1.1) h1 h2 hb (lv_near h3.k0 h3.k3 (by omega) (by omega) hb) fun s hs => ?_
    rw [en s 1 rfl, nar_pos1, y2]
    have k : -(pt 0 b + u2.2.2 + sl 0 * s - ((pt u1.1 b + u1.2.2) + sl u1.1 * s) - 1) = pt u1.1 b + (u1.2.2 - u2.2.2 + 1) + sl u1.1 * s := by
      show -(0 + u2.2.2 + 0 * s - ((pt u1.1 b + u1.2.2) + sl u1.1 * s) - 1) = _
      omega
    rw [k]
  -- 0, -1
  · refine ends_neg (g := b - pt u1.1 b + (u2.2.2 - u1.2.2)) (v := 2 - sl u1.1) h1 h2 hb (lv_far h3.k0 h3.k3 (by omega) (by omega) hb) fun s hs => ?_
    rw [en s (-1) rfl, nar_neg1, y2]
    have k : pt 1 b + u2.2.2 + sl 1 * s - ((pt u1.1 b + u1.2.2) + sl u1.1 * s) - 1 + 1 = b - pt u1.1 b + (u2.2.2 - u1.2.2) + (2 - sl u1.1) * s := by
      show b + u2.2.2 + 2 * s - ((pt u1.1 b + u1.2.2) + sl u1.1 * s) - 1 + 1 = _
      rw [Int.sub_mul]
      omega
    rw [k]
  -- 1, 0
  · refine ends_neg (g := pt u2.1 b + (u2.2.2 - u1.2.2)) (v := sl u2.1) h1 h2 hb (lv_near h4.k0 h4.k3 (by omega) (by omega) hb) fun s hs => ?_
    rw [en s (-1) rfl, nar_neg1, y1]
    have k : pt u2.1 b + u2.2.2 + sl u2.1 * s - (pt 0 b + u1.2.2 + sl 0 * s) - 1 + 1 = pt u2.1 b + (u2.2.2 - u1.2.2) + sl u2.1 * s := by
      show pt u2.1 b + u2.2.2 + sl u2.1 * s - (0 + u1.2.2 + 0 * s) - 1 + 1 = _
      omega
    rw [k]
  -- 1, 1
  · refine ends_zero h1 h2 hb (0 ≤ u2.2.2 - u1.2.2 - 1) fun s hs => ?_
    rw [en s 0 rfl, nar_zero, y1, y2]
    have k : pt 0 b + u2.2.2 + sl 0 * s - (pt 0 b + u1.2.2 + sl 0 * s) - 1 = u2.2.2 - u1.2.2 - 1 := by
      show 0 + u2.2.2 + 0 * s - (0 + u1.2.2 + 0 * s) - 1 = _
      omega
    rw [k]
  -- 1, -1
  · refine ends_neg (g := (b + (u2.2.2 - u1.2.2 - 1)) / 2 + 1) (v := 1) h1 h2 hb (.inr (.inl ⟨rfl, by omega, by omega⟩)) fun s hs => ?_
    rw [en s (-2) rfl, nar_neg2, y1, y2]
    have k : (pt 1 b + u2.2.2 + sl 1 * s - (pt 0 b + u1.2.2 + sl 0 * s) - 1) / 2 + 1 = (b + (u2.2.2 - u1.2.2 - 1)) / 2 + 1 + 1 * s := by
      show (b + u2.2.2 + 2 * s - (0 + u1.2.2 + 0 * s) - 1) / 2 + 1 = _
      omega
    rw [k]
  -- -1, 0
  · refine ends_pos (g := b - pt u2.1 b + (u1.2.2 - u2.2.2 + 1)) (v := 2 - sl u2.1) h1 h2 hb (lv_far h4.k0 h4.k3 (by omega) (by omega) hb) fun s hs => ?_
    rw [en s 1 rfl, nar_pos1, y1]
    have k : -(pt u2.1 b + u2.2.2 + sl u2.1 * s - (pt 1 b + u1.2.2 + sl 1 * s) - 1) = b - pt u2.1 b + (u1.2.2 - u2.2.2 + 1) + (2 - sl u2.1) * s := by
      show -(pt u2.1 b + u2.2.2 + sl u2.1 * s - (b + u1.2.2 + 2 * s) - 1) = _
      rw [Int.sub_mul]
      omega
    rw [k]
  -- -1, 1
  · refine ends_pos (g := -((u2.2.2 - b - u1.2.2 - 1) / 2)) (v := 1) h1 h2 hb (.inr (.inl ⟨rfl, by omega, by omega⟩)) fun s hs => ?_
    rw [en s 2 rfl, nar_pos2, y1, y2]
    have k : -((pt 0 b + u2.2.2 + sl 0 * s - (pt 1 b + u1.2.2 + sl 1 * s) - 1) / 2) = -((u2.2.2 - b - u1.2.2 - 1) / 2) + 1 * s := by
      show -((0 + u2.2.2 + 0 * s - (b + u1.2.2 + 2 * s) - 1) / 2) = _
      omega
    rw [k]
  -- -1, -1
  · refine ends_zero h1 h2 hb (0 ≤ u2.2.2 - u1.2.2 - 1) fun s hs => ?_
    rw [en s 0 rfl, nar_zero, y1, y2]
    have k : pt 1 b + u2.2.2 + sl 1 * s - (pt 1 b + u1.2.2 + sl 1 * s) - 1 = u2.2.2 - u1.2.2 - 1 := by
      show b + u2.2.2 + 2 * s - (b + u1.2.2 + 2 * s) - 1 = _
      omega
    rw [k]
end Sq
namespace Sq
open PySem L2 TL
theorem low_lin {t1 t2 u1 u2 : Int × Int × Int} {b s x r d : Int} (h : Inn u1) (hb : b = 14 ∨ b = 15) (hs : 0 ≤ s) (hx : Lv x r) (d1 : -1 ≤ d) (d2 : d ≤ 0) :
    (SB t1 t2 u1 u2 b s).l + (SB t1 t2 u1 u2 b s).ls * (x + r * s + d) < 0 ↔ (SB t1 t2 u1 u2 b 0).l + (SB t1 t2 u1 u2 b 0).ls * (x + d) < 0 := by
  rw [SB_l h, SB_l h]
  show (pt u1.1 b + u1.2.2) + sl u1.1 * s + u1.2.1 * (x + r * s + d) < 0 ↔ (pt u1.1 b + u1.2.2) + sl u1.1 * 0 + u1.2.1 * (x + d) < 0
  have hc := h.c
  unfold Unit3 at hc
  rcases h.s with z | ⟨z, y⟩ | ⟨z, y⟩
  · rw [z]
    rcases lv_pt h.k0 h.k3 h.c hb with ⟨e, k1, k2⟩ | ⟨e, k1, k2⟩ | ⟨e, k1, k2⟩ <;> rw [e] <;> omega
  · rw [z, y]
    show (0 + u1.2.2) + 0 * s + 1 * (x + r * s + d) < 0 ↔ (0 + u1.2.2) + 0 * 0 + 1 * (x + d) < 0
    rcases hx with ⟨e, k1, k2⟩ | ⟨e, k1, k2⟩ | ⟨e, k1, k2⟩ <;> subst e <;> omega
  · rw [z, y]
    show (b + u1.2.2) + 2 * s + -1 * (x + r * s + d) < 0 ↔ (b + u1.2.2) + 2 * 0 + -1 * (x + d) < 0
    rcases hx with ⟨e, k1, k2⟩ | ⟨e, k1, k2⟩ | ⟨e, k1, k2⟩ <;> subst e <;> omega
theorem high_lin {t1 t2 u1 u2 : Int × Int × Int} {b s x r d : Int} (h : Inn u2) (hb : b = 14 ∨ b = 15) (hs : 0 ≤ s) (hx : Lv x r) (d1 : -1 ≤ d) (d2 : d ≤ 0) :
    (SB t1 t2 u1 u2 b s).h + (SB t1 t2 u1 u2 b s).hs * (x + r * s + d) > b + 2 * s ↔ (SB t1 t2 u1 u2 b 0).h + (SB t1 t2 u1 u2 b 0).hs * (x + d) > b := by
  rw [SB_h h, SB_h h]
  show (pt u2.1 b + u2.2.2) + sl u2.1 * s + u2.2.1 * (x + r * s + d) > b + 2 * s ↔ (pt u2.1 b + u2.2.2) + sl u2.1 * 0 + u2.2.1 * (x + d) > b
  have hc := h.c
  unfold Unit3 at hc
  rcases h.s with z | ⟨z, y⟩ | ⟨z, y⟩
  · rw [z]
    rcases k4 h.k0 h.k3 with e | e | e | e <;> rw [e]
    · show (0 + u2.2.2) + 0 * s + 0 * (x + r * s + d) > b + 2 * s ↔ (0 + u2.2.2) + 0 * 0 + 0 * (x + d) > b
      omega
    · show (b + u2.2.2) + 2 * s + 0 * (x + r * s + d) > b + 2 * s ↔ (b + u2.2.2) + 2 * 0 + 0 * (x + d) > b
      omega
    · show (b / 2 + u2.2.2) + 1 * s + 0 * (x + r * s + d) > b + 2 * s ↔ (b / 2 + u2.2.2) + 1 * 0 + 0 * (x + d) > b
      omega
    · show ((b + 1) / 2 + u2.2.2) + 1 * s + 0 * (x + r * s + d) > b + 2 * s ↔ ((b + 1) / 2 + u2.2.2) + 1 * 0 + 0 * (x + d) > b
      omega
  · rw [z, y]
    show (0 + u2.2.2) + 0 * s + 1 * (x + r * s + d) > b + 2 * s ↔ (0 + u2.2.2) + 0 * 0 + 1 * (x + d) > b
    rcases hx with ⟨e, k1, k2⟩ | ⟨e, k1, k2⟩ | ⟨e, k1, k2⟩ <;> subst e <;> omega
  · rw [z, y]
    show (b + u2.2.2) + 2 * s + -1 * (x + r * s + d) > b + 2 * s ↔ (b + u2.2.2) + 2 * 0 + -1 * (x + d) > b
    rcases hx with ⟨e, k1, k2⟩ | ⟨e, k1, k2⟩ | ⟨e, k1, k2⟩ <;> subst e <;> omega
theorem falls_lin {t1 t2 u1 u2 : Int × Int × Int} {b s : Int} (h1 : Flat t1) (h2 : Flat t2) (h3 : Inn u1) (h4 : Inn u2) (hb : b = 14 ∨ b = 15) (hs : 0 ≤ s) : fallsB (SB t1 t2 u1 u2 b s) (b + 2 * s) = fallsB (SB t1 t2 u1 u2 b 0) b := by
  obtain ⟨p, e, r, t, E⟩ := ends_lin h1 h2 h3 h4 hb
  have f0 : (SB t1 t2 u1 u2 b 0).ends.1 = p := by rw [E.f 0 (Int.le_refl _)]; omega
  have e0 : (SB t1 t2 u1 u2 b 0).ends.2 = e := by rw [E.e 0 (Int.le_refl _)]; omega
  have lp := E.lp
  have le := E.le
  unfold fallsB
  rw [E.f s hs, E.e s hs, f0, e0]
  have d1 : decide (p + r * s ≤ e + t * s - 1) = decide (p ≤ e - 1) := decide_eq_decide.mpr (by have := lv_le le lp hs; omega)
  have d2 : decide (p + r * s < 0) = decide (p < 0) := decide_eq_decide.mpr (by rcases lp with ⟨e, k1, k2⟩ | ⟨e, k1, k2⟩ | ⟨e, k1, k2⟩ <;> subst e <;> omega)
  have d3 : decide (e + t * s - 1 ≥ b + 2 * s) = decide (e - 1 ≥ b) := decide_eq_decide.mpr (by rcases le with ⟨e, k1, k2⟩ | ⟨e, k1, k2⟩ | ⟨e, k1, k2⟩ <;> subst e <;> omega)
  have l1 := low_lin (t1 := t1) (t2 := t2) (u2 := u2) (d := 0) h3 hb hs lp (by decide) (by decide)
  have l2 := low_lin (t1 := t1) (t2 := t2) (u2 := u2) (d := -1) h3 hb hs le (by decide) (by decide)
  have g1 := high_lin (t1 := t1) (t2 := t2) (u1 := u1) (d := 0) h4 hb hs lp (by decide) (by decide)
  have g2 := high_lin (t1 := t1) (t2 := t2) (u1 := u1) (d := -1) h4 hb hs le (by decide) (by decide)
  rw [Int.add_zero, Int.add_zero] at l1 g1
  rw [d1, d2, d3, decide_eq_decide.mpr l1, decide_eq_decide.mpr g1]
  have l2' : decide ((SB t1 t2 u1 u2 b s).l + (SB t1 t2 u1 u2 b s).ls * (e + t * s - 1) < 0) = decide ((SB t1 t2 u1 u2 b 0).l + (SB t1 t2 u1 u2 b 0).ls * (e - 1) < 0) := decide_eq_decide.mpr l2
  have g2' : decide ((SB t1 t2 u1 u2 b s).h + (SB t1 t2 u1 u2 b s).hs * (e + t * s - 1) > b + 2 * s) = decide ((SB t1 t2 u1 u2 b 0).h + (SB t1 t2 u1 u2 b 0).hs * (e - 1) > b) := decide_eq_decide.mpr g2
  rw [l2', g2']
/-! ### the number of rounds -/
theorem even_cnt (f e w q : Int) : 2 * ((e - f) * (w + q * f + w + q * (e - 1)) / 2) = (e - f) * (w + q * f + w + q * (e - 1)) := by
  have h : (e - f) * (w + q * f + w + q * (e - 1)) = 2 * ((e - f) * w) + q * ((e - f) * (e + f - 1)) := by grind
  have h2 : (e - f) * (e + f - 1) % 2 = 0 := by
    rcases (show (e - f) % 2 = 0 ∨ (e + f - 1) % 2 = 0 by omega) with z | z
    · rw [Int.mul_emod, z, Int.zero_mul]
      rfl
    · rw [Int.mul_emod, z, Int.mul_zero]
      rfl
  have h3 : q * ((e - f) * (e + f - 1)) % 2 = 0 := by
    rw [Int.mul_emod, h2, Int.mul_zero]
    rfl
  rw [h]
  omega
theorem tri_even (s : Int) : 2 * (s * (s - 1) / 2) = s * (s - 1) := by
  have h2 : s * (s - 1) % 2 = 0 := by
    rcases (show s % 2 = 0 ∨ (s - 1) % 2 = 0 by omega) with z | z
    · rw [Int.mul_emod, z, Int.zero_mul]
      rfl
    · rw [Int.mul_emod, z, Int.mul_zero]
      rfl
  omega
theorem cnt_two {S : Span} (f e w q : Int) (hf : S.ends.1 = f) (he : S.ends.2 = e) (hw : S.h - S.l = w) (hq : S.hs - S.ls = q) : (f ≥ e → cntS S = 0) ∧ (f < e → 2 * cntS S = (e - f) * (w + q * f + w + q * (e - 1))) := by
  subst hf; subst he; subst hw; subst hq
  refine ⟨fun h => ?_, fun h => ?_⟩
  · unfold cntS
    rw [if_pos h]
  · unfold cntS
    rw [if_neg (by omega)]
    exact even_cnt _ _ _ _
/-- from the counts at three sizes on -/
def onw (x y z s : Int) : Int := x + s * (y - x) + s * (s - 1) / 2 * (z - 2 * y + x)
theorem onw_two {x y z s c : Int} (h : 2 * c = 2 * x + s * (2 * y - 2 * x) + s * (s - 1) / 2 * (2 * z - 2 * (2 * y) + 2 * x)) : c = onw x y z s := by
  unfold onw
  have k : 2 * (x + s * (y - x) + s * (s - 1) / 2 * (z - 2 * y + x)) = 2 * x + s * (2 * y - 2 * x) + s * (s - 1) / 2 * (2 * z - 2 * (2 * y) + 2 * x) := by grind
  omega
theorem cnt_lin {t1 t2 u1 u2 : Int × Int × Int} {b s : Int} (h1 : Flat t1) (h2 : Flat t2) (h3 : Inn u1) (h4 : Inn u2) (hb : b = 14 ∨ b = 15) (hs : 0 ≤ s) : cntS (SB t1 t2 u1 u2 b s) = onw (cntS (SB t1 t2 u1 u2 b 0)) (cntS (SB t1 t2 u1 u2 b 1)) (cntS (SB t1 t2 u1 u2 b 2)) s := by
  obtain ⟨p, e, r, t, E⟩ := ends_lin h1 h2 h3 h4 hb
  have wl : ∀ s, (SB t1 t2 u1 u2 b s).h - (SB t1 t2 u1 u2 b s).l = (pt u2.1 b + u2.2.2 - (pt u1.1 b + u1.2.2)) + (sl u2.1 - sl u1.1) * s := fun s => by
    rw [SB_l h3, SB_h h4, Int.sub_mul]
    omega
  generalize pt u2.1 b + u2.2.2 - (pt u1.1 b + u1.2.2) = w at wl
  generalize sl u2.1 - sl u1.1 = v at wl
  have all : ∀ s : Int, 0 ≤ s → _ := fun s hs => cnt_two (S := SB t1 t2 u1 u2 b s) _ _ _ _ (E.f s hs) (E.e s hs) (wl s) (rfl : u2.2.1 - u1.2.1 = _)
  have st : ∀ s : Int, 0 ≤ s → (p + r * s ≥ e + t * s ↔ p ≥ e) := fun s hs => lv_le E.le E.lp hs
  have a0 := all 0 (by decide)
  have a1 := all 1 (by decide)
  have a2 := all 2 (by decide)
  have as := all s hs
  have s0 := st 0 (by decide)
  have s1 := st 1 (by decide)
  have s2 := st 2 (by decide)
  have ss := st s hs
  by_cases hz : p ≥ e
  · rw [as.1 (ss.mpr hz), a0.1 (s0.mpr hz), a1.1 (s1.mpr hz), a2.1 (s2.mpr hz)]
    unfold onw
    simp
  · have b0 := a0.2 (Int.not_le.mp fun z => hz (s0.mp z))
    have b1 := a1.2 (Int.not_le.mp fun z => hz (s1.mp z))
    have b2 := a2.2 (Int.not_le.mp fun z => hz (s2.mp z))
    have bs := as.2 (Int.not_le.mp fun z => hz (ss.mp z))
    refine onw_two ?_
    have te := tri_even s
    generalize s * (s - 1) / 2 = m at te ⊢
    generalize u2.2.1 - u1.2.1 = q at b0 b1 b2 bs
    rw [bs, b0, b1, b2]
    clear bs b0 b1 b2 as a0 a1 a2 all st s0 s1 s2 ss E wl
    grind
end Sq
namespace Sq.N4
open PySem L2 TL
section
variable {P : Program} {w : World} {K : PySem.W.Frag} {mg : Str → Option Value} {base : Heap}
/-- a bound's value, as the law works it out -/
def evN (a : Nat) (n i : Int) : Int := ([0, n / 2, (n + 1) / 2, n, i, n - i].getD (a / 3) 0) + (a : Int) % 3 - 1
theorem bt_em : ∀ a : _root_.Fin 18, bt (em a.val) = (([0, 2, 3, 1, 0, 1] : List Int).getD (a.val / 3) 0, ([0, 0, 0, 0, 1, -1] : List Int).getD (a.val / 3) 0, ((a.val : Int) % 3) - 1) := by decide +kernel
theorem ev_bv {a : Nat} (h : a < 18) (n i : Int) : evN a n i = bv (em a) n i := by
  unfold evN bv
  rw [bt_em ⟨a, h⟩]
  show ([0, n / 2, (n + 1) / 2, n, i, n - i].getD (a / 3) 0) + (a : Int) % 3 - 1 = pt (([0, 2, 3, 1, 0, 1] : List Int).getD (a / 3) 0) n + ((a : Int) % 3 - 1) + (([0, 0, 0, 0, 1, -1] : List Int).getD (a / 3) 0) * i
  have h6 : a / 3 < 6 := by omega
  generalize a / 3 = k at *
  generalize (a : Int) % 3 = m at *
  rcases (show k = 0 ∨ k = 1 ∨ k = 2 ∨ k = 3 ∨ k = 4 ∨ k = 5 by omega) with e | e | e | e | e | e <;> subst e
  · show 0 + m - 1 = 0 + (m - 1) + 0 * i
    omega
  · show n / 2 + m - 1 = n / 2 + (m - 1) + 0 * i
    omega
  · show (n + 1) / 2 + m - 1 = (n + 1) / 2 + (m - 1) + 0 * i
    omega
  · show n + m - 1 = n + (m - 1) + 0 * i
    omega
  · show i + m - 1 = 0 + (m - 1) + 1 * i
    omega
  · show n - i + m - 1 = n + (m - 1) + -1 * i
    omega
theorem ev_le {a : Nat} (h : a < 18) {n i : Int} (n0 : 0 ≤ n) (n1 : n ≤ 19) (i0 : -1 ≤ i) (i1 : i ≤ 20) : -22 ≤ evN a n i ∧ evN a n i ≤ 21 := by
  unfold evN
  have h6 : a / 3 < 6 := by omega
  generalize a / 3 = k at *
  rcases (show k = 0 ∨ k = 1 ∨ k = 2 ∨ k = 3 ∨ k = 4 ∨ k = 5 by omega) with e | e | e | e | e | e <;> subst e
  · show -22 ≤ 0 + (a : Int) % 3 - 1 ∧ 0 + (a : Int) % 3 - 1 ≤ 21
    omega
  · show -22 ≤ n / 2 + (a : Int) % 3 - 1 ∧ n / 2 + (a : Int) % 3 - 1 ≤ 21
    omega
  · show -22 ≤ (n + 1) / 2 + (a : Int) % 3 - 1 ∧ (n + 1) / 2 + (a : Int) % 3 - 1 ≤ 21
    omega
  · show -22 ≤ n + (a : Int) % 3 - 1 ∧ n + (a : Int) % 3 - 1 ≤ 21
    omega
  · show -22 ≤ i + (a : Int) % 3 - 1 ∧ i + (a : Int) % 3 - 1 ≤ 21
    omega
  · show -22 ≤ n - i + (a : Int) % 3 - 1 ∧ n - i + (a : Int) % 3 - 1 ≤ 21
    omega
theorem ev_le0 {a : Nat} (h : a < 12) {n : Int} (n0 : 0 ≤ n) (n1 : n ≤ 19) : -1 ≤ evN a n 0 ∧ evN a n 0 ≤ 20 := by
  unfold evN
  have h6 : a / 3 < 4 := by omega
  generalize a / 3 = k at *
  rcases (show k = 0 ∨ k = 1 ∨ k = 2 ∨ k = 3 by omega) with e | e | e | e <;> subst e
  · show -1 ≤ 0 + (a : Int) % 3 - 1 ∧ 0 + (a : Int) % 3 - 1 ≤ 20
    omega
  · show -1 ≤ n / 2 + (a : Int) % 3 - 1 ∧ n / 2 + (a : Int) % 3 - 1 ≤ 20
    omega
  · show -1 ≤ (n + 1) / 2 + (a : Int) % 3 - 1 ∧ (n + 1) / 2 + (a : Int) % 3 - 1 ≤ 20
    omega
  · show -1 ≤ n + (a : Int) % 3 - 1 ∧ n + (a : Int) % 3 - 1 ≤ 20
    omega
def spEndV : Sp := fun vs H Q _ => ∃ (a : Nat) (n i : Int), vs = [.int (a : Int), .int n, .int i] ∧ a < 18 ∧ ∀ H', Same H H' → Q (.int (evN a n i)) H'
def spSteps : Sp := fun vs H Q _ => ∃ (t : Addr) (o : Nat × Nat × Nat) (n i : Int), vs = [.ref t, .int n, .int i] ∧ WalkV H t o ∧ o.1 < 18 ∧ o.2.1 < 18 ∧ 0 ≤ n ∧ n ≤ 19 ∧ -1 ≤ i ∧ i ≤ 20 ∧
  ∀ H' D, Same H H' → H' D = some (.lst (if decide (o.2.2 = 1) = true then (rgV (evN o.1 n i) (evN o.2.1 n i)).reverse else rgV (evN o.1 n i) (evN o.2.1 n i))) → Q (.ref D) H'
def rgI (a b : Int) : List Int := (List.range (b - a).toNat).map fun i => a + (i : Nat)
/-- how many turns a drawn nest has -/
def widN (q : Part) (n i : Int) : Nat := (evN q.u.2.1 n i - evN q.u.1 n i).toNat
def turnsN (q : Part) (n : Int) : Nat := ((rgI (evN q.o.1 n 0) (evN q.o.2.1 n 0)).map (widN q n)).sum
theorem rgV_I (a b : Int) : rgV a b = (rgI a b).map V.int := by
  unfold rgV rgI
  rw [List.map_map]
  rfl
theorem sum_rev (f : Int → Nat) (l : List Int) : (l.reverse.map f).sum = (l.map f).sum := by
  rw [List.map_reverse, List.sum_reverse]
theorem sum_lt {f : Int → Nat} {m : Nat} : ∀ (l : List Int), (∀ x ∈ l, f x ≤ m) → (l.map f).sum ≤ m * l.length
  | [], _ => Nat.zero_le _
  | x :: l, h => by
    have ih := sum_lt l fun y hy => h y (List.mem_cons_of_mem _ hy)
    have h1 := h x List.mem_cons_self
    rw [List.map_cons, List.sum_cons, List.length_cons, Nat.mul_add]
    omega
theorem rgI_mem {a b x : Int} (h : x ∈ rgI a b) : a ≤ x ∧ x < b := by
  unfold rgI at h
  obtain ⟨k, hk, rfl⟩ := List.mem_map.mp h
  have := List.mem_range.mp hk
  omega
theorem rgI_len (a b : Int) : (rgI a b).length = (b - a).toNat := by
  unfold rgI
  rw [List.length_map, List.length_range]
theorem up_rg (g : Int → Int) (a : Int) : ∀ m : Nat, upSum g a m = (((List.range m).map fun i => a + (i : Nat)).map fun i => (g i).toNat).sum
  | 0 => rfl
  | m + 1 => by
    show upSum g a m + (g (a + m)).toNat = _
    rw [up_rg g a m, List.range_succ, List.map_append, List.map_append, List.sum_append]
    simp
theorem span_at (q : Part) (n : Int) : spanOf n (toQ q) = ⟨pt (bt (em q.o.1)).1 n + (bt (em q.o.1)).2.2, pt (bt (em q.o.2.1)).1 n + (bt (em q.o.2.1)).2.2, pt (bt (em q.u.1)).1 n + (bt (em q.u.1)).2.2, (bt (em q.u.1)).2.1, pt (bt (em q.u.2.1)).1 n + (bt (em q.u.2.1)).2.2, (bt (em q.u.2.1)).2.1⟩ := rfl
theorem bv_zero (k : Nat) (n : Int) : bv k n 0 = pt (bt k).1 n + (bt k).2.2 := by
  unfold bv
  rw [Int.mul_zero, Int.add_zero]
theorem span_a {q : Part} (ok : PartOk q) (n : Int) : (spanOf n (toQ q)).a = evN q.o.1 n 0 := by
  rw [ev_bv (by have := ok.o1; omega), bv_zero]
  rfl
theorem span_b {q : Part} (ok : PartOk q) (n : Int) : (spanOf n (toQ q)).b = evN q.o.2.1 n 0 := by
  rw [ev_bv (by have := ok.o2; omega), bv_zero]
  rfl
theorem span_l {q : Part} (ok : PartOk q) (n i : Int) : (spanOf n (toQ q)).l + (spanOf n (toQ q)).ls * i = evN q.u.1 n i := by
  rw [ev_bv ok.u1]
  rfl
theorem span_h {q : Part} (ok : PartOk q) (n i : Int) : (spanOf n (toQ q)).h + (spanOf n (toQ q)).hs * i = evN q.u.2.1 n i := by
  rw [ev_bv ok.u2]
  rfl
theorem turns_tot {q : Part} (ok : PartOk q) (n : Int) : totS (spanOf n (toQ q)) = turnsN q n := by
  unfold totS turnsN rgI
  rw [up_rg, span_a ok, span_b ok]
  refine congrArg List.sum (List.map_congr_left fun i _ => ?_)
  unfold widN
  rw [span_l ok, span_h ok]
theorem turns_cnt {q : Part} (ok : PartOk q) (n : Int) : cntS (spanOf n (toQ q)) = (turnsN q n : Int) := by
  rw [cnt_tot (span_okQ ok.toQ n), turns_tot ok]
theorem turns_le {q : Part} (ok : PartOk q) {n : Int} (n0 : 0 ≤ n) (n1 : n ≤ 19) : turnsN q n ≤ 43 * 21 := by
  unfold turnsN
  have a := ev_le0 ok.o1 n0 n1
  have b := ev_le0 ok.o2 n0 n1
  refine Nat.le_trans (sum_lt (m := 43) _ fun x hx => ?_) (Nat.mul_le_mul_left _ ?_)
  · have h := rgI_mem hx
    have c := ev_le ok.u1 (i := x) n0 n1 (by omega) (by omega)
    have d := ev_le ok.u2 (i := x) n0 n1 (by omega) (by omega)
    unfold widN
    omega
  · rw [rgI_len]
    omega
def spTurns : Sp := fun vs H Q _ => ∃ (t : Addr) (q : Part) (n : Int), vs = [.ref t, .int n] ∧ PartV (fun _ => True) H t q ∧ PartOk q ∧ 0 ≤ n ∧ n ≤ 19 ∧ ∀ H' D (xs : List V), Same H H' → H' D = some (.lst xs) → xs.length = turnsN q n → Q (.ref D) H'
def spShut : Sp := fun vs H Q _ => ∃ (a : Addr) (qs : List Part) (n : Int), vs = [.ref a, .int n] ∧ PlanV H a qs ∧ (∀ q ∈ qs, PartOk q) ∧ 0 ≤ n ∧ n ≤ 19 ∧ Q (.bl (fallsQ (qs.map toQ) n)) H
theorem leaves_of {q : Part} (ok : PartOk q) {n i : Int} (h1 : evN q.o.1 n 0 ≤ i) (h2 : i < evN q.o.2.1 n 0) (h3 : evN q.u.1 n i < evN q.u.2.1 n i) (h4 : i < 0 ∨ evN q.u.1 n i < 0 ∨ n ≤ i ∨ n < evN q.u.2.1 n i) : fallsB (spanOf n (toQ q)) n = true := by
  refine (falls_iff (span_okQ ok.toQ n) n).mpr ⟨i, ?_, ?_, ?_, ?_⟩
  · rw [span_a ok]; exact h1
  · rw [span_b ok]; exact h2
  · rw [span_l ok, span_h ok]; exact h3
  · rw [span_l ok, span_h ok]; exact h4
theorem no_leaves {q : Part} (ok : PartOk q) {n : Int} (h : ∀ i, evN q.o.1 n 0 ≤ i → i < evN q.o.2.1 n 0 → evN q.u.1 n i < evN q.u.2.1 n i → ¬ (i < 0 ∨ evN q.u.1 n i < 0 ∨ n ≤ i ∨ n < evN q.u.2.1 n i)) : fallsB (spanOf n (toQ q)) n = false := by
  cases e : fallsB (spanOf n (toQ q)) n with
  | false => rfl
  | true =>
    obtain ⟨i, h1, h2, h3, h4⟩ := (falls_iff (span_okQ ok.toQ n) n).mp e
    rw [span_a ok] at h1
    rw [span_b ok] at h2
    rw [span_l ok, span_h ok] at h3
    rw [span_l ok, span_h ok] at h4
    exact absurd h4 (h i h1 h2 h3)
theorem fallsQ_take {qs : List Part} {n : Int} {i : Nat} {q : Part} (h : qs[i]? = some q) : fallsQ ((qs.take (i + 1)).map toQ) n = (fallsQ ((qs.take i).map toQ) n || fallsB (spanOf n (toQ q)) n) := by
  unfold fallsQ
  rw [List.take_add_one, h]
  simp
theorem fallsQ_mem {qs : List Part} {n : Int} {q : Part} (h : q ∈ qs) (e : fallsB (spanOf n (toQ q)) n = true) : fallsQ (qs.map toQ) n = true := by
  unfold fallsQ
  rw [List.any_eq_true]
  exact ⟨toQ q, List.mem_map_of_mem h, e⟩
def spShut2 : Sp := fun vs H Q _ => ∃ (a : Addr) (qs : List Part) (n : Int), vs = [.ref a, .int n] ∧ PlanV H a qs ∧ (∀ q ∈ qs, PartOk q) ∧ (n = 14 ∨ n = 15) ∧ ∀ H', Same H H' → Q (.bl (fallsQ (qs.map toQ) n)) H'
def spWide : Sp := fun vs H Q _ => ∃ (a : Addr) (qs : List Part) (n : Int), vs = [.ref a, .int n] ∧ PlanV H a qs ∧ (∀ q ∈ qs, PartOk q) ∧ 0 ≤ n ∧ n ≤ 19 ∧ ∀ H', Same H H' → Q (.int ((qs.map fun q => (turnsN q n : Int)).sum)) H'
theorem turns_rg (q : Part) (n : Int) : turnsN q n = (((List.range (evN q.o.2.1 n 0 - evN q.o.1 n 0).toNat).map fun i => evN q.o.1 n 0 + (i : Nat)).map (widN q n)).sum := rfl
theorem rg_take (a : Int) (m i : Nat) (g : Int → Nat) (h : i < m) : ((((List.range m).take (i + 1)).map fun i => a + (i : Nat)).map g).sum = ((((List.range m).take i).map fun i => a + (i : Nat)).map g).sum + g (a + i) := by
  rw [List.take_add_one, List.getElem?_range h, List.map_append, List.map_append, List.sum_append]
  simp
def spOnward : Sp := fun vs H Q _ => ∃ (a : Addr) (x y z s : Int), vs = [.ref a, .int s] ∧ H a = some (.lst [.int x, .int y, .int z]) ∧ 0 ≤ x ∧ x ≤ 10000 ∧ 0 ≤ y ∧ y ≤ 10000 ∧ 0 ≤ z ∧ z ≤ 10000 ∧ 0 ≤ s ∧ s ≤ big ∧ Q (.int (onw x y z s)) H
abbrev s__law_end : Stmt := top 52
theorem sc__law_end : FnScope ["_law_at", "_law_size", "_law_i", "_law_bases"] ["_law_at", "_law_size", "_law_i"] (defScope s__law_end) := ⟨rfl, rfl, rfl, by decide +kernel, rfl, by decide +kernel, by decide +kernel⟩
theorem ok__law_end {f : Addr} {fd : FuncData} (F : Fun K "_law_end" "_law_end" s__law_end f fd) (T : Bt mg)  : FnOk P w K mg base CX0 1 f fd ["_law_at", "_law_size", "_law_i"] spEndV := by
  refine F.ok sc__law_end (fun vs H Q E h => ?_) (fun cdv A outer s H vs Q E hr h => ?_)
  · obtain ⟨a, n, i, rfl, _⟩ := h
    rfl
  · obtain ⟨a, n, i, rfl, ha, q⟩ := h
    refine ⟨_, (pss_cons (ps_set (i := 3) sc__law_end.nd rfl (by first | exact .inl rfl | exact .inr rfl) (pe_lst (pa_cons pe_int (pa_cons (pe_op op_fdiv (pv 1) pe_int) (pa_cons (pe_op op_fdiv (pe_op op_add (pv 1) pe_int) pe_int) (pa_cons (pv 1) (pa_cons (pv 2) (pa_cons (pe_op op_sub (pv 1) (pv 2)) pa_nil))))))))
        (pss_one (ps_ret (pe_op op_sub (pe_op op_add (pe_ix ix_list (pv 3) (pe_op op_fdiv (pv 0) pe_int) (fun _ _ => rfl)) (pe_op op_mod (pe_callTy call_int1 (by rfl) T.int (by decide +kernel) (pa_cons (pv 0) pa_nil)) pe_int)) pe_int)))), ?_⟩
    have e1 : ((a : Int) / 3) = ((a / 3 : Nat) : Int) := by omega
    refine ⟨_, rfl, _, _, rfl, rfl, ⟨by decide, by decide⟩, _, rfl, _, _, rfl, rfl, _, _, rfl, rfl, ⟨by decide, by decide⟩, _, rfl, _, rfl, _, rfl, _, rfl, _, _, rfl, rfl, by show 6 ≤ sizeLine; decide, fun b nb => ?_⟩
    have hat : atI [V.int 0, .int (n / 2), .int ((n + 1) / 2), .int n, .int i, .int (n - i)] ((a : Int) / 3) = some (.int ([0, n / 2, (n + 1) / 2, n, i, n - i].getD (a / 3) 0)) := by
      rw [e1]
      refine atI_nat ?_
      have h6 : a / 3 < 6 := by omega
      generalize a / 3 = k at *
      rcases (show k = 0 ∨ k = 1 ∨ k = 2 ∨ k = 3 ∨ k = 4 ∨ k = 5 by omega) with e | e | e | e | e | e <;> subst e <;> rfl
    refine ⟨_, rfl, _, rfl, _, _, rfl, rfl, ⟨by decide, by decide⟩, b, _, _, _, rfl, rfl, SqL.of upd_same, hat, ?_⟩
    refine ⟨_, rfl, .inl ⟨_, rfl, _, _, rfl, rfl, (by show (0 : Int) < 3; decide), _, _, rfl, rfl, _, _, rfl, rfl, ?_⟩⟩
    exact q _ (same_new nb)
abbrev s__law_shut : Stmt := top 53
theorem sc__law_shut : FnScope ["_law_actor", "_law_size", "_law_at", "_law_outer", "_law_inner", "_law_deeds", "_law_i", "_law_low", "_law_high"] ["_law_actor", "_law_size"] (defScope s__law_shut) := ⟨rfl, rfl, rfl, by decide +kernel, rfl, by decide +kernel, by decide +kernel⟩
theorem ok__law_shut {f : Addr} {fd : FuncData} (F : Fun K "_law_shut" "_law_shut" s__law_shut f fd) (T : Bt mg) (G__law_end : FB P w K mg base "_law_end" 1 ["_law_at", "_law_size", "_law_i"] spEndV) : FnOk P w K mg base CX0 2 f fd ["_law_actor", "_law_size"] spShut2 := by
  refine F.ok sc__law_shut (fun vs H Q E h => ?_) (fun cdv A outer s H vs Q E hr h => ?_)
  · obtain ⟨D, qs, n, rfl, _⟩ := h
    rfl
  · obtain ⟨D, qs, n, rfl, ⟨ts, hD, hts⟩, ok, n15, q⟩ := h
    refine ⟨_, (pss_cons (ps_if (pt_val (pe_callB call_isi (by rfl) T.isinstance (by decide +kernel) (pa_cons (pv 0) (pa_cons (pe_bltn (v := .ty "int") (by rfl) T.int (by decide +kernel) rfl) pa_nil))))
        (pss_one (ps_ret pe_bl))
        pss_nil)
        (pss_cons (ps_set (i := 2) sc__law_shut.nd rfl (by first | exact .inl rfl | exact .inr rfl) (pe_ifExp (pt_cmpR op_lt (pv 1) pe_int (nomark _)) (pv 1) (pe_op op_add pe_int (pe_op op_mod (pe_callTy call_int1 (by rfl) T.int (by decide +kernel) (pa_cons (pv 1) pa_nil)) pe_int))))
        (pss_cons (ps_for PassesOwn.never rfl (pi_list (pv 0)) (pg_tup (by rfl) (pgs_cons (pg_name (i := 3) sc__law_shut.nd rfl (by first | exact .inl rfl | exact .inr rfl)) (pgs_cons (pg_name (i := 4) sc__law_shut.nd rfl (by first | exact .inl rfl | exact .inr rfl)) (pgs_cons (pg_name (i := 5) sc__law_shut.nd rfl (by first | exact .inl rfl | exact .inr rfl)) pgs_nil))))
        (pss_one (ps_for PassesOwn.never rfl (pi_range2 (by rfl) T.range (pa_cons (pe_fb G__law_end hr (by decide) (by rfl) (pa_cons (pe_ix ix_tup (pv 3) pe_int (fun _ _ => rfl)) (pa_cons (pv 2) (pa_cons pe_int pa_nil)))) (pa_cons (pe_fb G__law_end hr (by decide) (by rfl) (pa_cons (pe_ix ix_tup (pv 3) pe_int (fun _ _ => rfl)) (pa_cons (pv 2) (pa_cons pe_int pa_nil)))) pa_nil))) (pg_name (i := 6) sc__law_shut.nd rfl (by first | exact .inl rfl | exact .inr rfl))
        (pss_cons (ps_par (i := 7) (j := 8) (by rfl) sc__law_shut.nd rfl rfl (by decide) rfl rfl (pa_cons (pe_fb G__law_end hr (by decide) (by rfl) (pa_cons (pe_ix ix_tup (pv 4) pe_int (fun _ _ => rfl)) (pa_cons (pv 2) (pa_cons (pv 6) pa_nil)))) (pa_cons (pe_fb G__law_end hr (by decide) (by rfl) (pa_cons (pe_ix ix_tup (pv 4) pe_int (fun _ _ => rfl)) (pa_cons (pv 2) (pa_cons (pv 6) pa_nil)))) pa_nil)) (by rfl))
        (pss_one (ps_if (PW.pt (pw_and (pt_cmpR op_lt (pv 7) (pv 8) (nomark _)) (pw_and1 (PW.pt (pw_or (pt_cmpR op_lt (pe_callB (call_min2 rfl) (by rfl) T.min (by decide +kernel) (pa_cons (pv 6) (pa_cons (pv 7) pa_nil))) pe_int (nomark _)) (pw_or1 (pt_cmpR op_ge (pe_callB (call_max2 rfl) (by rfl) T.max (by decide +kernel) (pa_cons (pv 6) (pa_cons (pe_op op_sub (pv 8) pe_int) pa_nil))) (pv 2) (nomark _))))))))
        (pss_one (ps_ret pe_bl))
        pss_nil))))))
        (pss_one (ps_ret pe_bl))))), ?_⟩
    have bigL : 10000 ≤ sizeLine := by decide
    have n0 : 0 ≤ n := by omega
    have n1 : n ≤ 19 := by omega
    refine ⟨_, rfl, _, _, .type "list", _, false, rfl, .ty "int", .base (.lst hD), kit_ty (by decide +kernel), _, rfl, ?_⟩
    refine iteF ?_
    refine ⟨_, rfl, _, _, rfl, rfl, _, rfl, ?_⟩
    rw [decide_eq_false (show ¬ n < 14 by omega)]
    refine iteF ?_
    refine ⟨_, rfl, .inl ⟨_, rfl, _, _, rfl, rfl, (by show (0 : Int) < 2; decide), _, _, rfl, rfl, ?_⟩⟩
    have en : 14 + n % 2 = n := by omega
    dsimp only
    rw [en]
    simp only [L2.start, List.map_cons, List.map_nil, List.length_cons, List.length_nil, Nat.reduceAdd, Nat.reduceSub, List.replicate_succ, List.replicate_zero, List.cons_append, List.nil_append, List.set_cons_zero, List.set_cons_succ]
    refine ⟨_, rfl, D, rfl, ⟨_, SqL.of hD⟩, ?_⟩
    refine for_list (xs := ts.map V.ref) (fun i σ H' => (∃ v3 v4 v5 v6 v7 v8, σ = [some (.ref D), some (.int n), some (.int n), v3, v4, v5, v6, v7, v8]) ∧ Same H H' ∧ fallsQ ((qs.take i).map toQ) n = false) ⟨⟨_, _, _, _, _, _, rfl⟩, Same.refl _, rfl⟩ (fun i σ H' _ h => SqL.of (h.2.1 _ _ hD)) (fun i x σ H' hi h => ?_) (fun σ H' h => ?_)
    · obtain ⟨⟨v3, v4, v5, v6, v7, v8, rfl⟩, sm, hno⟩ := h
      obtain ⟨t, ht, rfl⟩ : ∃ t, ts[i]? = some t ∧ x = .ref t := by
        rw [List.getElem?_map] at hi
        cases e : ts[i]? with
        | none => rw [e] at hi; cases hi
        | some r => rw [e] at hi; exact ⟨r, rfl, (Option.some.inj hi).symm⟩
      obtain ⟨p, hqi, o, u, l, as, _, _, _, _, h1, h2, h3, h4, h6⟩ := hts.get i t ht
      have okp := ok p (List.mem_of_getElem? hqi)
      have o1 := okp.o1
      have o2 := okp.o2
      have a0 := ev_le0 okp.o1 n0 n1
      have b0 := ev_le0 okp.o2 n0 n1
      refine ⟨t, _, rfl, SqT.of (sm _ _ h1), rfl, _, _, rfl, _, _, rfl, _, _, rfl, rfl, ?_⟩
      simp only [L2.start, List.map_cons, List.map_nil, List.length_cons, List.length_nil, Nat.reduceAdd, Nat.reduceSub, List.replicate_succ, List.replicate_zero, List.cons_append, List.nil_append, List.set_cons_zero, List.set_cons_succ]
      refine ⟨_, rfl, o, _, 0, _, rfl, rfl, SqT.of (sm _ _ h2), rfl, _, rfl, p.o.1, n, 0, rfl, by omega, fun HA sA => ?_⟩
      refine ⟨_, rfl, o, _, 1, _, rfl, rfl, SqT.of (sA _ _ (sm _ _ h2)), rfl, _, rfl, p.o.2.1, n, 0, rfl, by omega, fun HB sB => ?_⟩
      refine ⟨_, _, rfl, ⟨by omega, by omega, by omega, by omega⟩, ?_⟩
      have sC := (sm.trans sA).trans sB
      refine for_range (lo := evN p.o.1 n 0) (n := (evN p.o.2.1 n 0 - evN p.o.1 n 0).toNat) (fun k σ H' => (∃ v6 v7 v8, σ = [some (.ref D), some (.int n), some (.int n), some (.ref o), some (.ref u), some (.ref l), v6, v7, v8]) ∧ Same H H' ∧ ∀ j : Nat, j < k → evN p.u.1 n (evN p.o.1 n 0 + j) < evN p.u.2.1 n (evN p.o.1 n 0 + j) → ¬ (evN p.o.1 n 0 + j < 0 ∨ evN p.u.1 n (evN p.o.1 n 0 + j) < 0 ∨ n ≤ evN p.o.1 n 0 + j ∨ n < evN p.u.2.1 n (evN p.o.1 n 0 + j)))
        ⟨⟨_, _, _, rfl⟩, sC, fun j hj => absurd hj (Nat.not_lt_zero _)⟩ (fun k σ H' hk h => ?_) (fun σ H' h => ?_)
      · obtain ⟨⟨v6, v7, v8, rfl⟩, sk, hprev⟩ := h
        generalize hy : evN p.o.1 n 0 + (k : Int) = y
        have hlo : evN p.o.1 n 0 ≤ y := by omega
        have hhi : y < evN p.o.2.1 n 0 := by omega
        refine ⟨_, rfl, u, _, 0, _, rfl, rfl, SqT.of (sk _ _ h3), rfl, _, rfl, _, rfl, p.u.1, n, y, rfl, okp.u1, fun H2 s2 => ?_⟩
        refine ⟨_, rfl, u, _, 1, _, rfl, rfl, SqT.of (s2 _ _ (sk _ _ h3)), rfl, _, rfl, _, rfl, p.u.2.1, n, y, rfl, okp.u2, fun H3 s3 => ⟨_, _, rfl, ?_⟩⟩
        simp only [L2.start, List.map_cons, List.map_nil, List.length_cons, List.length_nil, Nat.reduceAdd, Nat.reduceSub, List.replicate_succ, List.replicate_zero, List.cons_append, List.nil_append, List.set_cons_zero, List.set_cons_succ]
        have sE := (sk.trans s2).trans s3
        have next : (evN p.u.1 n y < evN p.u.2.1 n y → ¬ (y < 0 ∨ evN p.u.1 n y < 0 ∨ n ≤ y ∨ n < evN p.u.2.1 n y)) → ∀ j : Nat, j < k + 1 → evN p.u.1 n (evN p.o.1 n 0 + j) < evN p.u.2.1 n (evN p.o.1 n 0 + j) → ¬ (evN p.o.1 n 0 + j < 0 ∨ evN p.u.1 n (evN p.o.1 n 0 + j) < 0 ∨ n ≤ evN p.o.1 n 0 + j ∨ n < evN p.u.2.1 n (evN p.o.1 n 0 + j)) := fun hz j hj => by
          by_cases e : j = k
          · subst e
            rw [hy]
            exact hz
          · exact hprev j (by omega)
        have yes : evN p.u.1 n y < evN p.u.2.1 n y → (y < 0 ∨ evN p.u.1 n y < 0 ∨ n ≤ y ∨ n < evN p.u.2.1 n y) → Q (.bl true) H3 := fun g1 g2 => by
          have z := q H3 sE
          rw [fallsQ_mem (List.mem_of_getElem? hqi) (leaves_of okp hlo hhi g1 g2)] at z
          exact z
        refine if_ ?_
        refine ⟨_, rfl, _, rfl, _, _, rfl, rfl, _, rfl, ?_⟩
        by_cases g1 : evN p.u.1 n y < evN p.u.2.1 n y
        · rw [decide_eq_true g1]
          refine iteT ?_
          refine ⟨_, rfl, _, rfl, _, _, rfl, _, _, rfl, rfl, _, rfl, ?_⟩
          by_cases g2 : (if evN p.u.1 n y < y then evN p.u.1 n y else y) < 0
          · rw [decide_eq_true g2]
            refine iteT (iteT ?_)
            refine yes g1 ?_
            split at g2
            · exact .inr (.inl g2)
            · exact .inl g2
          · rw [decide_eq_false g2]
            refine iteF ?_
            refine ⟨_, rfl, _, rfl, _, _, rfl, rfl, _, _, rfl, _, rfl, _, _, rfl, rfl, _, rfl, ?_⟩
            by_cases g3 : (if evN p.u.2.1 n y - 1 > y then evN p.u.2.1 n y - 1 else y) ≥ n
            · rw [decide_eq_true g3]
              refine iteT ?_
              refine yes g1 ?_
              split at g3
              · exact .inr (.inr (.inr (by omega)))
              · exact .inr (.inr (.inl g3))
            · rw [decide_eq_false g3]
              refine iteF ?_
              refine ⟨⟨_, _, _, rfl⟩, sE, next fun _ hz => ?_⟩
              split at g2 <;> split at g3 <;> omega
        · rw [decide_eq_false g1]
          refine iteF (iteF ?_)
          exact ⟨⟨_, _, _, rfl⟩, sE, next fun g => absurd g g1⟩
      · obtain ⟨⟨v6, v7, v8, rfl⟩, sk, hprev⟩ := h
        refine ⟨⟨_, _, _, _, _, _, rfl⟩, sk, ?_⟩
        rw [fallsQ_take hqi, hno, Bool.false_or]
        refine no_leaves okp fun y y1 y2 => ?_
        have z := hprev (y - evN p.o.1 n 0).toNat (by omega)
        rw [show evN p.o.1 n 0 + (((y - evN p.o.1 n 0).toNat : Nat) : Int) = y by omega] at z
        exact z
    · obtain ⟨_, sm, hno⟩ := h
      have z := q H' sm
      rw [List.length_map, hts.len, List.take_length] at hno
      rw [hno] at z
      exact z
abbrev s__law_wide : Stmt := top 54
theorem sc__law_wide : FnScope ["_law_plan", "_law_size", "_law_found", "_law_outer", "_law_inner", "_law_deeds", "_law_i"] ["_law_plan", "_law_size"] (defScope s__law_wide) := ⟨rfl, rfl, rfl, by decide +kernel, rfl, by decide +kernel, by decide +kernel⟩
theorem ok__law_wide {f : Addr} {fd : FuncData} (F : Fun K "_law_wide" "_law_wide" s__law_wide f fd) (T : Bt mg) (G__law_end : FB P w K mg base "_law_end" 1 ["_law_at", "_law_size", "_law_i"] spEndV) : FnOk P w K mg base CX0 2 f fd ["_law_plan", "_law_size"] spWide := by
  refine F.ok sc__law_wide (fun vs H Q E h => ?_) (fun cdv A outer s H vs Q E hr h => ?_)
  · obtain ⟨D, qs, n, rfl, _⟩ := h
    rfl
  · obtain ⟨D, qs, n, rfl, ⟨ts, hD, hts⟩, ok, n0, n1, q⟩ := h
    refine ⟨_, (pss_cons (ps_set (i := 2) sc__law_wide.nd rfl (by first | exact .inl rfl | exact .inr rfl) pe_int)
        (pss_cons (ps_for PassesOwn.never rfl (pi_list (pv 0)) (pg_tup (by rfl) (pgs_cons (pg_name (i := 3) sc__law_wide.nd rfl (by first | exact .inl rfl | exact .inr rfl)) (pgs_cons (pg_name (i := 4) sc__law_wide.nd rfl (by first | exact .inl rfl | exact .inr rfl)) (pgs_cons (pg_name (i := 5) sc__law_wide.nd rfl (by first | exact .inl rfl | exact .inr rfl)) pgs_nil))))
        (pss_one (ps_for PassesOwn.never rfl (pi_range2 (by rfl) T.range (pa_cons (pe_fb G__law_end hr (by decide) (by rfl) (pa_cons (pe_ix ix_tup (pv 3) pe_int (fun _ _ => rfl)) (pa_cons (pv 1) (pa_cons pe_int pa_nil)))) (pa_cons (pe_fb G__law_end hr (by decide) (by rfl) (pa_cons (pe_ix ix_tup (pv 3) pe_int (fun _ _ => rfl)) (pa_cons (pv 1) (pa_cons pe_int pa_nil)))) pa_nil))) (pg_name (i := 6) sc__law_wide.nd rfl (by first | exact .inl rfl | exact .inr rfl))
        (pss_one (ps_set (i := 2) sc__law_wide.nd rfl (by first | exact .inl rfl | exact .inr rfl) (pe_op op_add (pv 2) (pe_callB (call_max2 rfl) (by rfl) T.max (by decide +kernel) (pa_cons pe_int (pa_cons (pe_op op_sub (pe_fb G__law_end hr (by decide) (by rfl) (pa_cons (pe_ix ix_tup (pv 4) pe_int (fun _ _ => rfl)) (pa_cons (pv 1) (pa_cons (pv 6) pa_nil)))) (pe_fb G__law_end hr (by decide) (by rfl) (pa_cons (pe_ix ix_tup (pv 4) pe_int (fun _ _ => rfl)) (pa_cons (pv 1) (pa_cons (pv 6) pa_nil))))) pa_nil)))))))))
        (pss_one (ps_ret (pv 2))))), ?_⟩
    refine ⟨_, rfl, D, rfl, ⟨_, SqL.of hD⟩, ?_⟩
    refine for_list (xs := ts.map V.ref) (fun i σ H' => (∃ v3 v4 v5 v6, σ = [some (.ref D), some (.int n), some (.int (((qs.take i).map fun q => (turnsN q n : Int)).sum)), v3, v4, v5, v6]) ∧ Same H H') ⟨⟨_, _, _, _, rfl⟩, Same.refl _⟩ (fun i σ H' _ h => SqL.of (h.2 _ _ hD)) (fun i x σ H' hi h => ?_) (fun σ H' h => ?_)
    · obtain ⟨⟨v3, v4, v5, v6, rfl⟩, sm⟩ := h
      obtain ⟨t, ht, rfl⟩ : ∃ t, ts[i]? = some t ∧ x = .ref t := by
        rw [List.getElem?_map] at hi
        cases e : ts[i]? with
        | none => rw [e] at hi; cases hi
        | some r => rw [e] at hi; exact ⟨r, rfl, (Option.some.inj hi).symm⟩
      obtain ⟨p, hqi, o, u, l, as, _, _, _, _, h1, h2, h3, h4, h6⟩ := hts.get i t ht
      have okp := ok p (List.mem_of_getElem? hqi)
      have o1 := okp.o1
      have o2 := okp.o2
      have a0 := ev_le0 okp.o1 n0 n1
      have b0 := ev_le0 okp.o2 n0 n1
      refine ⟨t, _, rfl, SqT.of (sm _ _ h1), rfl, _, _, rfl, _, _, rfl, _, _, rfl, rfl, ?_⟩
      simp only [L2.start, List.map_cons, List.map_nil, List.length_cons, List.length_nil, Nat.reduceAdd, Nat.reduceSub, List.replicate_succ, List.replicate_zero, List.cons_append, List.nil_append, List.set_cons_zero, List.set_cons_succ]
      refine ⟨_, rfl, o, _, 0, _, rfl, rfl, SqT.of (sm _ _ h2), rfl, _, rfl, p.o.1, n, 0, rfl, by omega, fun HA sA => ?_⟩
      refine ⟨_, rfl, o, _, 1, _, rfl, rfl, SqT.of (sA _ _ (sm _ _ h2)), rfl, _, rfl, p.o.2.1, n, 0, rfl, by omega, fun HB sB => ?_⟩
      refine ⟨_, _, rfl, ⟨by omega, by omega, by omega, by omega⟩, ?_⟩
      have sC := (sm.trans sA).trans sB
      generalize hA0 : ((qs.take i).map fun q => (turnsN q n : Int)).sum = A0
      refine for_range (lo := evN p.o.1 n 0) (n := (evN p.o.2.1 n 0 - evN p.o.1 n 0).toNat) (fun k σ H' => (∃ v6, σ = [some (.ref D), some (.int n), some (.int (A0 + (((((List.range (evN p.o.2.1 n 0 - evN p.o.1 n 0).toNat).take k).map fun i => evN p.o.1 n 0 + (i : Nat)).map (widN p n)).sum : Nat))), some (.ref o), some (.ref u), some (.ref l), v6]) ∧ Same H H')
        ⟨⟨v6, by simp⟩, sC⟩ (fun k σ H' hk h => ?_) (fun σ H' h => ?_)
      · obtain ⟨⟨v6, rfl⟩, sk⟩ := h
        have rt := rg_take (evN p.o.1 n 0) _ k (widN p n) hk
        generalize hy : evN p.o.1 n 0 + (k : Int) = y at rt
        refine ⟨_, rfl, ?_⟩
        refine ⟨_, rfl, u, _, 1, _, rfl, rfl, SqT.of (sk _ _ h3), rfl, _, rfl, _, rfl, p.u.2.1, n, y, rfl, okp.u2, fun H2 s2 => ?_⟩
        refine ⟨_, rfl, u, _, 0, _, rfl, rfl, SqT.of (s2 _ _ (sk _ _ h3)), rfl, _, rfl, _, rfl, p.u.1, n, y, rfl, okp.u1, fun H3 s3 => ?_⟩
        refine ⟨_, _, rfl, rfl, _, _, rfl, _, _, rfl, rfl, ?_⟩
        refine ⟨⟨some (.int y), ?_⟩, (sk.trans s2).trans s3⟩
        rw [rt]
        refine congrArg (fun z => [some (V.ref D), some (.int n), some (.int z), some (.ref o), some (.ref u), some (.ref l), some (.int y)]) ?_
        unfold widN
        split <;> omega
      · obtain ⟨⟨v6, rfl⟩, sk⟩ := h
        refine ⟨⟨some (.ref o), some (.ref u), some (.ref l), v6, ?_⟩, sk⟩
        rw [List.take_of_length_le (by rw [List.length_range]; exact Nat.le_refl _), ← turns_rg, List.take_add_one, hqi, List.map_append, List.sum_append, hA0]
        simp
    · obtain ⟨⟨v3, v4, v5, v6, rfl⟩, sm⟩ := h
      have z := q H' sm
      refine ⟨_, rfl, ?_⟩
      rw [List.length_map, hts.len, List.take_length]
      exact z
abbrev s__law_onward : Stmt := top 55
theorem sc__law_onward : FnScope ["_law_some", "_law_steps", "_law_first", "_law_second"] ["_law_some", "_law_steps"] (defScope s__law_onward) := ⟨rfl, rfl, rfl, by decide +kernel, rfl, by decide +kernel, by decide +kernel⟩
theorem ok__law_onward {f : Addr} {fd : FuncData} (F : Fun K "_law_onward" "_law_onward" s__law_onward f fd) (T : Bt mg)  : FnOk P w K mg base CX0 1 f fd ["_law_some", "_law_steps"] spOnward := by
  refine F.ok sc__law_onward (fun vs H Q E h => ?_) (fun cdv A outer s H vs Q E hr h => ?_)
  · obtain ⟨a, x, y, z, s, rfl, _⟩ := h
    rfl
  · obtain ⟨a, x, y, z, s, rfl, ha, x0, x1, y0, y1, z0, z1, s0, s1, q⟩ := h
    refine ⟨_, (pss_cons (ps_par (i := 2) (j := 3) (by rfl) sc__law_onward.nd rfl rfl (by decide) rfl rfl (pa_cons (pe_op op_sub (pe_ix ix_list (pv 0) pe_int (fun _ _ => rfl)) (pe_ix ix_list (pv 0) pe_int (fun _ _ => rfl))) (pa_cons (pe_op op_add (pe_op op_sub (pe_ix ix_list (pv 0) pe_int (fun _ _ => rfl)) (pe_op op_mulW pe_int (pe_ix ix_list (pv 0) pe_int (fun _ _ => rfl)))) (pe_ix ix_list (pv 0) pe_int (fun _ _ => rfl))) pa_nil)) (by rfl))
        (pss_one (ps_ret (pe_op op_add (pe_op op_add (pe_ix ix_list (pv 0) pe_int (fun _ _ => rfl)) (pe_op op_mulW (pv 1) (pv 2))) (pe_op op_mulW (pe_op op_fdiv (pe_op op_mulW (pv 1) (pe_op op_sub (pv 1) pe_int)) pe_int) (pv 3)))))), ?_⟩
    have lb := lim_big
    have ll := lim_le
    have l0 : (10000000000 : Int) ≤ lim := by decide +kernel
    have l2 : lim * lim ≤ lim * lim * lim := by decide +kernel
    have m1 : CMulW 2 y := cmW (by omega) (by omega) (by omega) (by omega)
    have m2 : CMulW s (y - x) := cmW (by omega) (by omega) (by omega) (by omega)
    have m3 : CMulW s (s - 1) := cmW (by omega) (by omega) (by omega) (by omega)
    have sq : 0 ≤ s * (s - 1) + lim ∧ s * (s - 1) ≤ lim * lim := by
      by_cases h : s = 0
      · subst h
        exact ⟨by omega, by decide +kernel⟩
      · have p1 := Int.mul_nonneg s0 (show 0 ≤ s - 1 by omega)
        have p2 := Int.mul_le_mul (show s ≤ lim by omega) (show s - 1 ≤ lim by omega) (by omega) (by omega)
        omega
    have m4 : CMulW (s * (s - 1) / 2) (z - 2 * y + x) := cmW (by omega) (by omega) (by omega) (by omega)
    refine ⟨_, rfl, a, _, 1, _, rfl, rfl, SqL.of ha, rfl, _, rfl, a, _, 0, _, rfl, rfl, SqL.of ha, rfl, _, _, rfl, rfl, _, rfl, a, _, 2, _, rfl, rfl, SqL.of ha, rfl, _, rfl, a, _, 1, _, rfl, rfl, SqL.of ha, rfl, _, _, rfl, rfl, m1, _, _, rfl, rfl, _, rfl, a, _, 0, _, rfl, rfl, SqL.of ha, rfl, _, _, rfl, rfl, _, _, rfl, ?_⟩
    simp only [L2.start, List.map_cons, List.map_nil, List.length_cons, List.length_nil, Nat.reduceAdd, Nat.reduceSub, List.replicate_succ, List.replicate_zero, List.cons_append, List.nil_append, List.set_cons_zero, List.set_cons_succ]
    refine ⟨_, rfl, a, _, 0, _, rfl, rfl, SqL.of ha, rfl, _, rfl, _, rfl, _, _, rfl, rfl, m2, _, _, rfl, rfl, _, rfl, _, rfl, _, _, rfl, rfl, _, _, rfl, rfl, m3, _, _, rfl, rfl, ⟨by decide, by decide⟩, _, rfl, _, _, rfl, rfl, m4, _, _, rfl, rfl, ?_⟩
    exact q
abbrev s__law_far : Stmt := top 66
theorem sc__law_far : FnScope ["_law_purl_here", "_law_figures", "_law_found", "_law_k"] ["_law_purl_here"] (defScope s__law_far) := ⟨rfl, rfl, rfl, by decide +kernel, rfl, by decide +kernel, by decide +kernel⟩
theorem ok__law_far {f : Addr} {fd : FuncData} (F : Fun K "_law_far" "_law_far" s__law_far f fd) (T : Bt mg) (G__law_dig : FB P w K mg base "_law_dig" 1 ["_law_purl_here", "_law_many"] spDig) : FnOk P w K mg base CX0 2 f fd ["_law_purl_here"] spFar := by
  refine F.ok sc__law_far (fun vs H Q E h => ?_) (fun cdv A outer s H vs Q E hr h => ?_)
  · obtain ⟨p, rfl, _⟩ := h
    rfl
  · obtain ⟨p, rfl, hp, q⟩ := h
    refine ⟨_, (pss_cons (ps_if (pt_cmpR op_eq (pe_fb G__law_dig hr (by decide) (by rfl) (pa_cons (pv 0) (pa_cons pe_int pa_nil))) pe_int (nomark _))
        (pss_one (ps_ret (pe_op op_add pe_int (pe_fb G__law_dig hr (by decide) (by rfl) (pa_cons (pv 0) (pa_cons pe_int pa_nil))))))
        pss_nil)
        (pss_cons (ps_par (i := 1) (j := 2) (by rfl) sc__law_far.nd rfl rfl (by decide) rfl rfl (pa_cons (pe_op op_add pe_int (pe_fb G__law_dig hr (by decide) (by rfl) (pa_cons (pv 0) (pa_cons pe_int pa_nil)))) (pa_cons pe_int pa_nil)) (by rfl))
        (pss_cons (ps_for PassesOwn.never rfl (pi_range1 (by rfl) T.range (pa_cons (pv 1) pa_nil)) (pg_name (i := 3) sc__law_far.nd rfl (by first | exact .inl rfl | exact .inr rfl))
        (pss_one (ps_set (i := 2) sc__law_far.nd rfl (by first | exact .inl rfl | exact .inr rfl) (pe_op op_add (pe_op op_mul (pv 2) pe_int) (pe_fb G__law_dig hr (by decide) (by rfl) (pa_cons (pv 0) (pa_cons pe_int pa_nil)))))))
        (pss_one (ps_ret (pe_op op_add pe_int (pe_op op_mod (pe_callTy call_int1 (by rfl) T.int (by decide +kernel) (pa_cons (pv 2) pa_nil)) (pe_op op_pow pe_int pe_int)))))))), ?_⟩
    refine ⟨_, rfl, p, 3, rfl, hp, by decide, by decide, fun r H1 r0 r1 hp1 o1 => ?_⟩
    refine ⟨rfl, _, rfl, ?_⟩
    refine ite2 (fun _ => ?_) (fun _ => ?_)
    · refine ⟨_, rfl, p, 13, rfl, hp1, by decide, by decide, fun r2 H2 r20 r21 hp2 o2 => ?_⟩
      refine ⟨_, _, rfl, rfl, ?_⟩
      exact q _ _ (by omega) (by omega) hp2 (o1.trans o2)
    · refine ⟨_, rfl, p, 29, rfl, hp1, by decide, by decide, fun r2 H2 r20 r21 hp2 o2 => ?_⟩
      refine ⟨_, _, rfl, rfl, _, _, rfl, ?_⟩
      have ez : (2 + r2).toNat ≤ 30 := by omega
      refine ⟨_, rfl, _, rfl, (by omega), (by omega), ?_⟩
      refine for_range (n := (2 + r2).toNat) (fun _ σ H' => (∃ m v, σ = [some (.ref p), some (.int (2 + r2)), some (.int m), v]) ∧ PurlAt H' p ∧ Off p H H') ⟨⟨_, _, rfl⟩, hp2, o1.trans o2⟩ (fun i σ H' _ h => ?_) (fun σ H' h => ?_)
      · obtain ⟨⟨m, v, rfl⟩, hq, off⟩ := h
        refine ⟨_, rfl, _, _, rfl, rfl, .inr ⟨by decide, by decide⟩, ?_⟩
        refine ⟨_, rfl, p, 10, rfl, hq, by decide, by decide, fun r3 H3 _ _ hp3 o3 => ?_⟩
        refine ⟨_, _, rfl, rfl, ?_⟩
        exact ⟨⟨_, _, rfl⟩, hp3, off.trans o3⟩
      · obtain ⟨⟨m, v, rfl⟩, hq, off⟩ := h
        refine ⟨_, rfl, .inl ⟨_, rfl, _, _, rfl, rfl, ⟨by decide, by decide, by decide⟩, ?_⟩⟩
        have e30 : ((10 : Int) ^ (30 : Int).toNat) = 1000000000000000000000000000000 := by decide
        refine ⟨_, (1000000000000000000000000000000 : Int), rfl, congrArg V.int e30, (by show (0 : Int) < 1000000000000000000000000000000; decide), _, _, rfl, rfl, ?_⟩
        have h1 := Int.emod_nonneg m (show (1000000000000000000000000000000 : Int) ≠ 0 by decide)
        have h2 := Int.emod_lt_of_pos m (show (0 : Int) < 1000000000000000000000000000000 by decide)
        exact q _ _ (by omega) (by omega) hq off
end
end Sq.N4
namespace Sq.N4
open PySem L2 TL
section
variable {P : Program} {w : World} {K : PySem.W.Frag} {mg : Str → Option Value} {base : Heap}
theorem flat_of {a : Nat} (h : a < 12) : Flat (bt a) := by
  have z : ∀ a : _root_.Fin 12, (bt a.val).2.1 = 0 := by decide +kernel
  have k := bt_ok (a := a) (by omega)
  exact ⟨k.1.1, k.1.2, k.2.2, z ⟨a, h⟩⟩
theorem inn_of {a : Nat} (h : a < 18) : Inn (bt a) := by
  have z : ∀ a : _root_.Fin 18, (bt a.val).2.1 = 0 ∨ (bt a.val).2.1 = 1 ∧ (bt a.val).1 = 0 ∨ (bt a.val).2.1 = -1 ∧ (bt a.val).1 = 1 := by decide +kernel
  have k := bt_ok h
  exact ⟨k.1.1, k.1.2, k.2.2, z ⟨a, h⟩⟩
theorem span_two (q : Part) (b s : Int) : spanOf (b + 2 * s) q = SB (bt q.o.1) (bt q.o.2.1) (bt q.u.1) (bt q.u.2.1) b s := rfl
theorem span_zero (q : Part) (b : Int) : SB (bt q.o.1) (bt q.o.2.1) (bt q.u.1) (bt q.u.2.1) b 0 = spanOf b q := by
  rw [← span_two, Int.mul_zero, Int.add_zero]
theorem falls_two {q : Part} (ok : PartOk q) {b s : Int} (hb : b = 14 ∨ b = 15) (hs : 0 ≤ s) : fallsB (spanOf (b + 2 * s) q) (b + 2 * s) = fallsB (spanOf b q) b := by
  have z := falls_lin (s := s) (flat_of ok.o1) (flat_of ok.o2) (inn_of ok.u1) (inn_of ok.u2) hb hs
  rw [span_zero] at z
  exact z
theorem fallsQ_two {qs : List Part} (ok : ∀ q ∈ qs, PartOk q) {b s : Int} (hb : b = 14 ∨ b = 15) (hs : 0 ≤ s) : fallsQ (qs.map toQ) (b + 2 * s) = fallsQ (qs.map toQ) b := by
  unfold fallsQ
  rw [List.any_map, List.any_map]
  induction qs with
  | nil => rfl
  | cons q qs ih =>
    rw [List.any_cons, List.any_cons, ih fun x hx => ok x (List.mem_cons_of_mem _ hx)]
    show (fallsB (spanOf (b + 2 * s) (toQ q)) (b + 2 * s) || _) = (fallsB (spanOf b (toQ q)) b || _)
    rw [falls_two (ok q List.mem_cons_self).toQ hb hs]
theorem onw_add (x y z x2 y2 z2 s : Int) : onw (x + x2) (y + y2) (z + z2) s = onw x y z s + onw x2 y2 z2 s := by
  unfold onw
  generalize s * (s - 1) / 2 = m
  grind
theorem cnt_sum {qs : List Part} (ok : ∀ q ∈ qs, PartOk q) (n : Int) : cntQ (qs.map toQ) n = (qs.map fun q => (turnsN q n : Int)).sum := by
  unfold cntQ
  rw [List.map_map]
  exact congrArg List.sum (List.map_congr_left fun q hq => turns_cnt (ok q hq) n)
theorem cnt_le2 {n : Int} (n0 : 0 ≤ n) (n1 : n ≤ 19) : ∀ {qs : List Part}, (∀ q ∈ qs, PartOk q) → 0 ≤ (qs.map fun q => (turnsN q n : Int)).sum ∧ (qs.map fun q => (turnsN q n : Int)).sum ≤ 903 * qs.length
  | [], _ => ⟨Int.le_refl _, Int.le_refl _⟩
  | q :: qs, ok => by
    have ih := cnt_le2 n0 n1 (qs := qs) fun x hx => ok x (List.mem_cons_of_mem _ hx)
    have h := turns_le (ok q List.mem_cons_self) n0 n1
    rw [List.map_cons, List.sum_cons, List.length_cons]
    omega
theorem cnt_two1 {q : Part} (ok : PartOk q) {b s : Int} (hb : b = 14 ∨ b = 15) (hs : 0 ≤ s) : cntS (spanOf (b + 2 * s) (toQ q)) = onw (turnsN q b) (turnsN q (b + 2)) (turnsN q (b + 4)) s := by
  have z := cnt_lin (s := s) (flat_of ok.toQ.o1) (flat_of ok.toQ.o2) (inn_of ok.toQ.u1) (inn_of ok.toQ.u2) hb hs
  rw [span_zero, ← span_two, ← span_two, ← span_two, turns_cnt ok b, turns_cnt ok (b + 2 * 1), turns_cnt ok (b + 2 * 2)] at z
  exact z
theorem cnt_onw {qs : List Part} (ok : ∀ q ∈ qs, PartOk q) {b s : Int} (hb : b = 14 ∨ b = 15) (hs : 0 ≤ s) : cntQ (qs.map toQ) (b + 2 * s) = onw (qs.map fun q => (turnsN q b : Int)).sum (qs.map fun q => (turnsN q (b + 2) : Int)).sum (qs.map fun q => (turnsN q (b + 4) : Int)).sum s := by
  unfold cntQ
  rw [List.map_map]
  induction qs with
  | nil =>
    unfold onw
    simp
  | cons q qs ih =>
    rw [List.map_cons, List.map_cons, List.map_cons, List.map_cons, List.sum_cons, List.sum_cons, List.sum_cons, List.sum_cons, onw_add, ih fun x hx => ok x (List.mem_cons_of_mem _ hx)]
    refine congrArg (· + _) ?_
    exact cnt_two1 (ok q List.mem_cons_self) hb hs
def dueW (b : Bool) : Str := if b = true then "falls" else "told"
def dueI (b : Bool) (n : Int) (k : Int) : Int := if b = true then n else k
def spDue : Sp := fun vs H Q _ => ∃ (a : Addr) (qs : List Part) (n : Int), vs = [.ref a, .int n] ∧ PlanV H a qs ∧ (∀ q ∈ qs, PartOk q) ∧ qs.length ≤ 4 ∧ 14 ≤ n ∧ n ≤ big ∧ ∀ p H', Same H H' → H' p = some (.lst [.str (dueW (fallsQ (qs.map toQ) n)), .int (dueI (fallsQ (qs.map toQ) n) n (cntQ (qs.map toQ) n))]) → Q (.ref p) H'
abbrev s__law_due : Stmt := top 69
theorem sc__law_due : FnScope ["_law_plan", "_law_size", "_law_begin", "_law_some", "_law_k"] ["_law_plan", "_law_size"] (defScope s__law_due) := ⟨rfl, rfl, rfl, by decide +kernel, rfl, by decide +kernel, by decide +kernel⟩
theorem ok__law_due {f : Addr} {fd : FuncData} (F : Fun K "_law_due" "_law_due" s__law_due f fd) (T : Bt mg) (G__law_shut : FB P w K mg base "_law_shut" 2 ["_law_actor", "_law_size"] spShut2) (G__law_wide : FB P w K mg base "_law_wide" 2 ["_law_plan", "_law_size"] spWide) (G__law_onward : FB P w K mg base "_law_onward" 1 ["_law_some", "_law_steps"] spOnward) : FnOk P w K mg base CX0 3 f fd ["_law_plan", "_law_size"] spDue := by
  refine F.ok sc__law_due (fun vs H Q E h => ?_) (fun cdv A outer s H vs Q E hr h => ?_)
  · obtain ⟨D, qs, n, rfl, _⟩ := h
    rfl
  · obtain ⟨D, qs, n, rfl, hD, ok, ql, n14, nb, q⟩ := h
    refine ⟨_, (pss_cons (ps_set (i := 2) sc__law_due.nd rfl (by first | exact .inl rfl | exact .inr rfl) (pe_op op_add pe_int (pe_op op_mod (pe_callTy call_int1 (by rfl) T.int (by decide +kernel) (pa_cons (pv 1) pa_nil)) pe_int)))
        (pss_cons (ps_if (pt_val (pe_fb G__law_shut hr (by decide) (by rfl) (pa_cons (pv 0) (pa_cons (pv 2) pa_nil))))
        (pss_one (ps_ret (pe_lst (pa_cons pe_str (pa_cons (pv 1) pa_nil)))))
        pss_nil)
        (pss_cons (ps_setLc (i := 3) (own := [("_law_k", 4)]) (g := gName 4) (by rfl) sc__law_due.nd rfl rfl (by rfl) (pi_range1 (by rfl) T.range (pa_cons pe_int pa_nil)) (blkOk_by (own := [("_law_k", 4)]) (N := ["_law_plan", "_law_size", "_law_begin", "_law_some", "_law_k"]) (sc := defScope s__law_due) (by decide +kernel))
            (fun _ _ _ _ _ => (pg_name (i := 4) sc__law_due.nd rfl (by first | exact .inl rfl | exact .inr rfl))) (fun _ _ _ _ _ => pts_nil) (fun _ _ _ _ _ => (pe_fb G__law_wide hr (by decide) (by rfl) (pa_cons (pv 0) (pa_cons (pe_op op_add (pv 2) (pe_op op_mulW pe_int (pv 4))) pa_nil)))))
        (pss_one (ps_ret (pe_lst (pa_cons pe_str (pa_cons (pe_fb G__law_onward hr (by decide) (by rfl) (pa_cons (pv 3) (pa_cons (pe_op op_fdiv (pe_op op_sub (pv 1) (pv 2)) pe_int) pa_nil))) pa_nil)))))))), ?_⟩
    have bigL : 100 ≤ sizeLine := by decide
    refine ⟨_, rfl, .inl ⟨_, rfl, _, _, rfl, rfl, (by show (0 : Int) < 2; decide), _, _, rfl, rfl, ?_⟩⟩
    dsimp only
    have hb : 14 + n % 2 = 14 ∨ 14 + n % 2 = 15 := by omega
    obtain ⟨s, hs, en⟩ : ∃ s : Int, 0 ≤ s ∧ n = 14 + n % 2 + 2 * s := ⟨(n - (14 + n % 2)) / 2, by omega, by omega⟩
    generalize hbe : 14 + n % 2 = b at *
    have hF := fallsQ_two ok hb hs
    have hC := cnt_onw ok hb hs
    rw [← en] at hF hC
    simp only [L2.start, List.map_cons, List.map_nil, List.length_cons, List.length_nil, Nat.reduceAdd, Nat.reduceSub, List.replicate_succ, List.replicate_zero, List.cons_append, List.nil_append, List.set_cons_zero, List.set_cons_succ]
    refine ⟨_, rfl, _, rfl, D, qs, b, rfl, hD, ok, hb, fun H1 s1 => ⟨_, rfl, ?_⟩⟩
    rw [← hF]
    cases hf : fallsQ (qs.map toQ) n with
    | true =>
      refine iteT ?_
      refine ⟨_, rfl, by show 2 ≤ sizeLine; omega, fun p np => ?_⟩
      refine q p _ (s1.trans (same_new np)) ?_
      rw [hf, upd_same]
      rfl
    | false =>
      refine iteF ?_
      have hD1 := PlanV.ext s1 hD
      have b0 := cnt_le2 (n := b) (by omega) (by omega) ok
      have b2 := cnt_le2 (n := b + 2) (by omega) (by omega) ok
      have b4 := cnt_le2 (n := b + 4) (by omega) (by omega) ok
      have nbig : big ≤ lim := by decide +kernel
      refine ⟨3, rfl, by decide, by decide, fun E0 nE => ?_⟩
      refine lc_range (lo := 0) (n := 3) (fun j H2 => Same H1 H2 ∧ H2 E0 = some (.lst (((List.range j).map fun k => (qs.map fun q => (turnsN q (b + 2 * (k : Nat)) : Int)).sum).map V.int))) ⟨same_new nE, upd_same⟩ (fun j H2 hj h => ?_) (fun H2 h => ?_)
      · obtain ⟨sj, hL⟩ := h
        refine ⟨rfl, ?_⟩
        refine ⟨_, rfl, _, rfl, _, rfl, _, _, rfl, rfl, ?_, _, _, rfl, rfl, D, qs, b + 2 * (0 + (j : Int)), rfl, PlanV.ext sj hD1, ok, by omega, by omega, fun H3 s3 => ⟨_, s3 _ _ hL, ?_, ?_, ?_⟩⟩
        · exact wide_mul (a := 5) (b := 20) (by decide) (by show (0 + (j : Int)).natAbs < 2 ^ 20; omega) (by decide) (by decide) (by decide)
        · rw [List.length_map, List.length_map, List.length_range]
          omega
        · intro c o hc
          rw [upd_ne (ne_of_none hc nE)]
          exact s3 c o (sj c o hc)
        · rw [upd_same, List.range_succ, List.map_append, List.map_append, Int.zero_add]
          rfl
      obtain ⟨sj, hL⟩ := h
      have hL2 : H2 E0 = some (.lst [.int (qs.map fun q => (turnsN q b : Int)).sum, .int (qs.map fun q => (turnsN q (b + 2) : Int)).sum, .int (qs.map fun q => (turnsN q (b + 4) : Int)).sum]) := by
        rw [hL]
        show some (HO.lst [.int (qs.map fun q => (turnsN q (b + 2 * ((0 : Nat) : Int)) : Int)).sum, .int (qs.map fun q => (turnsN q (b + 2 * ((1 : Nat) : Int)) : Int)).sum, .int (qs.map fun q => (turnsN q (b + 2 * ((2 : Nat) : Int)) : Int)).sum]) = _
        rw [show b + 2 * ((0 : Nat) : Int) = b by omega, show b + 2 * ((1 : Nat) : Int) = b + 2 by omega, show b + 2 * ((2 : Nat) : Int) = b + 4 by omega]
      simp only [L2.start, List.map_cons, List.map_nil, List.length_cons, List.length_nil, Nat.reduceAdd, Nat.reduceSub, List.replicate_succ, List.replicate_zero, List.cons_append, List.nil_append, List.set_cons_zero, List.set_cons_succ]
      refine ⟨_, rfl, _, rfl, _, rfl, _, _, rfl, rfl, _, _, rfl, rfl, ⟨by decide, by decide⟩, E0, _, _, _, (n - b) / 2, rfl, hL2, b0.1, by omega, b2.1, by omega, b4.1, by omega, by omega, by omega, ?_⟩
      rw [show (n - b) / 2 = s by omega, ← hC]
      refine ⟨by show 2 ≤ sizeLine; omega, fun p np => ?_⟩
      refine q p _ ((s1.trans sj).trans (same_new np)) ?_
      rw [hf, upd_same]
      rfl
end
end Sq.N4
namespace Sq.N4
open PySem L2 TL
section
variable {P : Program} {w : World} {K : PySem.W.Frag} {mg : Str → Option Value} {base : Heap}
variable {C CP CF : Addr}
abbrev sPAdd : Stmt := inClass (top 34) 8
abbrev sFInit : Stmt := inClass (top 9) 0
theorem scFInit : FnScope ["self", "size"] ["self", "size"] (defScope sFInit) := ⟨rfl, rfl, rfl, by decide +kernel, rfl, by decide +kernel, by decide +kernel⟩
theorem ok_finit {f : Addr} {fd : FuncData} (F : Fun K "__init__" "Falls.__init__" sFInit f fd) (O : OexB K "ArithmeticError.__new__" [.type "ArithmeticError", .type "Exception", .type "BaseException", .type "object"] CF) (no : PySem.W.findIn K (.ref CF) "size" = some none) : FnOk P w K mg base CX0 1 f fd ["self", "size"] (spErrInit CF "size") := by
  refine F.ok scFInit (fun vs H Q E h => ?_) (fun cdv A outer s H vs Q E hr h => ?_)
  · obtain ⟨a, v, rfl, _⟩ := h
    rfl
  · obtain ⟨a, v, rfl, ha, q⟩ := h
    refine ⟨_, pss_one (ps_first root_arith (pv 0) (pv 1)), ?_⟩
    exact ⟨_, rfl, _, rfl, a, CF, rfl, O, no, ha, fun dx n ne => q dx n ne⟩
theorem scPAdd : FnScope ["self", "other", "nests"] ["self", "other"] (defScope sPAdd) := ⟨rfl, rfl, rfl, by decide +kernel, rfl, by decide +kernel, by decide +kernel⟩
def spPAdd (K : PySem.W.Frag) (CP C : Addr) : Sp := fun vs H Q _ => ∃ (a b : Addr) (qs rs : List Part), vs = [.ref a, .ref b] ∧ ProgQ K CP C H a qs ∧ ProgQ K CP C H b rs ∧ qs.length + rs.length ≤ 4 ∧ ∀ x H', Same H H' → ProgQ K CP C H' x (qs ++ rs) → Q (.ref x) H'
theorem ok_padd {fp f : Addr} {fd : FuncData} (F : Fun K "__add__" "Program.__add__" sPAdd f fd) (N : Pc K CP) (mP : mg "Program" = some (.ref CP)) (mkp : Mk K CP fp) (GI : FnR P w K mg base CX0 2 fp (spPMade CP C)) : FnOk P w K mg base CX0 4 f fd ["self", "other"] (spPAdd K CP C) := by
  refine F.ok scPAdd (fun vs H Q E h => ?_) (fun cdv A outer s H vs Q E hr h => ?_)
  · obtain ⟨a, b, qs, rs, rfl, _⟩ := h
    rfl
  · obtain ⟨a, b, qs, rs, rfl, ⟨ha, oq, lq⟩, ⟨hb, or', lr⟩, l4, q⟩ := h
    obtain ⟨dx, tp, xs, h1, h2, h3, h4⟩ := ha
    obtain ⟨dy, tq, ys, g1, g2, g3, g4⟩ := hb
    rw [List.length_map] at h3 g3
    have big : 100 ≤ sizeLine := by decide
    refine ⟨_, pss_cons (ps_set (i := 2) scPAdd.nd rfl (.inl rfl) (pe_op op_catA (pe_fld (pv 0) rfl) (pe_fld (pv 1) rfl)))
      (pss_one (ps_ret (pe_makeSG mkp GI hr (by rfl) mP pass0 (pv 2)))), ?_⟩
    refine sq_ (set_ (gen_of (fun y H' => ∃ p, y = .ref p ∧ Same H H' ∧ SqT K H' p ((xs ++ ys).map V.ref)) (fun Q' k => ?_) ?_))
    · refine ⟨_, rfl, a, CP, dx, _, _, rfl, h1, N.cl, N.nN, putN tp, _, rfl, b, CP, dy, _, _, rfl, g1, N.cl, N.nN, putN tq, ?_⟩
      refine ⟨tp, tq, xs.map V.ref, ys.map V.ref, rfl, rfl, SqT.of h2, SqT.of g2, by rw [List.length_map, List.length_map]; omega, fun e => ?_, fun e1 e2 => ?_, fun e1 e2 p np => ?_⟩
      · refine k _ _ ⟨tq, rfl, Same.refl _, ?_⟩
        rw [List.map_append, e, List.nil_append]
        exact SqT.of g2
      · refine k _ _ ⟨tp, rfl, Same.refl _, ?_⟩
        rw [List.map_append, e2, List.append_nil]
        exact SqT.of h2
      · refine k _ _ ⟨p, rfl, same_new np, ?_⟩
        rw [List.map_append]
        exact SqT.of upd_same
    rintro _ H1 ⟨p, rfl, s1, hp⟩
    refine pr_one (ret_ ?_)
    refine ⟨_, rfl, p, _, rfl, .inl hp, fun x dz nx ndz ne => ?_⟩
    have hxs : ∀ (i : Nat) (x : Addr) (n : NestD), (xs ++ ys)[i]? = some x → ((qs ++ rs).map Part.nest)[i]? = some n → NestIs K C H x n := fun i x n e1 e2 => by
      rw [List.map_append] at e2
      by_cases hi : i < xs.length
      · rw [List.getElem?_append_left hi] at e1
        rw [List.getElem?_append_left (by rw [List.length_map]; omega)] at e2
        exact h4 i x n e1 e2
      · rw [List.getElem?_append_right (by omega)] at e1
        rw [List.getElem?_append_right (by rw [List.length_map]; omega), List.length_map, ← h3] at e2
        exact g4 _ x n e1 e2
    have len : (xs ++ ys).length = ((qs ++ rs).map Part.nest).length := by
      rw [List.length_append, List.length_map, List.length_append]
      omega
    refine made_prog (C := C) (R := fun H2 => Q (.ref x) H2) nx ndz (by rw [List.length_append]; omega) (fun y hy => ?_) fun H' tz s' hx ht => ?_
    · obtain ⟨i, hi, e⟩ := List.getElem_of_mem hy
      have e1 : (xs ++ ys)[i]? = some y := by rw [List.getElem?_eq_getElem hi, e]
      have e2 : ((qs ++ rs).map Part.nest)[i]? = some ((qs ++ rs).map Part.nest)[i] := List.getElem?_eq_getElem (by rw [← len]; exact hi)
      obtain ⟨du, dp, ⟨R2, w1, _⟩, _⟩ := hxs i y _ e1 e2
      exact ⟨_, _, s1 _ _ w1⟩
    · refine q x H' (s1.trans s') ⟨⟨dz, tz, xs ++ ys, hx, ht, len, fun i y n e1 e2 => (hxs i y n e1 e2).ext (s1.trans s')⟩, fun z hz => ?_, by rw [List.length_append]; omega⟩
      rcases List.mem_append.mp hz with h | h
      · exact oq z h
      · exact or' z h
/-- a promise of a top function that may raise, the context of its errors None -/
structure FBN (P : Program) (w : World) (K : PySem.W.Frag) (mg : Str → Option Value) (base : Heap) (x : Str) (k : Nat) (ps : List Str) (sp : Sp) : Prop where
  ex : ∃ (f : Addr) (fd : FuncData), FnOk P w K mg base (L2N.CX P w) k f fd ps sp ∧ mg x = some (.ref f) ∧ PySem.W.keepIn K (.ref f) = true ∧ Binds K fd ps []
section
variable {X : Cx} {W : WX} {j k : Nat} {x : Str} {p pos : Pos} {e : Expr} {es : List Expr} {t : TA} {ps : List Str} {sp : Sp}
theorem pe_fbN (F : FBN X.prog X.w X.K X.mg X.base x k ps sp) (tk : L2N.Takes X W) (hr : Room j X.A) (hk : k ≤ j) (hg : Gl X x) (ha : PA X (e :: es) t) (hdb : (x == ("__debug__" : Str)) = false := by decide)
    (he : starEach (e :: es) X.env = (false, eval e X.env) :: starEach es X.env := by rfl) (hpl : (backTo pos (starEach es X.env)).any (·.1) = false := by rfl) :
    PE X (.Call (.Name x p) (e :: es) [] pos) (tCallS sp (WE W) t) := by
  obtain ⟨f, fd, G, hm, kk, b⟩ := F.ex
  exact pe_callS G (hr.mono hk) hg hm kk b (fun σ => L2N.passAt tk σ) ha hdb he hpl
/-- where no error is met -/
theorem pe_fbN0 (F : FBN X.prog X.w X.K X.mg X.base x k ps sp) (hr : Room j X.A) (hk : k ≤ j) (hg : Gl X x) (ha : PA X (e :: es) t) (hdb : (x == ("__debug__" : Str)) = false := by decide)
    (he : starEach (e :: es) X.env = (false, eval e X.env) :: starEach es X.env := by rfl) (hpl : (backTo pos (starEach es X.env)).any (·.1) = false := by rfl) :
    PE X (.Call (.Name x p) (e :: es) [] pos) (tCallS sp (WE fun _ _ _ _ => False) t) := by
  obtain ⟨f, fd, G, hm, kk, b⟩ := F.ex
  exact pe_callS G (hr.mono hk) hg hm kk b (fun σ _ _ _ _ _ _ c => by obtain ⟨_, _, _, _, _, _, _, _, _, _, _, _, z⟩ := c; exact z.elim) ha hdb he hpl
theorem takesN0 : L2N.Takes X fun _ _ _ _ => False := fun u s' h => by
  obtain ⟨_, _, _, _, _, _, _, _, _, _, _, _, _, _, _, _, z⟩ := h
  exact z.elim
end
/-- what the class Falls says of its errors -/
structure FallK (P : Program) (w : World) (K : PySem.W.Frag) (mg : Str → Option Value) (base : Heap) (CF : Addr) : Prop where
  e : ErrB P w K mg base "ArithmeticError.__new__" [.type "ArithmeticError", .type "Exception", .type "BaseException", .type "object"] "Falls" "size" CF
  ex : PySem.W.exmOne K (.ref CF) (.ref CF) = some true
def spAnswer (K : PySem.W.Frag) (CP C : Addr) : Sp := fun vs H Q _ => ∃ (a : Addr) (n : Int) (qs : List Part), vs = [.ref a, .int n] ∧ ProgQ K CP C H a qs ∧ 1 ≤ n ∧ n ≤ big ∧ ∀ p H', Same H H' → H' p = some (.lst [.str (dueW (fallsQ qs n)), .int (dueI (fallsQ qs n) n (cntQ qs n))]) → Q (.ref p) H'
abbrev s__law_answer : Stmt := top 68
theorem sc__law_answer : FnScope ["_law_program", "_law_size", "_law_told", "e"] ["_law_program", "_law_size"] (defScope s__law_answer) := ⟨rfl, rfl, rfl, by decide +kernel, rfl, by decide +kernel, by decide +kernel⟩
theorem ok__law_answer {f : Addr} {fd : FuncData} (F : Fun K "_law_answer" "_law_answer" s__law_answer f fd) (T : Bt mg) (GN_round_count : FBN P w K mg base "round_count" 5 ["program", "size"] (spRound K CP C CF)) (FK : FallK P w K mg base CF) : FnOk P w K mg base CX0 6 f fd ["_law_program", "_law_size"] (spAnswer K CP C) := by
  refine F.ok sc__law_answer (fun vs H Q E h => ?_) (fun cdv A outer s H vs Q E hr h => ?_)
  · obtain ⟨a, n, qs, rfl, _⟩ := h
    rfl
  · obtain ⟨a, n, qs, rfl, hq, n1, nb, q⟩ := h
    refine ⟨_, (pss_cons (L2N.ps_try_as (tb := fun W => tAsg (tCallS (spRound K CP C CF) (WE W) (tCons (tVar 0) (tCons (tVar 1) tNil))) (gName 2)) (Wout := fun _ _ _ _ => False) (i := 3) rfl rfl sc__law_answer.nd rfl rfl ⟨rfl, by decide, .inl FK.e.m⟩ takesN0 (fun W pn xe tk _ => pss_one (ps_set (i := 2) sc__law_answer.nd rfl (by first | exact .inl rfl | exact .inr rfl) (pe_fbN GN_round_count tk hr (by decide) (by rfl) (pa_cons (pv 0) (pa_cons (pv 1) pa_nil))))) (fun a oe cls d pn hz hf => pss_one (ps_ret (pe_lst (pa_cons pe_str (pa_cons (pe_xf FK.e.xf FK.e.no hz.zc hf (pv 3)) pa_nil))))))
        (pss_one (ps_ret (pe_lst (pa_cons pe_str (pa_cons (pv 2) pa_nil)))))), ?_⟩
    refine ⟨_, rfl, _, rfl, a, n, qs, rfl, hq, n1, nb, fun hf H1 s1 => ?_, fun hf d H1 s1 hd => ?_⟩
    · refine ⟨_, rfl, by show 2 ≤ sizeLine; decide, fun p np => ?_⟩
      refine q p _ (s1.trans (same_new np)) ?_
      rw [hf, upd_same]
      rfl
    · refine ⟨true, FK.ex, fun _ e ne => ?_, fun z => by cases z⟩
      refine ⟨_, rfl, rfl, rfl, d, _, .int n, rfl, hd, rfl, by show 2 ≤ sizeLine; decide, fun p np => ?_⟩
      refine q p _ (s1.trans (same_new np)) ?_
      rw [hf, upd_same]
      rfl
end
end Sq.N4
namespace Sq
open PySem L2
abbrev Cell := Int × Int
def lexlt (a b : Cell) : Prop := a.1 < b.1 ∨ (a.1 = b.1 ∧ a.2 < b.2)
def lexle (a b : Cell) : Prop := a.1 < b.1 ∨ (a.1 = b.1 ∧ a.2 ≤ b.2)
def cells8 (n r c : Int) : List Cell := [(r, c), (c, r), (r, n - 1 - c), (n - 1 - c, r), (n - 1 - r, c), (c, n - 1 - r), (n - 1 - r, n - 1 - c), (n - 1 - c, n - 1 - r)]
def InN (n : Int) (q : Cell) : Prop := (0 ≤ q.1 ∧ q.1 < n) ∧ (0 ≤ q.2 ∧ q.2 < n)
theorem cells8_in {n r c : Int} (h : InN n (r, c)) : ∀ q ∈ cells8 n r c, InN n q := by
  obtain ⟨⟨h1, h2⟩, h3, h4⟩ := h
  simp only at h1 h2 h3 h4
  intro q hq
  unfold cells8 at hq
  simp only [List.mem_cons, List.not_mem_nil, or_false] at hq
  rcases hq with rfl | rfl | rfl | rfl | rfl | rfl | rfl | rfl <;> exact ⟨⟨by simp only; omega, by simp only; omega⟩, by simp only; omega, by simp only; omega⟩
/-- the cells L stand at their places -/
def PL (H : Hp) (L : List (Addr × Cell)) : Prop := ∀ q ∈ L, H q.1 = some (.tup [.int q.2.1, .int q.2.2])
def refs (L : List (Addr × Cell)) : List V := L.map fun q => V.ref q.1
theorem PL.same {H H' : Hp} {L : List (Addr × Cell)} (h : PL H L) (s : Same H H') : PL H' L := fun q hq => s _ _ (h q hq)
theorem perm_refs : ∀ {ys xs : List V}, ys.Perm xs → ∀ L, xs = refs L → ∃ L', L'.Perm L ∧ ys = refs L' := by
  intro ys xs h
  induction h with
  | nil => exact fun L e => ⟨L, .refl _, e⟩
  | @cons x l1 l2 p ih =>
    intro L e
    match L, e with
    | q :: L, e =>
      obtain ⟨e1, e2⟩ := List.cons.inj e
      obtain ⟨L', p', e'⟩ := ih L e2
      exact ⟨q :: L', p'.cons q, by rw [e1, e']; rfl⟩
  | swap x y l =>
    intro L e
    match L, e with
    | q :: r :: L, e =>
      obtain ⟨e1, e2⟩ := List.cons.inj e
      obtain ⟨e3, e4⟩ := List.cons.inj e2
      exact ⟨r :: q :: L, .swap _ _ _, by rw [e1, e3, e4]; rfl⟩
  | trans p1 p2 i1 i2 =>
    intro L e
    obtain ⟨L1, q1, e1⟩ := i2 L e
    obtain ⟨L2, q2, e2⟩ := i1 L1 e1
    exact ⟨L2, q2.trans q1, e2⟩
theorem code_lex {B : Int} {a b : Cell} (ha : InN B a) (hb : InN B b) (h : TS.code B [a.1, a.2] ≤ TS.code B [b.1, b.2]) : lexle a b := by
  have e : ∀ q : Cell, TS.code B [q.1, q.2] = q.1 * B + q.2 := fun q => by
    show q.1 * B ^ 1 + (q.2 * B ^ 0 + 0) = _
    rw [Int.pow_succ, Int.pow_zero, Int.one_mul, Int.mul_one, Int.add_zero]
  rw [e a, e b] at h
  obtain ⟨⟨_, _⟩, a3, a4⟩ := ha
  obtain ⟨⟨_, _⟩, b3, b4⟩ := hb
  unfold lexle
  by_cases h1 : a.1 < b.1
  · exact .inl h1
  by_cases h2 : a.1 = b.1
  · rw [h2] at h
    exact .inr ⟨h2, by omega⟩
  exfalso
  have h3 : b.1 + 1 ≤ a.1 := by omega
  have h4 := Int.mul_le_mul_of_nonneg_right h3 (show 0 ≤ B by omega)
  rw [Int.add_mul, Int.one_mul] at h4
  omega
theorem lexlt_of {a b : Cell} (h : lexle a b) (n : a ≠ b) : lexlt a b := by
  rcases h with h | ⟨h1, h2⟩
  · exact .inl h
  · refine .inr ⟨h1, ?_⟩
    by_cases e : a.2 = b.2
    · exact absurd (Prod.ext h1 e) n
    · omega
theorem tupD {K : PySem.W.Frag} {H : Hp} {t : Addr} {i j : Int} (h : H t = some (.tup [.int i, .int j])) : Dp K H (.ref t) (.tuple [.int i, .int j]) := .tup (SqT.of h) (.cons (.int _) (.cons (.int _) .nil))
def cellD (q : Cell) : PyData := .tuple [.int q.1, .int q.2]
theorem listD {K : PySem.W.Frag} {H : Hp} : ∀ {L : List (Addr × Cell)}, PL H L → DpAll K H (refs L) (L.map fun q => cellD q.2)
  | [], _ => .nil
  | q :: L, h => .cons (tupD (h q (List.mem_cons_self ..))) (listD fun x hx => h x (List.mem_cons_of_mem _ hx))
theorem cell_eqv (a b : Cell) : PyData.eqv (cellD a) (cellD b) = decide (a = b) := by
  have e : PyData.eqv (cellD a) (cellD b) = ((a.1 == b.1) && ((a.2 == b.2) && true)) := rfl
  rw [e, Bool.and_true, Bool.eq_iff_iff]
  simp [Prod.ext_iff]
theorem cell_shaped (a : Cell) : PySem.SeqAt.shaped (cellD a) = true := rfl
theorem any_cell (L : List (Addr × Cell)) (a : Cell) : ((L.map fun q => cellD q.2).any fun z => PyData.eqv z (cellD a)) = decide (a ∈ L.map (·.2)) := by
  rw [Bool.eq_iff_iff, List.any_map, List.any_eq_true, decide_eq_true_eq, List.mem_map]
  constructor
  · rintro ⟨q, hq, e⟩
    refine ⟨q, hq, ?_⟩
    have e : PyData.eqv (cellD q.2) (cellD a) = true := e
    rw [cell_eqv] at e
    exact of_decide_eq_true e
  · rintro ⟨q, hq, e⟩
    refine ⟨q, hq, ?_⟩
    show PyData.eqv (cellD q.2) (cellD a) = true
    rw [cell_eqv]
    exact decide_eq_true e
theorem layAll_of : ∀ {ds : List PyData}, (∀ d ∈ ds, d.canLay0 = true ∧ d.depth ≤ 60) → PyData.canLayAll0 ds = true ∧ PyData.depthAll ds ≤ 60
  | [], _ => ⟨by simp [PyData.canLayAll0], by simp [PyData.depthAll]⟩
  | d :: ds, h => by
    obtain ⟨h1, h2⟩ := h d (List.mem_cons_self ..)
    obtain ⟨h3, h4⟩ := layAll_of fun x hx => h x (List.mem_cons_of_mem _ hx)
    refine ⟨by simp [PyData.canLayAll0, h1, h3], ?_⟩
    simp only [PyData.depthAll]
    omega
theorem shaped_lst {ds : List PyData} (h : ∀ d ∈ ds, d.canLay0 = true ∧ d.depth ≤ 60) : PySem.SeqAt.shaped (.list ds) = true := by
  obtain ⟨h1, h2⟩ := layAll_of h
  show (PyData.canLay0 (.list ds) && decide (PyData.depth (.list ds) ≤ 64)) = true
  rw [Bool.and_eq_true]
  refine ⟨by simp only [PyData.canLay0]; exact h1, decide_eq_true ?_⟩
  simp only [PyData.depth]
  omega
theorem shaped_tup {ds : List PyData} (h : ∀ d ∈ ds, d.canLay0 = true ∧ d.depth ≤ 60) : PySem.SeqAt.shaped (.tuple ds) = true := by
  obtain ⟨h1, h2⟩ := layAll_of h
  show (PyData.canLay0 (.tuple ds) && decide (PyData.depth (.tuple ds) ≤ 64)) = true
  rw [Bool.and_eq_true]
  refine ⟨by simp only [PyData.canLay0]; exact h1, decide_eq_true ?_⟩
  simp only [PyData.depth]
  omega
theorem cell_lay (q : Cell) : (cellD q).canLay0 = true ∧ (cellD q).depth ≤ 60 := by
  refine ⟨by simp [cellD, PyData.canLay0, PyData.canLayAll0], ?_⟩
  simp [cellD, PyData.depth, PyData.depthAll]
theorem cells_lay (L : List (Addr × Cell)) : ∀ d ∈ L.map (fun q => cellD q.2), d.canLay0 = true ∧ d.depth ≤ 60 := fun d hd => by
  obtain ⟨q, _, rfl⟩ := List.mem_map.mp hd
  exact cell_lay _
/-! ### the kind of a cell -/
def srt (l : List Int) : List Int := l.mergeSort fun x y => decide (x ≤ y)
theorem srt_of {a b : List Int} (h : a.Perm b) (s : a.Pairwise (· ≤ ·)) : a = srt b := PySem.W.os_sorted_mergeSort h s
theorem srt_perm (l : List Int) : (srt l).Perm l := List.mergeSort_perm _ _
theorem srt_le (l : List Int) : (srt l).Pairwise (· ≤ ·) := by
  have hs := List.pairwise_mergeSort (le := fun x y : Int => decide (x ≤ y)) (by intro x y z hxy hyz; simp only [decide_eq_true_eq] at *; omega) (by intro x y; simp only [Bool.or_eq_true, decide_eq_true_eq]; omega) l
  simpa [srt] using hs
theorem srt_congr {a b : List Int} (h : a.Perm b) : srt a = srt b := srt_of ((srt_perm a).trans h) (srt_le a)
theorem srt_add (l : List Int) (d : Int) : srt (l.map (· + d)) = (srt l).map (· + d) := by
  refine (srt_of ((srt_perm l).map _) ?_).symm
  rw [List.pairwise_map]
  exact (srt_le l).imp fun h => by omega
def nums (n r c : Int) : List Int := [r, c, n - 1 - r, n - 1 - c]
theorem four_of (n r c : Int) : ∃ x y z w, srt (nums n r c) = [x, y, z, w] := by
  have h : (srt (nums n r c)).length = 4 := by rw [(srt_perm _).length_eq]; rfl
  match srt (nums n r c), h with
  | [x, y, z, w], _ => exact ⟨x, y, z, w, rfl⟩
def mn (a m : Int) : Int := if m < a then m else a
def kindL : List Int → Int × Int × Int
  | [x, y, z, _] => (mn x 1, mn (y - x) 2, mn (z - y) 3)
  | _ => (0, 0, 0)
def kindN (n r c : Int) : Int × Int × Int := kindL (srt (nums n r c))
theorem kind_img {n r c : Int} : ∀ q ∈ cells8 n r c, kindN n q.1 q.2 = kindN n r c := by
  intro q hq
  unfold cells8 at hq
  simp only [List.mem_cons, List.not_mem_nil, or_false] at hq
  have e : ∀ x : Int, n - 1 - (n - 1 - x) = x := fun x => by omega
  unfold kindN
  refine congrArg kindL (srt_congr ?_)
  unfold nums
  have sw : ∀ (a b c d : Int), [b, a, d, c].Perm [a, b, c, d] := fun a b c d => (List.Perm.swap _ _ _).trans (((List.Perm.swap _ _ _).cons _).cons _)
  have s1 : ∀ (a b c d : Int), [a, d, c, b].Perm [a, b, c, d] := fun a b c d => by
    refine .cons _ ?_
    exact (List.Perm.swap _ _ _).trans (((List.Perm.swap _ _ _).cons _).trans (List.Perm.swap _ _ _))
  have s2 : ∀ (a b c d : Int), [c, b, a, d].Perm [a, b, c, d] := fun a b c d => (sw _ _ _ _).symm.trans ((s1 _ _ _ _).trans (sw _ _ _ _))
  rcases hq with rfl | rfl | rfl | rfl | rfl | rfl | rfl | rfl <;> simp only [e]
  · exact .refl _
  · exact sw _ _ _ _
  · exact s1 _ _ _ _
  · exact (sw _ _ _ _).trans (s1 _ _ _ _)
  · exact s2 _ _ _ _
  · exact (sw _ _ _ _).trans (s2 _ _ _ _)
  · exact (s1 _ _ _ _).trans (s2 _ _ _ _)
  · exact (sw _ _ _ _).trans ((s1 _ _ _ _).trans (s2 _ _ _ _))
theorem kind_ring {n r c : Int} (h : InN n (r, c)) : kindN (n + 2) (r + 1) (c + 1) = (1, (kindN n r c).2.1, (kindN n r c).2.2) := by
  have e : nums (n + 2) (r + 1) (c + 1) = (nums n r c).map (· + 1) := by
    show [r + 1, c + 1, n + 2 - 1 - (r + 1), n + 2 - 1 - (c + 1)] = [r + 1, c + 1, n - 1 - r + 1, n - 1 - c + 1]
    have e1 : ∀ x : Int, n + 2 - 1 - (x + 1) = n - 1 - x + 1 := fun x => by omega
    rw [e1, e1]
  unfold kindN
  rw [e, srt_add]
  obtain ⟨x, y, z, w, e4⟩ := four_of n r c
  have hx : 0 ≤ x := by
    have m : x ∈ nums n r c := (srt_perm (nums n r c)).mem_iff.mp (by rw [e4]; exact List.mem_cons_self ..)
    obtain ⟨⟨h1, h2⟩, h3, h4⟩ := h
    simp only at h1 h2 h3 h4
    unfold nums at m
    simp only [List.mem_cons, List.not_mem_nil, or_false] at m
    omega
  rw [e4]
  show (mn (x + 1) 1, mn (y + 1 - (x + 1)) 2, mn (z + 1 - (y + 1)) 3) = (1, mn (y - x) 2, mn (z - y) 3)
  have e1 : y + 1 - (x + 1) = y - x := by omega
  have e2 : z + 1 - (y + 1) = z - y := by omega
  have e3 : mn (x + 1) 1 = 1 := by
    unfold mn
    split <;> omega
  rw [e1, e2, e3]
def triD (k : Int × Int × Int) : PyData := .tuple [.int k.1, .int k.2.1, .int k.2.2]
theorem tri_eqv (a b : Int × Int × Int) : PyData.eqv (triD a) (triD b) = decide (a = b) := by
  have e : PyData.eqv (triD a) (triD b) = ((a.1 == b.1) && ((a.2.1 == b.2.1) && ((a.2.2 == b.2.2) && true))) := rfl
  rw [e, Bool.and_true, Bool.eq_iff_iff]
  simp [Prod.ext_iff]
theorem tri_lay (k : Int × Int × Int) : (triD k).canLay0 = true ∧ (triD k).depth ≤ 60 := by
  refine ⟨by simp [triD, PyData.canLay0, PyData.canLayAll0], ?_⟩
  simp [triD, PyData.depth, PyData.depthAll]
theorem tri_shaped (k : Int × Int × Int) : PySem.SeqAt.shaped (triD k) = true := rfl
theorem triDp {K : PySem.W.Frag} {H : Hp} {t : Addr} {k : Int × Int × Int} (h : H t = some (.tup [.int k.1, .int k.2.1, .int k.2.2])) : Dp K H (.ref t) (triD k) := .tup (SqT.of h) (.cons (.int _) (.cons (.int _) (.cons (.int _) .nil)))
/-! ### promises -/
def spCell : Sp := fun vs H Q _ => ∃ (n : Int) (t : Addr) (q : Cell), vs = [.int n, .ref t] ∧ H t = some (.tup [.int q.1, .int q.2]) ∧ InN n q ∧ ∀ H', Same H H' → Q (.bl true) H'
def spCellOk : Sp := fun vs H Q _ => ∃ (n : Int) (t : Addr) (q : Cell), vs = [.int n, .ref t] ∧ H t = some (.tup [.int q.1, .int q.2]) ∧ InN n q ∧ ∀ H', Same H H' → Q .non H'
def Tup3 (H : Hp) (t : Addr) (k : Int × Int × Int) : Prop := H t = some (.tup [.int k.1, .int k.2.1, .int k.2.2])
def spKindOf : Sp := fun vs H Q _ => ∃ (n : Int) (t : Addr) (q : Cell), vs = [.int n, .ref t] ∧ H t = some (.tup [.int q.1, .int q.2]) ∧ InN n q ∧ n ≤ big ∧ ∀ t' H', Same H H' → Tup3 H' t' (kindN n q.1 q.2) → Q (.ref t') H'
def spSort : Sp := fun vs H Q _ => ∃ n r c : Int, vs = [.int n, .int r, .int c] ∧ ∀ t' H', Same H H' → Tup3 H' t' (kindN n r c) → Q (.ref t') H'
def spSpot : Sp := fun vs H Q _ => ∃ (p : Addr) (n : Int), vs = [.ref p, .int n] ∧ PurlAt H p ∧ 1 ≤ n ∧ ∀ (t : Addr) (q : Cell) (H' : Hp), InN n q → H' t = some (.tup [.int q.1, .int q.2]) → t ≠ p → PurlAt H' p → Off p H H' → Q (.ref t) H'
def spCells : Sp := fun vs H Q _ => ∃ n r c : Int, vs = [.int n, .int r, .int c] ∧ ∀ (p : Addr) (L : List (Addr × Cell)) (H' : Hp), Same H H' → H' p = some (.lst (refs L)) → PL H' L → L.map (·.2) = cells8 n r c → Q (.ref p) H'
def spOrbit : Sp := fun vs H Q _ => ∃ n r c : Int, vs = [.int n, .int r, .int c] ∧ InN n (r, c) ∧ ∀ (p : Addr) (L : List (Addr × Cell)) (H' : Hp), Same H H' → H' p = some (.lst (refs L)) → PL H' L → L.length ≤ 8 → (L.map (·.2)).Pairwise lexlt → (∀ q, q ∈ L.map (·.2) ↔ q ∈ cells8 n r c) → Q (.ref p) H'
end Sq
namespace Sq
open PySem L2 PySem.Spec PyProof.Rows
/-! ### repr of plain values, scalars too -/
inductive Sh (K : PySem.W.Frag) (H : Hp) : V → PyData → Prop
  | dat {v : V} {d : PyData} : Dp K H v d → d.hasDict = false → Sh K H v d
  | emp {a : Addr} : H a = some (.dK []) → Sh K H (.ref a) (.dict [])
theorem Dp.same {K : PySem.W.Frag} {H H' : Hp} (s : Same H H') : ∀ {d : PyData} {v : V}, Dp K H v d → Dp K H' v d := fun {d v} h => by
  exact Dp.rec (K := K) (H := H) (motive_1 := fun v d _ => Dp K H' v d) (motive_2 := fun vs ds _ => DpAll K H' vs ds)
    .non (fun b => .bl b) (fun i => .int i) (fun x => .str x) (fun hs _ ih => .lst (hs.ext s) ih) (fun hs _ ih => .tup (hs.ext s) ih) .nil (fun _ _ h1 h2 => .cons h1 h2) h
theorem Sh.same {K : PySem.W.Frag} {H H' : Hp} (s : Same H H') {d : PyData} {v : V} (h : Sh K H v d) : Sh K H' v d := by
  cases h with
  | dat h e => exact .dat (Dp.same s h) e
  | emp h => exact .emp (s _ _ h)
def reprD : PyData → Str
  | .none => "None"
  | .bool b => if b then "True" else "False"
  | .int i => toString i
  | .str x => reprText x
  | d => d.shown
/-- what repr needs -/
def Fits (d : PyData) : Prop := d.showable = true ∧ d.depth ≤ 20 ∧ d.shown.length ≤ sizeLine ∧ (∀ i, d = .int i → i.natAbs.log2 < 1920) ∧ (∀ x, d = .str x → (reprText x).length ≤ sizeLine)
def rRepr2 (K : PySem.W.Frag) : List V → Hp → VK → Prop := fun xs H Q => ∃ (v : V) (d : PyData), xs = [v] ∧ Sh K H v d ∧ Fits d ∧ Q (.str (reprD d)) H
theorem call_repr2 {X : Cx} {k : Nat} (hg : X.A.guards = some []) (hr : Room k X.A) : CallR X (.builtin "repr") (rRepr2 X.K) := by
  intro pins s σ H xs us Q I r h
  obtain ⟨v, d, rfl, hd, ⟨h1, h3, h4, h5, h6⟩, q⟩ := h
  obtain ⟨u, rfl, r1⟩ := vals1 r
  have hu := hr.units
  cases hd with
  | dat hd h2 =>
    obtain ⟨as, rd⟩ := Dp.reads I d _ u hd r1
    cases hd with
    | non =>
      cases r1
      exact PySem.P.repr_of_none ⟨.str _, H, I.tok _, ⟨_, rfl⟩, q⟩
    | bl b =>
      cases r1
      exact PySem.P.repr_of_bool ⟨.str _, H, I.tok _, ⟨_, rfl⟩, q⟩
    | int i =>
      obtain ⟨t, rfl⟩ := r1
      exact PySem.P.repr_of_int (h5 i rfl) ⟨.str _, H, I.tok _, ⟨_, rfl⟩, q⟩
    | str x =>
      obtain ⟨t, rfl⟩ := r1
      exact PySem.P.repr_of_str ⟨.str _, H, I.tok _, ⟨_, rfl⟩, q⟩ (h6 x rfl)
    | lst hs ha =>
      cases r1
      refine repr_of_reads' rd h1 (fun z => by rw [h2] at z; cases z) hg (by omega) (fun _ _ z => z) (fun h' u' tk kp => ?_) h4
      exact ⟨.str _, H, I.kept kp, ⟨u', rfl⟩, q⟩
    | tup hs ha =>
      cases r1
      refine repr_of_reads' rd h1 (fun z => by rw [h2] at z; cases z) hg (by omega) (fun _ _ z => z) (fun h' u' tk kp => ?_) h4
      exact ⟨.str _, H, I.kept kp, ⟨u', rfl⟩, q⟩
  | @emp a ha =>
    cases r1
    have hx : ObjOk X.prog X.w H s.heap a (.dK []) := I.hok a _ ha
    obtain ⟨z, hsm, vs, kv, hD⟩ := dk_of I.hok ha
    cases kv
    obtain ⟨o, es, ep, e1, e2, e3, _, e4, _⟩ := hD
    have e5 : es = #[] := by
      cases es with
      | mk l =>
        cases e4
        rfl
    subst e5
    have rd : Reads s.heap (.ref a) (.dict []) (a :: [] ++ []) := .dict e1 e2.1 e3 .nil .nil
    refine repr_of_reads' rd h1 (fun _ z => ?_) hg (by omega) (fun _ _ z => z) (fun h' u' tk kp => ?_) h4
    · have z1 : sysModules ∈ [a] := z
      rw [List.mem_singleton] at z1
      rw [← z1] at hsm
      cases hsm
    · exact ⟨.str _, H, I.kept kp, ⟨u', rfl⟩, q⟩
/-! ### plain values -/
def Pl (K : PySem.W.Frag) (H : Hp) (v : V) : Prop := (∃ n, v = .int n) ∨ ((∀ n, v ≠ .int n) ∧ ∃ t : String, TyX K H v (.type t) ∧ ∃ b, kitB t "int" = some b ∧ (b = true → kitB t "bool" = some true))
theorem pl_int {K : PySem.W.Frag} {H : Hp} (n : Int) : Pl K H (.int n) := .inl ⟨n, rfl⟩
theorem pl_bl {K : PySem.W.Frag} {H : Hp} (b : Bool) : Pl K H (.bl b) := .inr ⟨(fun n z => V.noConfusion z), "bool", .base (.bl b), true, (by decide +kernel), fun _ => by decide +kernel⟩
theorem pl_str {K : PySem.W.Frag} {H : Hp} (x : Str) : Pl K H (.str x) := .inr ⟨(fun n z => V.noConfusion z), "str", .base (.str x), false, (by decide +kernel), fun z => by cases z⟩
theorem pl_non {K : PySem.W.Frag} {H : Hp} : Pl K H .non := .inr ⟨(fun n z => V.noConfusion z), "NoneType", .base .non, false, (by decide +kernel), fun z => by cases z⟩
theorem pl_lst {K : PySem.W.Frag} {H : Hp} {a : Addr} {xs : List V} (h : H a = some (.lst xs)) : Pl K H (.ref a) := .inr ⟨(fun n z => V.noConfusion z), "list", .base (.lst h), false, (by decide +kernel), fun z => by cases z⟩
theorem pl_tup {K : PySem.W.Frag} {H : Hp} {a : Addr} {xs : List V} (h : H a = some (.tup xs)) : Pl K H (.ref a) := .inr ⟨(fun n z => V.noConfusion z), "tuple", .base (.tup h), false, (by decide +kernel), fun z => by cases z⟩
theorem pl_dK {K : PySem.W.Frag} {H : Hp} {a : Addr} {xs : List (Key × V)} (h : H a = some (.dK xs)) : Pl K H (.ref a) := .inr ⟨(fun n z => V.noConfusion z), "dict", .base (.dK h), false, (by decide +kernel), fun z => by cases z⟩
/-- a value that may stand where a cell or a kind is asked for: its items, if it is a tuple -/
def TupV (K : PySem.W.Frag) (H : Hp) (v : V) : Option (List V) → Prop
  | some xs => ∃ t, v = .ref t ∧ H t = some (.tup xs) ∧ xs.length ≤ 100 ∧ ∀ x ∈ xs, Pl K H x
  | none => ∃ t : String, TyX K H v (.type t) ∧ kitB t "tuple" = some false
theorem tv_int {K : PySem.W.Frag} {H : Hp} (n : Int) : TupV K H (.int n) none := ⟨"int", .base (.int n), by decide +kernel⟩
theorem tv_bl {K : PySem.W.Frag} {H : Hp} (b : Bool) : TupV K H (.bl b) none := ⟨"bool", .base (.bl b), by decide +kernel⟩
theorem tv_str {K : PySem.W.Frag} {H : Hp} (x : Str) : TupV K H (.str x) none := ⟨"str", .base (.str x), by decide +kernel⟩
theorem tv_non {K : PySem.W.Frag} {H : Hp} : TupV K H .non none := ⟨"NoneType", .base .non, by decide +kernel⟩
theorem tv_lst {K : PySem.W.Frag} {H : Hp} {a : Addr} {xs : List V} (h : H a = some (.lst xs)) : TupV K H (.ref a) none := ⟨"list", .base (.lst h), by decide +kernel⟩
theorem tv_dK {K : PySem.W.Frag} {H : Hp} {a : Addr} {xs : List (Key × V)} (h : H a = some (.dK xs)) : TupV K H (.ref a) none := ⟨"dict", .base (.dK h), by decide +kernel⟩
def isI : V → Bool
  | .int _ => true
  | _ => false
def inI (v : V) (a b : Int) : Bool := match v with
  | .int n => decide (a ≤ n) && decide (n ≤ b)
  | _ => false
theorem isI_no {v : V} (h : ∀ n, v ≠ .int n) : isI v = false := by
  cases v with
  | int n => exact absurd rfl (h n)
  | _ => rfl
theorem inI_no {v : V} {a b : Int} (h : ∀ n, v ≠ .int n) : inI v a b = false := by
  cases v with
  | int n => exact absurd rfl (h n)
  | _ => rfl
def cellB (n : Int) : Option (List V) → Bool
  | some [x, y] => inI x 0 (n - 1) && inI y 0 (n - 1)
  | _ => false
def kindB : Option (List V) → Bool
  | some [x, y, z] => inI x 0 1 && (inI y 0 2 && inI z 0 3)
  | _ => false
/-! ### promises -/
/-- an error of the class C flies, which keeps v -/
def Fl (E : XK) (C : Addr) (v : V) (H : Hp) : Prop := ∀ d H', Same H H' → H' d = some (.xd [("given", v)]) → E (.ref C) (some d) H'
def spWholeA (K : PySem.W.Frag) : Sp := fun vs H Q _ => ∃ v, vs = [v] ∧ Pl K H v ∧ Q (.bl (isI v)) H
def spWithinA (K : PySem.W.Frag) : Sp := fun vs H Q _ => ∃ (v : V) (a b : Int), vs = [v, .int a, .int b] ∧ Pl K H v ∧ Q (.bl (inI v a b)) H
def spCellA (K : PySem.W.Frag) : Sp := fun vs H Q _ => ∃ (n : Int) (v : V) (c : Option (List V)), vs = [.int n, v] ∧ TupV K H v c ∧ ∀ H', Same H H' → Q (.bl (cellB n c)) H'
def spKindA (K : PySem.W.Frag) : Sp := fun vs H Q _ => ∃ (v : V) (c : Option (List V)), vs = [v] ∧ TupV K H v c ∧ Q (.bl (kindB c)) H
def spSizeX (K : PySem.W.Frag) (C : Addr) : Sp := fun vs H Q E => ∃ v, vs = [v] ∧ Pl K H v ∧ (inI v 1 big = true → Q .non H) ∧ (inI v 1 big = false → Fl E C v H)
def spCellX (K : PySem.W.Frag) (C : Addr) : Sp := fun vs H Q E => ∃ (n : Int) (v : V) (c : Option (List V)), vs = [.int n, v] ∧ TupV K H v c ∧ (cellB n c = true → ∀ H', Same H H' → Q .non H') ∧ (cellB n c = false → Fl E C v H)
/-- a function of a size and a cell, or a size and a kind: C2 the error of the second one, ok if it is right -/
def spAsk (K : PySem.W.Frag) (C1 C2 : Addr) (ok : Int → Option (List V) → Bool) : Sp := fun vs H Q E => ∃ (v w : V) (c : Option (List V)), vs = [v, w] ∧ Pl K H v ∧ TupV K H w c ∧ (inI v 1 big = false → Fl E C1 v H) ∧
  ∀ n, v = .int n → 1 ≤ n → n ≤ big → (ok n c = false → Fl E C2 w H) ∧ (ok n c = true → ∀ x H', Same H H' → Q x H')
def spKindsX (K : PySem.W.Frag) (C1 : Addr) : Sp := fun vs H Q E => ∃ v, vs = [v] ∧ Pl K H v ∧ (inI v 1 big = false → Fl E C1 v H) ∧ (inI v 1 big = true → ∀ x H', Same H H' → Q x H')
theorem inI_of {v : V} {a b : Int} (h : inI v a b = true) : ∃ n, v = .int n ∧ a ≤ n ∧ n ≤ b := by
  cases v with
  | int n =>
    have h : (decide (a ≤ n) && decide (n ≤ b)) = true := h
    rw [Bool.and_eq_true, decide_eq_true_eq, decide_eq_true_eq] at h
    exact ⟨n, rfl, h⟩
  | _ => cases h
def spBad (K : PySem.W.Frag) (C1 C2 : Addr) (ok : Int → Option (List V) → Bool) : Sp := fun vs H Q E => ∃ (v w : V) (c : Option (List V)), vs = [v, w] ∧ Pl K H v ∧ TupV K H w c ∧
  ((inI v 1 big = false ∧ Fl E C1 v H) ∨ ∃ n, v = .int n ∧ 1 ≤ n ∧ n ≤ big ∧ ok n c = false ∧ Fl E C2 w H)
def spBadN (K : PySem.W.Frag) (C1 : Addr) : Sp := fun vs H Q E => ∃ v, vs = [v] ∧ Pl K H v ∧ inI v 1 big = false ∧ Fl E C1 v H
theorem FnOk.use {P : Program} {w : World} {K : PySem.W.Frag} {mg : Str → Option Value} {base : Heap} {CX : CXT} {k : Nat} {f : Addr} {fd : FuncData} {ps : List Str} {sp sp' : Sp} (F : FnOk P w K mg base CX k f fd ps sp) (h : ∀ vs H Q E, sp' vs H Q E → sp vs H Q E) : FnOk P w K mg base CX k f fd ps sp' := by
  refine ⟨fun vs H Q E q => F.len vs H Q E (h vs H Q E q), ?_⟩
  intro a1 a2 a3 a4 a5 a6 a7 a8 a9 b1 b2 b3 b4 q
  exact F.run a1 a2 a3 a4 a5 a6 a7 a8 a9 b1 b2 b3 b4 (h _ _ _ _ q)
theorem TyX.same {K : PySem.W.Frag} {H H' : Hp} {v : V} {t : Value} (e : Same H H') (h : TyX K H v t) : TyX K H' v t := by
  cases h with
  | base b =>
    cases b with
    | non => exact .base .non
    | bl x => exact .base (.bl x)
    | int i => exact .base (.int i)
    | str x => exact .base (.str x)
    | flt x => exact .base (.flt x)
    | lst h => exact .base (.lst (e _ _ h))
    | frz h => exact .base (.frz (e _ _ h))
    | tup h => exact .base (.tup (e _ _ h))
    | dK h => exact .base (.dK (e _ _ h))
    | dT h => exact .base (.dT (e _ _ h))
    | ins h cl ha hn htk hm => exact .base (.ins (e _ _ h) cl ha hn htk hm)
  | byt b => exact .byt b
  | set h => exact .set (e _ _ h)
  | kList h c => exact .kList h c
  | kTuple h c => exact .kTuple h c
  | kDict h c => exact .kDict h c
  | fTuple h => exact .fTuple (e _ _ h)
  | fDict h => exact .fDict (e _ _ h)
theorem Pl.same {K : PySem.W.Frag} {H H' : Hp} {v : V} (e : Same H H') (h : Pl K H v) : Pl K H' v := by
  rcases h with h | ⟨h, t, ty, k⟩
  · exact .inl h
  · exact .inr ⟨h, t, TyX.same e ty, k⟩
theorem TupV.same {K : PySem.W.Frag} {H H' : Hp} {v : V} {c : Option (List V)} (e : Same H H') (h : TupV K H v c) : TupV K H' v c := by
  cases c with
  | none =>
    obtain ⟨t, ty, k⟩ := h
    exact ⟨t, TyX.same e ty, k⟩
  | some xs =>
    obtain ⟨t, e1, e2, e3, e4⟩ := h
    exact ⟨t, e1, e _ _ e2, e3, fun x hx => (e4 x hx).same e⟩
theorem Fl.same {E : XK} {C : Addr} {v : V} {H H' : Hp} (h : Fl E C v H) (s : Same H H') : Fl E C v H' := fun d H2 s2 e => h d H2 (s.trans s2) e
/-! ### two promises of one function -/
theorem FnOk.toCX {P : Program} {w : World} {K : PySem.W.Frag} {mg : Str → Option Value} {base : Heap} {k : Nat} {f : Addr} {fd : FuncData} {ps : List Str} {sp : Sp} (F : FnOk P w K mg base CX0 k f fd ps sp) : FnOk P w K mg base (L2.CX P w) k f fd ps sp := by
  refine ⟨F.len, ?_⟩
  intros
  refine codeAny_mono (F.run _ _ _ _ _ _ _ _ _ ‹_› ‹_› ‹_› ‹_› ‹_›) fun r s' h => ?_
  match r, h with
  | .ok (.ret _), h => exact h
  | .ok .next, h => exact h
  | .ok .brk, h => exact h
  | .ok .cont, h => exact h
  | .error _, h => exact False.elim h
theorem FnOk.either {P : Program} {w : World} {K : PySem.W.Frag} {mg : Str → Option Value} {base : Heap} {CX : CXT} {k : Nat} {f : Addr} {fd : FuncData} {ps : List Str} {sp sp' : Sp} (F : FnOk P w K mg base CX k f fd ps sp) (G : FnOk P w K mg base CX k f fd ps sp') :
    FnOk P w K mg base CX k f fd ps (fun vs H Q E => sp vs H Q E ∨ sp' vs H Q E) := by
  refine ⟨fun vs H Q E h => h.elim (F.len vs H Q E) (G.len vs H Q E), ?_⟩
  intro a1 a2 a3 a4 a5 a6 a7 a8 a9 b1 b2 b3 b4 h
  rcases h with h | h
  · exact F.run a1 a2 a3 a4 a5 a6 a7 a8 a9 b1 b2 b3 b4 h
  · exact G.run a1 a2 a3 a4 a5 a6 a7 a8 a9 b1 b2 b3 b4 h
theorem cell_of {K : PySem.W.Frag} {H : Hp} {w : V} {c : Option (List V)} {n : Int} (h : TupV K H w c) (b : cellB n c = true) : ∃ (t : Addr) (q : Cell), w = .ref t ∧ H t = some (.tup [.int q.1, .int q.2]) ∧ InN n q := by
  match c, h, b with
  | some [x, y], h, b =>
    obtain ⟨t, e1, e2, _⟩ := h
    have b : (inI x 0 (n - 1) && inI y 0 (n - 1)) = true := b
    rw [Bool.and_eq_true] at b
    obtain ⟨i, rfl, i0, i1⟩ := inI_of b.1
    obtain ⟨j, rfl, j0, j1⟩ := inI_of b.2
    exact ⟨t, (i, j), e1, e2, ⟨i0, by show i < n; omega⟩, j0, by show j < n; omega⟩
theorem kind_ofB {K : PySem.W.Frag} {H : Hp} {w : V} {c : Option (List V)} (h : TupV K H w c) (b : kindB c = true) : ∃ (t : Addr) (x y z : Int), w = .ref t ∧ KindAt H t x y z ∧ KindR x y z := by
  match c, h, b with
  | some [x, y, z], h, b =>
    obtain ⟨t, e1, e2, _⟩ := h
    have b : (inI x 0 1 && (inI y 0 2 && inI z 0 3)) = true := b
    rw [Bool.and_eq_true, Bool.and_eq_true] at b
    obtain ⟨i, rfl, i0, i1⟩ := inI_of b.1
    obtain ⟨j, rfl, j0, j1⟩ := inI_of b.2.1
    obtain ⟨k, rfl, k0, k1⟩ := inI_of b.2.2
    exact ⟨t, i, j, k, e1, e2, ⟨i0, i1⟩, ⟨j0, j1⟩, k0, k1⟩
theorem cellB_len {n : Int} : ∀ {xs : List V}, xs.length ≠ 2 → cellB n (some xs) = false
  | [], _ => rfl
  | [_], _ => rfl
  | [_, _], h => absurd rfl h
  | _ :: _ :: _ :: _, _ => rfl
theorem kindB_len : ∀ {xs : List V}, xs.length ≠ 3 → kindB (some xs) = false
  | [], _ => rfl
  | [_], _ => rfl
  | [_, _], _ => rfl
  | [_, _, _], h => absurd rfl h
  | _ :: _ :: _ :: _ :: _, _ => rfl
end Sq
namespace Sq
open PySem L2 PySem.Spec PyProof.Rows
/-! ### data that repr shows -/
def lim40 : Int := 10000000000000000000000000000000000000000
def F0 (d : PyData) : Prop := d.showable = true ∧ d.leavesShort 1921 = true ∧ d.hasDict = false
theorem log_small {i : Int} (h1 : -lim40 ≤ i) (h2 : i ≤ lim40) : i.natAbs.log2 < 1920 := by
  by_cases h0 : i.natAbs = 0
  · rw [h0]
    decide
  · rw [Nat.log2_lt h0]
    have h3 : i.natAbs ≤ 10000000000000000000000000000000000000000 := by
      unfold lim40 at h1 h2
      omega
    have h4 : (10000000000000000000000000000000000000000 : Nat) < 2 ^ 1920 := by decide +kernel
    omega
theorem f0_int {i : Int} (h1 : -lim40 ≤ i) (h2 : i ≤ lim40) : F0 (.int i) := by
  have h := log_small h1 h2
  refine ⟨?_, ?_, ?_⟩
  · simp only [PyData.showable]
    exact decide_eq_true h
  · simp only [PyData.leavesShort]
    exact decide_eq_true (PyProof.Rows.int_text_len_1921 h)
  · simp only [PyData.hasDict]
theorem f0_bl (b : Bool) : F0 (.bool b) := ⟨by simp only [PyData.showable], by simp only [PyData.leavesShort], by simp only [PyData.hasDict]⟩
theorem f0_non : F0 .none := ⟨by simp only [PyData.showable], by simp only [PyData.leavesShort], by simp only [PyData.hasDict]⟩
theorem f0_str (x : Str) (h : (x.cps.toList.all fun c => decide (c < 16 ^ 8)) = true) : F0 (.str x) := ⟨by simp only [PyData.showable], by simp only [PyData.leavesShort]; exact h, by simp only [PyData.hasDict]⟩
theorem f0_all : ∀ {ds : List PyData}, (∀ d ∈ ds, F0 d) → PyData.showableAll ds = true ∧ PyData.leavesShortAll 1921 ds = true ∧ PyData.hasDictAll ds = false
  | [], _ => ⟨by simp only [PyData.showableAll], by simp only [PyData.leavesShortAll], by simp only [PyData.hasDictAll]⟩
  | d :: ds, h => by
    obtain ⟨a1, a2, a3⟩ := h d (List.mem_cons_self ..)
    obtain ⟨b1, b2, b3⟩ := f0_all fun x hx => h x (List.mem_cons_of_mem _ hx)
    refine ⟨by simp only [PyData.showableAll, a1, b1, Bool.and_self], by simp only [PyData.leavesShortAll, a2, b2, Bool.and_self], by simp only [PyData.hasDictAll, a3, b3, Bool.or_self]⟩
theorem f0_tup {ds : List PyData} (h : ∀ d ∈ ds, F0 d) : F0 (.tuple ds) := by
  obtain ⟨b1, b2, b3⟩ := f0_all h
  exact ⟨by simp only [PyData.showable, b1], by simp only [PyData.leavesShort, b2], by simp only [PyData.hasDict, b3]⟩
theorem f0_lst {ds : List PyData} (h : ∀ d ∈ ds, F0 d) : F0 (.list ds) := by
  obtain ⟨b1, b2, b3⟩ := f0_all h
  exact ⟨by simp only [PyData.showable, b1], by simp only [PyData.leavesShort, b2], by simp only [PyData.hasDict, b3]⟩
theorem fits_of {d : PyData} (h1 : d.showable = true) (h2 : d.leavesShort 1921 = true) (h3 : d.bulk ≤ 100) (h4 : d.depth ≤ 20) : Fits d := by
  have h5 := PyData.shown_le_bulk 1921 (by decide) d h2
  have h6 : d.shown.length ≤ sizeLine := by
    rw [sizeLine_eq]
    omega
  refine ⟨h1, h4, h6, fun i e => ?_, fun x e => ?_⟩
  · subst e
    simp only [PyData.showable] at h1
    exact of_decide_eq_true h1
  · subst e
    exact h6
theorem fits0 {d : PyData} (h : F0 d) (h3 : d.bulk ≤ 100) (h4 : d.depth ≤ 20) : Fits d := fits_of h.1 h.2.1 h3 h4
theorem fits_dict : Fits (.dict []) := fits_of (by decide) (by decide) (by decide) (by decide)
theorem inI_out {i a b : Int} (h : i < a ∨ b < i) : inI (.int i) a b = false := by
  show (decide (a ≤ i) && decide (i ≤ b)) = false
  rcases h with h | h
  · rw [decide_eq_false (by omega : ¬ a ≤ i)]
    rfl
  · rw [decide_eq_false (by omega : ¬ i ≤ b), Bool.and_false]
theorem cb1 {n : Int} {x y : V} (h : inI x 0 (n - 1) = false) : cellB n (some [x, y]) = false := by
  show (inI x 0 (n - 1) && inI y 0 (n - 1)) = false
  rw [h]
  rfl
theorem cb2 {n : Int} {x y : V} (h : inI y 0 (n - 1) = false) : cellB n (some [x, y]) = false := by
  show (inI x 0 (n - 1) && inI y 0 (n - 1)) = false
  rw [h, Bool.and_false]
theorem kb1 {x y z : V} (h : inI x 0 1 = false) : kindB (some [x, y, z]) = false := by
  show (inI x 0 1 && (inI y 0 2 && inI z 0 3)) = false
  rw [h]
  rfl
theorem kb2 {x y z : V} (h : inI y 0 2 = false) : kindB (some [x, y, z]) = false := by
  show (inI x 0 1 && (inI y 0 2 && inI z 0 3)) = false
  rw [h, Bool.false_and, Bool.and_false]
theorem kb3 {x y z : V} (h : inI z 0 3 = false) : kindB (some [x, y, z]) = false := by
  show (inI x 0 1 && (inI y 0 2 && inI z 0 3)) = false
  rw [h, Bool.and_false, Bool.and_false]
theorem fmn {α : Type} {p : α → Prop} : ∀ x ∈ ([] : List α), p x := fun _ h => by cases h
theorem fmc {α : Type} {p : α → Prop} {a : α} {l : List α} (h : p a) (r : ∀ x ∈ l, p x) : ∀ x ∈ a :: l, p x := fun x hx => by
  rcases List.mem_cons.mp hx with e | hx
  · rw [e]
    exact h
  · exact r x hx
theorem new_at {H : Hp} {p : Addr} {o : HO} (h : H p = none) : Same H (upd H p o) ∧ upd H p o p = some o := ⟨same_new h, upd_same⟩
/-! ### what the lists of odd values promise -/
def spOddS (K : PySem.W.Frag) : Sp := fun vs H Q _ => ∃ (p : Addr) (g : Int), vs = [.ref p, .int g] ∧ PurlAt H p ∧ 1 ≤ g ∧ g ≤ big ∧ ∀ v d H', (∀ H2, Off p H' H2 → Pl K H2 v ∧ Sh K H2 v d) → Fits d → inI v 1 big = false → PurlAt H' p → Off p H H' → Q v H'
def spOddC (K : PySem.W.Frag) : Sp := fun vs H Q _ => ∃ (p : Addr) (n r c : Int), vs = [.ref p, .int n, .int r, .int c] ∧ PurlAt H p ∧ InN n (r, c) ∧ n ≤ big ∧ ∀ v d cc H', (∀ H2, Off p H' H2 → TupV K H2 v cc ∧ Sh K H2 v d) → Fits d → cellB n cc = false → PurlAt H' p → Off p H H' → Q v H'
def spOddK (K : PySem.W.Frag) : Sp := fun vs H Q _ => ∃ p : Addr, vs = [.ref p] ∧ PurlAt H p ∧ ∀ v d cc H', (∀ H2, Off p H' H2 → TupV K H2 v cc ∧ Sh K H2 v d) → Fits d → kindB cc = false → PurlAt H' p → Off p H H' → Q v H'
end Sq
namespace Sq
open PySem L2 PySem.Spec PyProof.Rows
/-- a promise that is kept where no repr is under way, with all that a call asks -/
structure FBG (P : Program) (w : World) (K : PySem.W.Frag) (mg : Str → Option Value) (base : Heap) (x : Str) (k : Nat) (sp : Sp) : Prop where
  ex : ∃ f : Addr, FnG P w K mg base k f sp ∧ mg x = some (.ref f) ∧ PySem.W.keepIn K (.ref f) = true
section
variable {X : Cx} {j k : Nat} {x : Str} {p pos : Pos} {e : Expr} {es : List Expr} {t : TA} {sp : Sp}
theorem FnG.mono {P : Program} {w : World} {K : PySem.W.Frag} {mg : Str → Option Value} {base : Heap} {f : Addr} (F : FnG P w K mg base k f sp) : FnG P w K mg base k f sp := F
theorem pe_fbG (F : FBG X.prog X.w X.K X.mg X.base x k sp) (hg : X.A.guards = some []) (hr : Room j X.A) (hk : k ≤ j) (hgl : Gl X x) (ha : PA X (e :: es) t) (hdb : (x == ("__debug__" : Str)) = false := by decide)
    (he : starEach (e :: es) X.env = (false, eval e X.env) :: starEach es X.env := by rfl) (hpl : (backTo pos (starEach es X.env)).any (·.1) = false := by rfl) :
    PE X (.Call (.Name x p) (e :: es) [] pos) (tCallG sp t) := by
  obtain ⟨f, G, hm, kk⟩ := F.ex
  exact pe_callG G hg (hr.mono hk) hgl hm kk ha hdb he hpl
end
theorem noIn {v : V} {n a b : Int} (h : inI v a b = false) (e : v = .int n) (h1 : a ≤ n) (h2 : n ≤ b) : False := by
  subst e
  have h : (decide (a ≤ n) && decide (n ≤ b)) = false := h
  rw [decide_eq_true h1, decide_eq_true h2] at h
  cases h
theorem inI_in {n a b : Int} (h1 : a ≤ n) (h2 : n ≤ b) : inI (.int n) a b = true := by
  show (decide (a ≤ n) && decide (n ≤ b)) = true
  rw [decide_eq_true h1, decide_eq_true h2]
  rfl
theorem two_it {x a b : V} {i : Nat} (h : [a, b][i]? = some x) : x = a ∨ x = b := by
  have m := List.mem_of_getElem? h
  simpa using m
theorem three_it {x a b c : V} {i : Nat} (h : [a, b, c][i]? = some x) : x = a ∨ x = b ∨ x = c := by
  have m := List.mem_of_getElem? h
  simpa using m
/-! ### promises -/
def spSame2 (K : PySem.W.Frag) : Sp := fun vs H Q _ => ∃ (t : Addr) (x : Str) (v : V) (d : PyData), vs = [.ref t, .str x, v] ∧ H t = some (.tup [.str x, v]) ∧ Sh K H v d ∧ Fits d ∧ Q (.bl true) H
end Sq
namespace Sq
open PySem L2 PySem.Spec PyProof.Rows
/-! ### str(o) by a class's own __str__ -/
section
variable {prog : Program} {w : World}
theorem meets_strO (a : Addr) : MeetsIn prog w (Builtin.«str.__new__» ⟨[.type "str", .ref a], []⟩)
    (fun A R s => wpAny (model prog w) A.in1 (Builtin.Str.strOf (.ref a)) (fun r s' => R (.ok (.ret r)) s') (fun e s' => R (.error e) s') s) :=
  MeetsIn.of_wp fun A R s h => by
    rw [PySem.str_new_tree (.ref a)]
    refine wpAny_bind (wpAny_pure ?_)
    refine wpAny_bind (wpAny_of_eq isSubtype_str_str ?_)
    exact wpAny_bind (wpAny_mono h (fun r s' h' => wpAny_pure ⟨_, rfl, h'⟩) fun _ _ e => e)
end
section
variable {X : Cx} {k : Nat} {f C : Addr} {sp : Sp}
theorem call_strO (hs : PySem.W.findIn X.K (.ref C) "__str__" = some (some (.ref f))) (hf : PySem.W.isFn X.K (.ref f) = true) (F : FnR X.prog X.w X.K X.mg X.base CX0 k f sp) (hr : Room (k + 2) X.A) :
    CallR X (.type "str") (fun xs H Q => ∃ a dx fs, xs = [.ref a] ∧ H a = some (.ins C dx fs) ∧ sp [.ref a] H (fun v H' => ∃ z, v = .str z ∧ Q (.str z) H') E0) := by
  intro pins s σ H xs us Q I r h
  obtain ⟨a, dx, fs, rfl, ha, q⟩ := h
  obtain ⟨u, rfl, r1⟩ := vals1 r
  cases r1
  obtain ⟨mA, J, _⟩ := ins_get I.hok ha
  obtain ⟨od, J, _⟩ := J.look
  have hu : X.A.in1.in1.units < cLine := hr.in1.in1.units0
  refine callType_newIn PySem.F.called_str (by decide) (PySem.F.typeCall_str_1 _) (PySem.F.newCall_str_1 _) (fun obj => PySem.F.args_object_init_2 obj _) PySem.F.entry_str_new (meets_strO a) ?_
  show wpAny (model X.prog X.w) X.A.in1.in1 (Builtin.Str.strOf (.ref a)) _ _ s
  unfold Builtin.Str.strOf
  refine wpAny_bind (wpAny_cRoomFor hu ?_)
  refine wpAny_bind (PySem.W.special_fn I.kIn J hs (beq_iff_eq.mp hf) (wpAny_mono (run_below F hr.in1.in1 rfl I (rel1 a) q) (fun v s' hv => ?_) fun _ _ z => z))
  obtain ⟨y, H', I', ry, z, ey, q'⟩ := hv
  subst ey
  obtain ⟨t, rfl⟩ := ry
  refine wpAny_bind (wpAny_pure ?_)
  exact wpAny_pure ⟨PySem.typeIs_str _ _ _, ⟨.str z, H', I', ⟨_, rfl⟩, q'⟩⟩
end
end Sq
namespace Sq.N4
open PySem L2 TL
section
variable {P : Program} {w : World} {K : PySem.W.Frag} {mg : Str → Option Value} {base : Heap}
structure PY (P : Program) (w : World) (K : PySem.W.Frag) (mg : Str → Option Value) (base : Heap) (CP C : Addr) : Prop where
  pc : Pc K CP
  mP : mg "Program" = some (.ref CP)
  nc : Cls K C
  read : ∃ mc p g, ClX.CRead K CP mc ∧ ClX.CMet K CP mc "read" p g ∧ FnR P w K mg base CX0 7 g (spPRead K CP C)
  nests : ∃ p g d, PropOf K CP "nests" p g ∧ FnOk P w K mg base CX0 1 g d ["self"] (getSp CP "_nests") ∧ Binds K d ["self"] []
  mks : ∃ fp, Mk K CP fp ∧ FnR P w K mg base CX0 2 fp (spPMade CP C)
theorem ProgQ.off {K : PySem.W.Frag} {CP C p : Addr} {H H' : Hp} {a : Addr} {qs : List Part} (hp : PurlAt H p) (s : Off p H H') (h : ProgQ K CP C H a qs) : ProgQ K CP C H' a qs := by
  obtain ⟨m, d, hD⟩ := hp
  obtain ⟨⟨dx, tp, xs, h1, h2, h3, h4⟩, h5⟩ := h
  exact ⟨⟨dx, tp, xs, s _ _ (fun e => by rw [e, hD] at h1; cases h1) h1, s _ _ (fun e => by rw [e, hD] at h2; cases h2) h2, h3, fun i x n a b => NestIs.put hD s (h4 i x n a b)⟩, h5⟩
def dDue (b : Bool) (i : Int) : PyData := .list [.str (dueW b), .int i]
theorem lim3_log {i : Int} (h1 : -(lim * lim * lim) ≤ i) (h2 : i ≤ lim * lim * lim) : i.natAbs.log2 < 1920 := by
  by_cases h0 : i.natAbs = 0
  · rw [h0]
    decide
  · rw [Nat.log2_lt h0]
    have e : lim * lim * lim < 2 ^ 1920 := by decide +kernel
    have : (i.natAbs : Int) < 2 ^ 1920 := by
      generalize lim * lim * lim = l at *
      generalize (2 : Int) ^ 1920 = p at *
      omega
    exact_mod_cast this
theorem f0_wide {i : Int} (h1 : -(lim * lim * lim) ≤ i) (h2 : i ≤ lim * lim * lim) : F0 (.int i) := by
  have h := lim3_log h1 h2
  refine ⟨?_, ?_, ?_⟩
  · simp only [PyData.showable]
    exact decide_eq_true h
  · simp only [PyData.leavesShort]
    exact decide_eq_true (PyProof.Rows.int_text_len_1921 h)
  · simp only [PyData.hasDict]
theorem due_fits (b : Bool) {i : Int} (h1 : -(lim * lim * lim) ≤ i) (h2 : i ≤ lim * lim * lim) : (dDue b i).showable = true ∧ (dDue b i).hasDict = false ∧ (dDue b i).depth ≤ 20 ∧ (dDue b i).shown.length ≤ sizeLine := by
  have a := f0_str (dueW b) (by cases b <;> decide +kernel)
  have c : F0 (.int i) := f0_wide h1 h2
  have f : F0 (dDue b i) := f0_lst fun d hd => by
    simp only [List.mem_cons, List.not_mem_nil, or_false] at hd
    rcases hd with rfl | rfl
    · exact a
    · exact c
  have z := PyData.shown_le_bulk 1921 (by decide) (dDue b i) f.2.1
  have wl : (dueW b).cps.size ≤ 5 := by cases b <;> decide +kernel
  have bk : (dDue b i).bulk ≤ 100 := by
    simp only [dDue, PyData.bulk, PyData.bulkAll]
    omega
  refine ⟨f.1, f.2.2, ?_, ?_⟩
  · simp only [dDue, PyData.depth, PyData.depthAll]
    omega
  · rw [sizeLine_eq]
    omega
theorem due_lay (b : Bool) (i : Int) : (dDue b i).canLay0 = true ∧ (dDue b i).depth ≤ 60 := by
  have e : PyData.strOk (dueW b) = true := by cases b <;> decide +kernel
  refine ⟨?_, ?_⟩
  · simp only [dDue, PyData.canLay0, PyData.canLayAll0, e, Bool.and_true]
  · simp only [dDue, PyData.depth, PyData.depthAll]
    omega
theorem due_eqv (b : Bool) (i n : Int) : PyData.eqv (dDue b i) (dDue true n) = (b && (i == n)) := by
  have e : PyData.eqv (dDue b i) (dDue true n) = ((dueW b == dueW true) && ((i == n) && true)) := rfl
  rw [e, Bool.and_true]
  cases b
  · rw [show (dueW false == dueW true) = false by decide +kernel]
  · rw [show (dueW true == dueW true) = true by decide +kernel]
theorem tot_lim {qs : List Part} (ok : ∀ q ∈ qs, PartOk q) {n : Int} (n14 : 14 ≤ n) (nb : n ≤ big) (ql : qs.length ≤ 4) : -(lim * lim * lim) ≤ cntQ (qs.map toQ) n ∧ cntQ (qs.map toQ) n ≤ lim * lim * lim := by
  have hb : 14 + n % 2 = 14 ∨ 14 + n % 2 = 15 := by omega
  obtain ⟨s, hs, en⟩ : ∃ s : Int, 0 ≤ s ∧ n = 14 + n % 2 + 2 * s := ⟨(n - (14 + n % 2)) / 2, by omega, by omega⟩
  generalize 14 + n % 2 = b at *
  have hC := cnt_onw ok hb hs
  rw [← en] at hC
  have b0 := cnt_le2 (n := b) (by omega) (by omega) ok
  have b2 := cnt_le2 (n := b + 2) (by omega) (by omega) ok
  have b4 := cnt_le2 (n := b + 4) (by omega) (by omega) ok
  rw [hC]
  generalize (qs.map fun q => (turnsN q b : Int)).sum = x at *
  generalize (qs.map fun q => (turnsN q (b + 2) : Int)).sum = y at *
  generalize (qs.map fun q => (turnsN q (b + 4) : Int)).sum = z at *
  have lb := lim_big
  have l0 : (100000 : Int) ≤ lim := by decide +kernel
  have sl' : s ≤ lim := by omega
  have te := tri_even s
  have p1 : 0 ≤ s * (s - 1) ∧ s * (s - 1) ≤ lim * lim := by
    by_cases h : s = 0
    · subst h
      exact ⟨by decide, by decide +kernel⟩
    · exact ⟨Int.mul_nonneg hs (by omega), Int.mul_le_mul sl' (by omega) (by omega) (by omega)⟩
  have q1 : -(lim * 100000) ≤ s * (y - x) ∧ s * (y - x) ≤ lim * 100000 := by
    have u1 : s * (y - x) ≤ s * 100000 := Int.mul_le_mul_of_nonneg_left (by omega) hs
    have u2 : s * -100000 ≤ s * (y - x) := Int.mul_le_mul_of_nonneg_left (by omega) hs
    have u3 : s * 100000 ≤ lim * 100000 := Int.mul_le_mul_of_nonneg_right sl' (by decide)
    omega
  unfold onw
  generalize s * (s - 1) / 2 = m at *
  have m0 : 0 ≤ m ∧ m ≤ lim * lim := by omega
  have r1 : -(lim * lim * 100000) ≤ m * (z - 2 * y + x) ∧ m * (z - 2 * y + x) ≤ lim * lim * 100000 := by
    have u1 : m * (z - 2 * y + x) ≤ m * 100000 := Int.mul_le_mul_of_nonneg_left (by omega) m0.1
    have u2 : m * -100000 ≤ m * (z - 2 * y + x) := Int.mul_le_mul_of_nonneg_left (by omega) m0.1
    have u3 : m * 100000 ≤ lim * lim * 100000 := Int.mul_le_mul_of_nonneg_right m0.2 (by decide)
    omega
  have fin : lim * 100000 + lim * lim * 100000 + 100000 ≤ lim * lim * lim := by decide +kernel
  omega
/-- what is asked of the nests one by one -/
def SinV (D : Addr) (H : Hp) (n : Int) : List Addr → List Part → Prop
  | [], [] => True
  | z :: zs, q :: qs => (z ≠ D ∧ H z = some (.lst [.str (dueW (fallsQ [toQ q] n)), .int (dueI (fallsQ [toQ q] n) n (cntQ [toQ q] n))])) ∧ SinV D H n zs qs
  | _, _ => False
theorem SinV.keep {D : Addr} {H H' : Hp} {n : Int} (e : ∀ b o, b ≠ D → H b = some o → H' b = some o) : ∀ {zs : List Addr} {qs : List Part}, SinV D H n zs qs → SinV D H' n zs qs
  | [], [], _ => True.intro
  | _ :: _, _ :: _, h => ⟨⟨h.1.1, e _ _ h.1.1 h.1.2⟩, SinV.keep e h.2⟩
  | [], _ :: _, h => h.elim
  | _ :: _, [], h => h.elim
theorem SinV.len {D : Addr} {H : Hp} {n : Int} : ∀ {zs : List Addr} {qs : List Part}, SinV D H n zs qs → zs.length = qs.length
  | [], [], _ => rfl
  | _ :: _, _ :: _, h => congrArg (· + 1) h.2.len
  | [], _ :: _, h => h.elim
  | _ :: _, [], h => h.elim
theorem SinV.get {D : Addr} {H : Hp} {n : Int} : ∀ {zs : List Addr} {qs : List Part}, SinV D H n zs qs → ∀ (i : Nat) (z : Addr), zs[i]? = some z → ∃ q, qs[i]? = some q ∧ H z = some (.lst [.str (dueW (fallsQ [toQ q] n)), .int (dueI (fallsQ [toQ q] n) n (cntQ [toQ q] n))])
  | [], [], _, i, t, h => by cases h
  | _ :: _, x :: _, h, 0, t, e => by cases e; exact ⟨x, rfl, h.1.2⟩
  | _ :: _, _ :: _, h, i + 1, t, e => h.2.get i t e
  | [], _ :: _, h, _, _, _ => h.elim
  | _ :: _, [], h, _, _, _ => h.elim
theorem SinV.snoc {D : Addr} {H : Hp} {n : Int} {z : Addr} {q : Part} (nz : z ≠ D) (k : H z = some (.lst [.str (dueW (fallsQ [toQ q] n)), .int (dueI (fallsQ [toQ q] n) n (cntQ [toQ q] n))])) : ∀ {zs : List Addr} {qs : List Part}, SinV D H n zs qs → SinV D H n (zs ++ [z]) (qs ++ [q])
  | [], [], _ => ⟨⟨nz, k⟩, True.intro⟩
  | _ :: _, _ :: _, h => ⟨h.1, h.2.snoc nz k⟩
  | [], _ :: _, h => h.elim
  | _ :: _, [], h => h.elim
theorem SinV.dp {K : PySem.W.Frag} {D : Addr} {H : Hp} {n : Int} : ∀ {zs : List Addr} {qs : List Part}, SinV D H n zs qs → DpAll K H (zs.map V.ref) (qs.map fun q => dDue (fallsQ [toQ q] n) (dueI (fallsQ [toQ q] n) n (cntQ [toQ q] n)))
  | [], [], _ => .nil
  | _ :: _, _ :: _, h => .cons (.lst (SqL.of h.1.2) (.cons (.str _) (.cons (.int _) .nil))) h.2.dp
  | [], _ :: _, h => h.elim
  | _ :: _, [], h => h.elim
theorem falls_any (qs : List Part) (n : Int) : ((qs.map fun q => dDue (fallsQ [toQ q] n) (dueI (fallsQ [toQ q] n) n (cntQ [toQ q] n))).any fun z => PyData.eqv z (dDue true n)) = fallsQ (qs.map toQ) n := by
  rw [List.any_map]
  have e : fallsQ (qs.map toQ) n = qs.any fun q => fallsQ [toQ q] n := by
    unfold fallsQ
    rw [List.any_map]
    refine congrArg (fun f => List.any qs f) (funext fun q => ?_)
    simp
  rw [e]
  refine congrArg (fun f => List.any qs f) (funext fun q => ?_)
  show PyData.eqv (dDue (fallsQ [toQ q] n) _) (dDue true n) = fallsQ [toQ q] n
  rw [due_eqv]
  cases h : fallsQ [toQ q] n
  · rfl
  · have e : dueI true n (cntQ [toQ q] n) = n := rfl
    rw [e]
    simp
theorem cnt_singles (qs : List Part) (n : Int) : cntQ (qs.map toQ) n = (qs.map fun q => cntQ [toQ q] n).sum := by
  unfold cntQ
  rw [List.map_map]
  refine congrArg List.sum (List.map_congr_left fun q _ => ?_)
  simp
theorem no_single {qs : List Part} {n : Int} (h : fallsQ (qs.map toQ) n = false) {q : Part} (hq : q ∈ qs) : fallsQ [toQ q] n = false := by
  cases e : fallsQ [toQ q] n with
  | false => rfl
  | true =>
    have z : fallsB (spanOf n (toQ q)) n = true := by
      have : (fallsB (spanOf n (toQ q)) n || false) = true := e
      rw [Bool.or_false] at this
      exact this
    rw [fallsQ_mem hq z] at h
    cases h
def spFits : Sp := fun vs H Q _ => ∃ p : Addr, vs = [.ref p] ∧ PurlAt H p ∧ ∀ H', PurlAt H' p → Off p H H' → Q (.bl true) H'
theorem shaped_lst1 (n : Int) : PySem.SeqAt.shaped (dDue true n) = true := by
  refine shaped_lst fun d hd => ?_
  simp only [List.mem_cons, List.not_mem_nil, or_false] at hd
  rcases hd with rfl | rfl
  · exact ⟨by simp only [PyData.canLay0]; decide +kernel, by simp only [PyData.depth]; omega⟩
  · exact ⟨by simp only [PyData.canLay0], by simp only [PyData.depth]; omega⟩
abbrev s__law_fits : Stmt := top 70
theorem sc__law_fits : FnScope ["_law_purl_here", "_law_plan", "_law_program", "_law_turn", "_law_size", "_law_due_here", "_law_single", "_law_nest", "_law_told"] ["_law_purl_here"] (defScope s__law_fits) := ⟨rfl, rfl, rfl, by decide +kernel, rfl, by decide +kernel, by decide +kernel⟩
theorem ok__law_fits {f : Addr} {fd : FuncData} {CP C : Addr} (Y : PY P w K mg base CP C) (G__law_loops : FB P w K mg base "_law_loops" 3 ["_law_purl_here", "_law_most"] spLoops) (G__law_text : FB P w K mg base "_law_text" 3 ["_law_plan"] spText) (G__law_dig : FB P w K mg base "_law_dig" 1 ["_law_purl_here", "_law_many"] spDig) (G__law_far : FB P w K mg base "_law_far" 2 ["_law_purl_here"] spFar) (G__law_due : FB P w K mg base "_law_due" 3 ["_law_plan", "_law_size"] spDue) (G__law_answer : FB P w K mg base "_law_answer" 6 ["_law_program", "_law_size"] (spAnswer K CP C)) (F : Fun K "_law_fits" "_law_fits" s__law_fits f fd) (B : Binds K fd ["_law_purl_here"] []) (T : Bt mg) (rp : mg "repr" = none) : FnG P w K mg base 9 f spFits := by
  refine FnG.of F sc__law_fits B (fun vs H Q h => ?_) (fun cdv A fr s H vs Q hgd hr h => ?_)
  · obtain ⟨p, rfl, _⟩ := h
    rfl
  · obtain ⟨mc, prd, grd, CR1, CM, GRd⟩ := Y.read
    obtain ⟨pN, gN, dN, PNp, GNp, BNp⟩ := Y.nests
    obtain ⟨fp, mkp, GI⟩ := Y.mks
    obtain ⟨p, rfl, hp, q⟩ := h
    refine ⟨_, (pss_cons (ps_set (i := 1) sc__law_fits.nd rfl (by first | exact .inl rfl | exact .inr rfl) (pe_fb G__law_loops hr (by decide) (by rfl) (pa_cons (pv 0) (pa_cons pe_int pa_nil))))
        (pss_cons (ps_set (i := 2) sc__law_fits.nd rfl (by first | exact .inl rfl | exact .inr rfl) (ClX.pe_cmeth (pe_glob (v := .ref CP) (by rfl) Y.mP rfl) CR1 CM GRd (hr.mono (show 7 ≤ 8 by decide)) pass0 (pa_cons (pe_fb G__law_text hr (by decide) (by rfl) (pa_cons (pv 1) pa_nil)) pa_nil)))
        (pss_cons (ps_for PassesOwn.never rfl (pi_range1 (by rfl) T.range (pa_cons pe_int pa_nil)) (pg_name (i := 3) sc__law_fits.nd rfl (by first | exact .inl rfl | exact .inr rfl))
        (pss_cons (ps_set (i := 4) sc__law_fits.nd rfl (by first | exact .inl rfl | exact .inr rfl) (pe_ifExp (pt_cmpR op_gt (pe_fb G__law_dig hr (by decide) (by rfl) (pa_cons (pv 0) (pa_cons pe_int pa_nil))) pe_int (nomark _)) (pe_callB (call_max2 rfl) (by rfl) T.max (by decide +kernel) (pa_cons pe_int (pa_cons (pe_fb G__law_far hr (by decide) (by rfl) (pa_cons (pv 0) pa_nil)) pa_nil))) (pe_op op_add pe_int (pe_fb G__law_dig hr (by decide) (by rfl) (pa_cons (pv 0) (pa_cons pe_int pa_nil))))))
        (pss_cons (ps_set (i := 5) sc__law_fits.nd rfl (by first | exact .inl rfl | exact .inr rfl) (pe_fb G__law_due hr (by decide) (by rfl) (pa_cons (pv 1) (pa_cons (pv 4) pa_nil))))
        (pss_cons (ps_if (pt_cmpR op_ne (pe_callB (call_repr hgd hr) (by rfl) rp (by decide +kernel) (pa_cons (pe_fb G__law_answer hr (by decide) (by rfl) (pa_cons (pv 2) (pa_cons (pv 4) pa_nil))) pa_nil)) (pe_callB (call_repr hgd hr) (by rfl) rp (by decide +kernel) (pa_cons (pv 5) pa_nil)) (nomark _))
        (pss_one (ps_ret pe_bl))
        pss_nil)
        (pss_cons (ps_setLc (i := 6) (own := [("_law_nest", 7)]) (g := gName 7) (by rfl) sc__law_fits.nd rfl rfl (by rfl) (pi_tup (pe_prop (pv 2) Y.pc.cl PNp GNp (hr.mono (show 2 ≤ 8 by decide)) BNp .nil pass0 rfl)) (blkOk_by (own := [("_law_nest", 7)]) (N := ["_law_purl_here", "_law_plan", "_law_program", "_law_turn", "_law_size", "_law_due_here", "_law_single", "_law_nest", "_law_told"]) (sc := defScope s__law_fits) (by decide +kernel))
            (fun _ _ _ _ _ => (pg_name (i := 7) sc__law_fits.nd rfl (by first | exact .inl rfl | exact .inr rfl))) (fun _ _ _ _ _ => pts_nil) (fun _ _ _ _ _ => (pe_fb G__law_answer hr (by decide) (by rfl) (pa_cons (show PE _ _ (StX.tMakeR CP (spPMade CP C) E0 (tCons (tVar 7) tNil)) from StX.pe_makeR mkp GI (hr.mono (show 3 ≤ 8 by decide)) (by rfl) Y.mP pass0 (pa_cons (pv 7) pa_nil)) (pa_cons (pv 4) pa_nil)))))
        (pss_cons (ps_if (PW.pt (pw_and (pt_cmpR op_eq (pe_ix ix_list (pv 5) pe_int (fun _ _ => rfl)) pe_str (nomark _)) (pw_and1 (pt_cmpR op_ne (pe_callB (cr_sum (by rfl)) (by rfl) T.sum (by decide +kernel) (pa_cons (pe_lc (own := [("_law_told", 8)]) (g := gName 8) (by rfl) sc__law_fits.nd (pi_list (pv 6)) (blkOk_by (own := [("_law_told", 8)]) (N := ["_law_purl_here", "_law_plan", "_law_program", "_law_turn", "_law_size", "_law_due_here", "_law_single", "_law_nest", "_law_told"]) (sc := defScope s__law_fits) (by decide +kernel))
            (fun _ _ _ _ _ => (pg_name (i := 8) sc__law_fits.nd rfl (by first | exact .inl rfl | exact .inr rfl))) (fun _ _ _ _ _ => pts_nil) (fun _ _ _ _ _ => (show PE _ _ (tOp (rIxL K) (tVar 8) (tC (.int 1))) from pe_ix ix_list (pv 8) pe_int (fun _ _ => rfl)))) pa_nil)) (pe_ix ix_list (pv 5) pe_int (fun _ _ => rfl)) (nomark _)))))
        (pss_one (ps_ret pe_bl))
        pss_nil)
        (pss_one (ps_if (pt_cmpR op_ne (pe_cmpR op_eq (pe_ix ix_list (pv 5) pe_int (fun _ _ => rfl)) pe_str (nomark _)) (pe_cmpR (op_inD (un65 hr)) (pe_lst (pa_cons pe_str (pa_cons (pv 4) pa_nil))) (pv 6) (by with_unfolding_all rfl)) (nomark _))
        (pss_one (ps_ret pe_bl))
        pss_nil))))))))
        (pss_one (ps_ret pe_bl))))), ?_⟩
    have bigL : 10000 ≤ sizeLine := by decide
    refine ⟨_, rfl, p, rfl, hp, fun D qs H1 hp1 o1 ⟨hDp, hD, hDo⟩ ql okq => ?_⟩
    have ok : ∀ z ∈ qs, PartOk z := fun z hz => (okq z hz).1
    have nt := nests_t ok
    have nlen : ((qs.map toQ).map Part.nest).length ≤ 4 := by rw [List.length_map, List.length_map]; omega
    simp only [L2.start, List.map_cons, List.map_nil, List.length_cons, List.length_nil, Nat.reduceAdd, Nat.reduceSub, List.replicate_succ, List.replicate_zero, List.cons_append, List.nil_append, List.set_cons_zero, List.set_cons_succ]
    refine ⟨rfl, _, rfl, D, qs, rfl, hD, ok, by omega, fun H2 s2 => ?_⟩
    refine ⟨_, rfl, prog_ok nt (by omega), prog_right nt nlen, fun x H4 s3 hx => ?_⟩
    rw [prog_nests nt] at hx
    have hx4 : ProgQ K CP C H4 x (qs.map toQ) := ⟨hx, fun z hz => by
      obtain ⟨y, hy, rfl⟩ := List.mem_map.mp hz
      exact (ok y hy).toQ, by rw [List.length_map]; omega⟩
    have s14 : Same H1 H4 := s2.trans s3
    have hp4 := hp1.same s14
    simp only [L2.start, List.map_cons, List.map_nil, List.length_cons, List.length_nil, Nat.reduceAdd, Nat.reduceSub, List.replicate_succ, List.replicate_zero, List.cons_append, List.nil_append, List.set_cons_zero, List.set_cons_succ]
    refine ⟨2, rfl, by decide, by decide, ?_⟩
    refine for_range (n := 2) (fun i σ H' => (∃ v3 v4 v5 v6, σ = [some (.ref p), some (.ref D), some (.ref x), v3, v4, v5, v6, none, none]) ∧ PurlAt H' p ∧ Off p H4 H') ⟨⟨_, _, _, _, rfl⟩, hp4, fun _ _ _ h => h⟩ (fun i σ H' hi h => ?_) (fun σ H' h => ?_)
    · obtain ⟨⟨v3, v4, v5, v6, rfl⟩, hp', o'⟩ := h
      refine sq_ (set_ (gen_of (fun v H2 => ∃ n : Int, v = .int n ∧ 14 ≤ n ∧ n ≤ big ∧ PurlAt H2 p ∧ Off p H4 H2) (fun Q' k => ?_) ?_))
      · refine ⟨_, rfl, p, 3, rfl, hp', by decide, by decide, fun r H5 r0 r1 hp5 o5 => ?_⟩
        refine ⟨_, _, rfl, rfl, _, rfl, ?_⟩
        refine ite2 (fun _ => ?_) (fun _ => ?_)
        · refine ⟨_, rfl, p, rfl, hp5, fun r2 H6 r20 r21 hp6 o6 => ?_⟩
          refine ⟨_, _, rfl, k _ _ ⟨_, rfl, ?_, ?_, hp6, (o'.trans o5).trans o6⟩⟩
          · split <;> omega
          · have : (14 : Int) ≤ big := by decide
            have b2 : r2 ≤ big := r21
            split <;> omega
        · refine ⟨_, rfl, p, 60, rfl, hp5, by decide, by decide, fun r2 H6 r20 r21 hp6 o6 => ?_⟩
          refine ⟨_, _, rfl, rfl, k _ _ ⟨_, rfl, by omega, ?_, hp6, (o'.trans o5).trans o6⟩⟩
          have : (100 : Int) ≤ big := by decide
          omega
      rintro _ H5 ⟨n, rfl, n14, nbig, hp5, o5⟩
      have n1 : 1 ≤ n := by omega
      have hx5 := ProgQ.off hp4 o5 hx4
      have hD5 := hDo _ ((Same.off s14).trans o5)
      simp only [L2.start, List.map_cons, List.map_nil, List.length_cons, List.length_nil, Nat.reduceAdd, Nat.reduceSub, List.replicate_succ, List.replicate_zero, List.cons_append, List.nil_append, List.set_cons_zero, List.set_cons_succ]
      refine ⟨_, rfl, _, rfl, D, qs, n, rfl, hD5, ok, ql, n14, nbig, fun l H6 s6 hl => ?_⟩
      have hx6 := hx5.ext s6
      have tl3 := tot_lim ok n14 nbig ql
      generalize hfb : fallsQ (qs.map toQ) n = fb at *
      have lb := lim_big
      have ll := lim_le
      have dle : -(lim * lim * lim) ≤ dueI fb n (cntQ (qs.map toQ) n) ∧ dueI fb n (cntQ (qs.map toQ) n) ≤ lim * lim * lim := by
        unfold dueI
        split <;> omega
      obtain ⟨f1, f2, f3, f4⟩ := due_fits fb dle.1 dle.2
      simp only [L2.start, List.map_cons, List.map_nil, List.length_cons, List.length_nil, Nat.reduceAdd, Nat.reduceSub, List.replicate_succ, List.replicate_zero, List.cons_append, List.nil_append, List.set_cons_zero, List.set_cons_succ]
      refine ⟨_, rfl, _, rfl, x, n, qs.map toQ, rfl, hx6, n1, nbig, fun ap H7 s7 hap => ?_⟩
      rw [hfb] at hap
      refine ⟨ap, dDue fb (dueI fb n (cntQ (qs.map toQ) n)), rfl, .lst (SqL.of hap) (.cons (.str _) (.cons (.int _) .nil)), f1, f2, f3, f4, ?_⟩
      refine ⟨_, rfl, l, dDue fb (dueI fb n (cntQ (qs.map toQ) n)), rfl, .lst (SqL.of (s7 _ _ hl)) (.cons (.str _) (.cons (.int _) .nil)), f1, f2, f3, f4, rfl, _, rfl, ?_⟩
      rw [decide_eq_true rfl]
      refine iteF ?_
      have hx7 := hx6.ext s7
      have hl7 := s7 _ _ hl
      obtain ⟨dx, tp, bs, w1, w2, w3, w4⟩ := id hx7.1
      rw [List.length_map, List.length_map] at w3
      refine ⟨_, rfl, x, _, _, rfl, w1, x, _, _, .ref tp, rfl, w1, putN tp, tp, rfl, ⟨_, SqT.of w2⟩, fun E0 nE => ?_⟩
      refine lc_tup (K := K) (a := tp) (xs := bs.map V.ref) (fun j H' => Same H7 H' ∧ ∃ zs : List Addr, H' E0 = some (.lst (zs.map V.ref)) ∧ SinV E0 H' n zs (qs.take j)) ⟨same_new nE, [], upd_same, True.intro⟩ (fun j H' _ h => (SqT.of w2).ext h.1) (fun j y H' hj h => ?_) (fun H' h => ?_)
      · obtain ⟨sj, zs, hL, hz⟩ := h
        refine ⟨rfl, ?_⟩
        obtain ⟨b, hb, rfl⟩ : ∃ b, bs[j]? = some b ∧ y = .ref b := by
          rw [List.getElem?_map] at hj
          cases e : bs[j]? with
          | none => rw [e] at hj; cases hj
          | some r => rw [e] at hj; exact ⟨r, rfl, (Option.some.inj hj).symm⟩
        have hjl : j < qs.length := by rw [← w3]; exact (List.getElem?_eq_some_iff.mp hb).1
        have hqj : qs[j]? = some qs[j] := List.getElem?_eq_getElem hjl
        have hnb : NestIs K C H' b (toQ qs[j]).nest := (w4 j b _ hb (by rw [List.getElem?_map, List.getElem?_map, hqj]; rfl)).ext sj
        generalize qs[j] = qj at *
        have okj := ok qj (List.mem_of_getElem? hqj)
        obtain ⟨dy, dp, ⟨R2, y1, _⟩, _⟩ := id hnb
        refine ⟨_, rfl, fun xx dz nx ndz _ => made_prog (C := C) (xs := [b]) nx ndz (by show 1 ≤ 4; omega) (fun y hy => by rw [List.mem_singleton.mp hy]; exact ⟨_, _, y1⟩) fun H8 tz s8 hxx htz => ?_⟩
        have pq : ProgQ K CP C H8 xx [toQ qj] := ⟨⟨dz, tz, [b], hxx, htz, rfl, fun i y nn e1 e2 => by
          cases i with
          | zero => cases e1; cases e2; exact hnb.ext s8
          | succ i => cases e1⟩, fun z hz => by rw [List.mem_singleton.mp hz]; exact okj.toQ, by show 1 ≤ 6; omega⟩
        refine ⟨_, rfl, xx, n, [toQ qj], rfl, pq, n1, nbig, fun pz H9 s9 hpz => ?_⟩
        have hL9 := s9 _ _ (s8 _ _ hL)
        have nz : pz ≠ E0 := fun e => by
          rw [e, hL9] at hpz
          have e2 := HO.lst.inj (Option.some.inj hpz)
          cases zs with
          | nil => cases e2
          | cons a b => cases e2
        have zl := hz.len
        rw [List.length_take] at zl
        refine ⟨_, hL9, by rw [List.length_map]; omega, fun c o hc => ?_, zs ++ [pz], by rw [upd_same, List.map_append]; rfl, ?_⟩
        · rw [upd_ne (ne_of_none hc nE)]
          exact s9 c o (s8 c o (sj c o hc))
        · rw [List.take_add_one, hqj]
          exact SinV.snoc nz (by rw [upd_ne nz]; exact hpz) (hz.keep fun c o nc e => by rw [upd_ne nc]; exact s9 c o (s8 c o e))
      obtain ⟨sj, zs, hL, hz⟩ := h
      rw [List.length_map, w3, List.take_length] at hz
      have hl8 := sj _ _ hl7
      have oN : Off p H4 H' := ((o5.trans (Same.off s6)).trans (Same.off s7)).trans (Same.off sj)
      have pN := ((hp5.same s6).same s7).same sj
      simp only [L2.start, List.map_cons, List.map_nil, List.length_cons, List.length_nil, Nat.reduceAdd, Nat.reduceSub, List.replicate_succ, List.replicate_zero, List.cons_append, List.nil_append, List.set_cons_zero, List.set_cons_succ]
      refine sq_ (st_of (fun σ' H2 => σ' = [some (.ref p), some (.ref D), some (.ref x), some (.int (0 + (i : Int))), some (.int n), some (.ref l), some (.ref E0), none, none] ∧ Same H' H2) (fun D' k => ?_) ?_)
      · refine ⟨_, rfl, l, _, 0, _, rfl, rfl, SqL.of hl8, rfl, rfl, _, rfl, ?_⟩
        cases fb with
        | true =>
          rw [decide_eq_false (by decide +kernel)]
          exact iteF (iteF (k _ _ ⟨rfl, Same.refl _⟩))
        | false =>
          rw [decide_eq_true (by rfl)]
          refine iteT ?_
          refine ⟨_, rfl, E0, rfl, ⟨_, SqL.of hL⟩, fun F0' nF => ?_⟩
          refine lc_list (K := K) (a := E0) (xs := zs.map V.ref) (fun j H2 => Same H' H2 ∧ H2 F0' = some (.lst (((qs.take j).map fun z => cntQ [toQ z] n).map V.int))) ⟨same_new nF, upd_same⟩ (fun j H2 _ h => SqL.of (h.1 _ _ hL)) (fun j y H2 hj h => ?_) (fun H2 h => ?_)
          · obtain ⟨sk, hLk⟩ := h
            refine ⟨rfl, ?_⟩
            obtain ⟨z, hzz, rfl⟩ : ∃ z, zs[j]? = some z ∧ y = .ref z := by
              rw [List.getElem?_map] at hj
              cases e : zs[j]? with
              | none => rw [e] at hj; cases hj
              | some r => rw [e] at hj; exact ⟨r, rfl, (Option.some.inj hj).symm⟩
            obtain ⟨qj, hqj, hzv⟩ := hz.get j z hzz
            rw [no_single hfb (List.mem_of_getElem? hqj)] at hzv
            have hjl : j < qs.length := (List.getElem?_eq_some_iff.mp hqj).1
            refine ⟨_, rfl, z, _, 1, _, rfl, rfl, SqL.of (sk _ _ hzv), rfl, _, hLk, ?_, ?_, ?_⟩
            · rw [List.length_map, List.length_map, List.length_take]
              omega
            · intro c o hc
              rw [upd_ne (ne_of_none hc nF)]
              exact sk c o hc
            · rw [upd_same, List.take_add_one, hqj, List.map_append, List.map_append]
              rfl
          obtain ⟨sk, hLk⟩ := h
          rw [List.length_map, hz.len, List.take_length] at hLk
          refine ⟨F0', _, rfl, SqL.of hLk, _, rfl, l, _, 1, _, rfl, rfl, SqL.of (sk _ _ hl8), rfl, rfl, _, rfl, ?_⟩
          rw [decide_eq_true (show V.int (qs.map fun z => cntQ [toQ z] n).sum = V.int (dueI false n (cntQ (qs.map toQ) n)) by rw [← cnt_singles]; rfl)]
          exact iteF (k _ _ ⟨rfl, sk⟩)
      rintro _ H2 ⟨rfl, sk⟩
      refine ⟨_, rfl, l, _, 0, _, rfl, rfl, SqL.of (sk _ _ hl8), rfl, rfl, ?_⟩
      refine ⟨_, rfl, by show 2 ≤ sizeLine; omega, fun ql2 nql => ?_⟩
      have hz2 : SinV E0 (upd H2 ql2 (.lst [.str "falls", .int n])) n zs qs := hz.keep fun c o _ e => same_new nql c o (sk c o e)
      refine ⟨_, rfl, dDue true n, _, .lst (SqL.of upd_same) (.cons (.str _) (.cons (.int _) .nil)), .lst (SqL.of (same_new nql _ _ (sk _ _ hL))) hz2.dp, shaped_lst1 n, shaped_lst fun d hd => ?_, rfl, _, rfl, ?_⟩
      · obtain ⟨qj, _, rfl⟩ := List.mem_map.mp hd
        exact due_lay _ _
      · rw [falls_any, hfb]
        have e : decide (V.str (dueW fb) = V.str "falls") = fb := by cases fb <;> decide +kernel
        rw [e, decide_eq_true rfl]
        exact iteF ⟨⟨_, _, _, _, rfl⟩, pN.same (sk.trans (same_new nql)), oN.trans (Same.off (sk.trans (same_new nql)))⟩
    · obtain ⟨_, hp', o'⟩ := h
      exact q H' hp' ((o1.trans (Same.off s14)).trans o')
abbrev s_law : Stmt := top 71
theorem sc_law : FnScope ["_law_script", "_law_spot", "_law_purl_here", "_law_turn"] ["_law_script"] (defScope s_law) := ⟨rfl, rfl, rfl, by decide +kernel, rfl, by decide +kernel, by decide +kernel⟩
theorem ok_law {f : Addr} {fd : FuncData} (G__law_purl : FB P w K mg base "_law_purl" 1 ["_law_script", "_law_spot"] (spPurl K)) (G__law_fits : FBG P w K mg base "_law_fits" 9 spFits) (F : Fun K "law" "law" s_law f fd) (B : Binds K fd ["_law_script"] []) (T : Bt mg) (rp : mg "repr" = none) : FnG P w K mg base 10 f (spLaw K) := by
  refine FnG.of F sc_law B (fun vs H Q h => ?_) (fun cdv A fr s H vs Q hgd hr h => ?_)
  · obtain ⟨a, ns, rfl, _⟩ := h
    rfl
  · obtain ⟨a, ns, rfl, hS, hl, q⟩ := h
    refine ⟨_, (pss_cons (ps_for PassesOwn.never rfl (pi_range1 (by rfl) T.range (pa_cons (pe_callB (call_max2 rfl) (by rfl) T.max (by decide +kernel) (pa_cons pe_int (pa_cons (pe_callB (call_min2 rfl) (by rfl) T.min (by decide +kernel) (pa_cons (pe_callB call_len_seq (by rfl) T.len PySem.boot_len (pa_cons (pv 0) pa_nil)) (pa_cons pe_int pa_nil))) pa_nil))) pa_nil)) (pg_name (i := 1) sc_law.nd rfl (by first | exact .inl rfl | exact .inr rfl))
        (pss_cons (ps_set (i := 2) sc_law.nd rfl (by first | exact .inl rfl | exact .inr rfl) (pe_fb G__law_purl hr (by decide) (by rfl) (pa_cons (pv 0) (pa_cons (pv 1) pa_nil))))
        (pss_one (ps_for PassesOwn.never rfl (pi_range1 (by rfl) T.range (pa_cons pe_int pa_nil)) (pg_name (i := 3) sc_law.nd rfl (by first | exact .inl rfl | exact .inr rfl))
        (pss_one (ps_if (pt_not (pt_val (pe_fbG G__law_fits hgd hr (by decide) (by rfl) (pa_cons (pv 2) pa_nil))))
        (pss_one (ps_ret pe_bl))
        pss_nil))))))
        (pss_one (ps_ret pe_bl))), ?_⟩
    refine ⟨_, rfl, a, _, rfl, .inl hS, _, _, rfl, _, _, rfl, ?_⟩
    rw [List.length_map]
    have hc : ∀ L : Int, 0 ≤ L → -(2 ^ 62) ≤ (if (if (6 : Int) < L then 6 else L) > 2 then (if (6 : Int) < L then 6 else L) else 2) ∧ (if (if (6 : Int) < L then 6 else L) > 2 then (if (6 : Int) < L then 6 else L) else 2) < 2 ^ 62 ∧
        (if (if (6 : Int) < L then 6 else L) > 2 then (if (6 : Int) < L then 6 else L) else 2).toNat ≤ 6 := by
      intro L hL
      split <;> split <;> refine ⟨?_, ?_, ?_⟩ <;> omega
    obtain ⟨hc1, hc2, hc3⟩ := hc (ns.length : Int) (Int.natCast_nonneg _)
    generalize (if (if (6 : Int) < (ns.length : Int) then 6 else (ns.length : Int)) > 2 then (if (6 : Int) < (ns.length : Int) then 6 else (ns.length : Int)) else 2) = lim at *
    refine ⟨lim, rfl, hc1, hc2, ?_⟩
    refine for_range (n := lim.toNat) (fun j σ H' => ∃ v1 v2 v3 : Option V, σ = [some (.ref a), v1, v2, v3] ∧ Same H H') ⟨_, _, _, rfl, Same.refl _⟩ (fun j σ H' hj h => ?_) (fun σ H' h => ?_)
    · obtain ⟨v1, v2, v3, rfl, s3⟩ := h
      rw [Int.zero_add]
      refine ⟨_, rfl, _, rfl, a, ns, j, rfl, SqL.ext hS s3, hl, by omega, fun p H3 np hp s4 => ?_⟩
      refine ⟨3, rfl, by decide, by decide, ?_⟩
      refine for_range (n := 3) (fun i σ H4 => ∃ v1 v3 : Option V, σ = [some (.ref a), v1, some (.ref p), v3] ∧ PurlAt H4 p ∧ Off p H3 H4) ⟨_, _, rfl, hp, fun _ _ _ h => h⟩ (fun i σ H4 hi h => ?_) (fun σ H4 h => ?_)
      · obtain ⟨v1, v3, rfl, hp4, o4⟩ := h
        refine ⟨_, rfl, p, rfl, hp4, fun H5 hp5 o5 => ⟨_, rfl, ?_⟩⟩
        exact iteF ⟨_, _, rfl, hp5, o4.trans o5⟩
      · obtain ⟨v1, v3, rfl, hp4, o4⟩ := h
        refine ⟨_, _, _, rfl, fun c y hc => ?_⟩
        have hc2 := s3 _ _ hc
        have ne : c ≠ p := fun e => by rw [e, np] at hc2; cases hc2
        exact o4 _ _ ne (s4 _ _ hc2)
    · obtain ⟨v1, v2, v3, rfl, s3⟩ := h
      exact q _
end
end Sq.N4
namespace Sq.N4
open PySem L2 TL
/-! ### what the top leaves, and the end -/
theorem all_mk {P : Program} {w : World} {K : PySem.W.Frag} {h : Heap} {mg : Str → Option Value} {fa : Addr}
    {tB : Addr} {esB : Array DictEntry} {epB : Nat}
    {tC : Addr} {esC : Array DictEntry} {epC : Nat}
    {tP : Addr} {esP : Array DictEntry} {epP : Nat}
    {tN : Addr} {esN : Array DictEntry} {epN : Nat}
    {tS : Addr} {doS : Option Addr} {itS : Array Value} {nmS : Nat} {soS : Array (Option Value)}
    {tR : Addr} {esR : Array DictEntry} {epR : Nat}
    {uM : Tok}
    {frl : Addr} {ocrl kVrl dcrl pmrl cdrl ctrl : Value} {odrl anrl : Option Addr} {slrl : Array (Option Value)}
    {fro : Addr} {ocro kVro dcro pmro cdro ctro : Value} {odro anro : Option Addr} {slro : Array (Option Value)}
    {ffw : Addr} {ocfw kVfw dcfw pmfw cdfw ctfw : Value} {odfw anfw : Option Addr} {slfw : Array (Option Value)}
    {frc : Addr} {ocrc kVrc dcrc pmrc cdrc ctrc : Value} {odrc anrc : Option Addr} {slrc : Array (Option Value)}
    {frd : Addr} {ocrd kVrd dcrd pmrd cdrd ctrd : Value} {odrd anrd : Option Addr} {slrd : Array (Option Value)}
    {C : Addr}
    {fm1 : Addr} {ocm1 kVm1 dcm1 pmm1 cdm1 ctm1 : Value} {odm1 anm1 : Option Addr} {slm1 : Array (Option Value)}
    {fg1 pg1 : Addr} {rsg1 : List Value} {ocg1 kVg1 dcg1 pmg1 cdg1 ctg1 : Value} {odg1 ang1 : Option Addr} {slg1 : Array (Option Value)}
    {fg2 pg2 : Addr} {rsg2 : List Value} {ocg2 kVg2 dcg2 pmg2 cdg2 ctg2 : Value} {odg2 ang2 : Option Addr} {slg2 : Array (Option Value)}
    {fg3 pg3 : Addr} {rsg3 : List Value} {ocg3 kVg3 dcg3 pmg3 cdg3 ctg3 : Value} {odg3 ang3 : Option Addr} {slg3 : Array (Option Value)}
    {CP : Addr}
    {fm5 : Addr} {ocm5 kVm5 dcm5 pmm5 cdm5 ctm5 : Value} {odm5 anm5 : Option Addr} {slm5 : Array (Option Value)}
    {fg4 pg4 : Addr} {rsg4 : List Value} {ocg4 kVg4 dcg4 pmg4 cdg4 ctg4 : Value} {odg4 ang4 : Option Addr} {slg4 : Array (Option Value)}
    {fcm pcm : Addr} {rscm : List Value} {occm kVcm dccm pmcm cdcm ctcm : Value} {odcm ancm : Option Addr} {slcm : Array (Option Value)}
    {uo : Tok}
    {ui : Tok}
    {u4 : Tok}
    {fbh : Addr} {ocbh kVbh dcbh pmbh cdbh ctbh : Value} {odbh anbh : Option Addr} {slbh : Array (Option Value)}
    {frb : Addr} {ocrb kVrb dcrb pmrb cdrb ctrb : Value} {odrb anrb : Option Addr} {slrb : Array (Option Value)}
    {fno : Addr} {ocno kVno dcno pmno cdno ctno : Value} {odno anno : Option Addr} {slno : Array (Option Value)}
    {CF fIF : Addr} {nmF qF : Str} {NF : Addr} {bsF bmF subF : List Value} {snF : List Str} {abF : Bool} {colF : Option Bool} {ddF : Option Addr} {m0F m1F m2F m3F m5F : Option Value} {ocIF kVIF dcIF pmIF cdIF ctIF : Value} {odIF anIF : Option Addr} {slIF : Array (Option Value)}
    {uMS : Tok}
    {fpa : Addr} {ocpa kVpa dcpa pmpa cdpa ctpa : Value} {odpa anpa : Option Addr} {slpa : Array (Option Value)}
    {fsa1 : Addr} {ocsa1 kVsa1 dcsa1 pmsa1 cdsa1 ctsa1 : Value} {odsa1 ansa1 : Option Addr} {slsa1 : Array (Option Value)}
    {fna : Addr} {ocna kVna dcna pmna cdna ctna : Value} {odna anna : Option Addr} {slna : Array (Option Value)}
    {ffw1 : Addr} {ocfw1 kVfw1 dcfw1 pmfw1 cdfw1 ctfw1 : Value} {odfw1 anfw1 : Option Addr} {slfw1 : Array (Option Value)}
    {fnc : Addr} {ocnc kVnc dcnc pmnc cdnc ctnc : Value} {odnc annc : Option Addr} {slnc : Array (Option Value)}
    {fso : Addr} {ocso kVso dcso pmso cdso ctso : Value} {odso anso : Option Addr} {slso : Array (Option Value)}
    {ffa1 : Addr} {ocfa1 kVfa1 dcfa1 pmfa1 cdfa1 ctfa1 : Value} {odfa1 anfa1 : Option Addr} {slfa1 : Array (Option Value)}
    {fiw : Addr} {ociw kViw dciw pmiw cdiw ctiw : Value} {odiw aniw : Option Addr} {sliw : Array (Option Value)}
    {fwi : Addr} {ocwi kVwi dcwi pmwi cdwi ctwi : Value} {odwi anwi : Option Addr} {slwi : Array (Option Value)}
    {fcs : Addr} {occs kVcs dccs pmcs cdcs ctcs : Value} {odcs ancs : Option Addr} {slcs : Array (Option Value)}
    {fcp : Addr} {occp kVcp dccp pmcp cdcp ctcp : Value} {odcp ancp : Option Addr} {slcp : Array (Option Value)}
    {frc1 : Addr} {ocrc1 kVrc1 dcrc1 pmrc1 cdrc1 ctrc1 : Value} {odrc1 anrc1 : Option Addr} {slrc1 : Array (Option Value)}
    {fpu : Addr} {ocpu kVpu dcpu pmpu cdpu ctpu : Value} {odpu anpu : Option Addr} {slpu : Array (Option Value)}
    {fdg : Addr} {ocdg kVdg dcdg pmdg cddg ctdg : Value} {oddg andg : Option Addr} {sldg : Array (Option Value)}
    {flo : Addr} {oclo kVlo dclo pmlo cdlo ctlo : Value} {odlo anlo : Option Addr} {sllo : Array (Option Value)}
    {fus : Addr} {ocus kVus dcus pmus cdus ctus : Value} {odus anus : Option Addr} {slus : Array (Option Value)}
    {fde : Addr} {ocde kVde dcde pmde cdde ctde : Value} {odde ande : Option Addr} {slde : Array (Option Value)}
    {fls : Addr} {ocls kVls dcls pmls cdls ctls : Value} {odls anls : Option Addr} {slls : Array (Option Value)}
    {fed : Addr} {oced kVed dced pmed cded cted : Value} {oded aned : Option Addr} {sled : Array (Option Value)}
    {flt : Addr} {oclt kVlt dclt pmlt cdlt ctlt : Value} {odlt anlt : Option Addr} {sllt : Array (Option Value)}
    {fsp : Addr} {ocsp kVsp dcsp pmsp cdsp ctsp : Value} {odsp ansp : Option Addr} {slsp : Array (Option Value)}
    {fdt : Addr} {ocdt kVdt dcdt pmdt cddt ctdt : Value} {oddt andt : Option Addr} {sldt : Array (Option Value)}
    {ftx : Addr} {octx kVtx dctx pmtx cdtx cttx : Value} {odtx antx : Option Addr} {sltx : Array (Option Value)}
    {fev : Addr} {ocev kVev dcev pmev cdev ctev : Value} {odev anev : Option Addr} {slev : Array (Option Value)}
    {fsh : Addr} {ocsh kVsh dcsh pmsh cdsh ctsh : Value} {odsh ansh : Option Addr} {slsh : Array (Option Value)}
    {fwd : Addr} {ocwd kVwd dcwd pmwd cdwd ctwd : Value} {odwd anwd : Option Addr} {slwd : Array (Option Value)}
    {fon : Addr} {ocon kVon dcon pmon cdon cton : Value} {odon anon : Option Addr} {slon : Array (Option Value)}
    {ffr : Addr} {ocfr kVfr dcfr pmfr cdfr ctfr : Value} {odfr anfr : Option Addr} {slfr : Array (Option Value)}
    {fdu : Addr} {ocdu kVdu dcdu pmdu cddu ctdu : Value} {oddu andu : Option Addr} {sldu : Array (Option Value)}
    {fan : Addr} {ocan kVan dcan pman cdan ctan : Value} {odan anan : Option Addr} {slan : Array (Option Value)}
    {fft : Addr} {ocft kVft dcft pmft cdft ctft : Value} {odft anft : Option Addr} {slft : Array (Option Value)}
    {fL : Addr} {ocL kVL dcL pmL cdL ctL : Value} {odL anL : Option Addr} {slL : Array (Option Value)}
    (X : K.In h) (G : h.Ns mainGlobals mg) (hfa : mg "law" = some (.ref fa))
    (dB : PySem.W.nsIn K mainGlobals "BOUNDS" = some (some (.ref tB)))
    (jB : K.lookup tB = some ⟨.type "dict", none, .dict esB epB, #[]⟩)
    (yB : (tB == sysModules) = false)
    (xB : PySem.W.KeysLit w.params esB.toList)
    (vB : esB.toList.map (fun e => (strW e.key, tupW K e.val)) = btab.map (fun q => (some q.1, some [q.2.1, q.2.2.1, q.2.2.2])))
    (dC : PySem.W.nsIn K mainGlobals "PLACE_COUNTS" = some (some (.ref tC)))
    (jC : K.lookup tC = some ⟨.type "dict", none, .dict esC epC, #[]⟩)
    (yC : (tC == sysModules) = false)
    (xC : PySem.W.KeysLit w.params esC.toList)
    (vC : esC.toList.map (fun e => (strW e.key, tupW K e.val)) = ctab.map (fun q => (some q.1, some [q.2.1, q.2.2])))
    (dP : PySem.W.nsIn K mainGlobals "PLACE_INDEXES" = some (some (.ref tP)))
    (jP : K.lookup tP = some ⟨.type "dict", none, .dict esP epP, #[]⟩)
    (yP : (tP == sysModules) = false)
    (xP : PySem.W.KeysLit w.params esP.toList)
    (vP : esP.toList.map (fun e => (strW e.key, intW e.val)) = ptab.map (fun q => (some q.1, some q.2)))
    (dN : PySem.W.nsIn K mainGlobals "NUMBERS" = some (some (.ref tN)))
    (jN : K.lookup tN = some ⟨.type "dict", none, .dict esN epN, #[]⟩)
    (yN : (tN == sysModules) = false)
    (xN : PySem.W.KeysLit w.params esN.toList)
    (vN : esN.toList.map (fun e => (strW e.key, intW e.val)) = ntab.map (fun q => (some q.1, some q.2)))
    (dS : PySem.W.nsIn K mainGlobals "COMPARISONS" = some (some (.ref tS)))
    (jS : K.lookup tS = some ⟨.type "tuple", doS, .seq itS nmS, soS⟩)
    (vS : Vals (cmps.map V.str) itS.toList)
    (hS : itS.size ≤ sizeLine)
    (dR : PySem.W.nsIn K mainGlobals "ORDERS" = some (some (.ref tR)))
    (jR : K.lookup tR = some ⟨.type "dict", none, .dict esR epR, #[]⟩)
    (vR : esR.toList.map (fun e => tupW K e.key) = okeys.map some)
    (xR : esR.toList.map (·.hash) = okeys.map thash)
    (yR : ∃ q0 q1 q2 q3 : Addr, esR.toList.map (·.val) = [.ref q0, .ref q1, .ref q2, .ref q3])
    (dM : PySem.W.nsIn K mainGlobals "MOST_DEEDS" = some (some (.int 6 uM)))
    (arl : PySem.W.nsIn K mainGlobals "read_loop" = some (some (.ref frl)))
    (lrl : K.lookup frl = some ⟨ocrl, odrl, .func (PySem.W.fnOf "read_loop" "read_loop" (defArgs s_read_loop) (defBody s_read_loop) (defScope s_read_loop) .none kVrl dcrl pmrl anrl cdrl ctrl), slrl⟩)
    (crl : PySem.W.codeIn K cdrl "read_loop" = true)
    (krl : PySem.W.keepIn K (.ref frl) = true)
    (aro : PySem.W.nsIn K mainGlobals "read_outer_loop" = some (some (.ref fro)))
    (lro : K.lookup fro = some ⟨ocro, odro, .func (PySem.W.fnOf "read_outer_loop" "read_outer_loop" (defArgs s_read_outer_loop) (defBody s_read_outer_loop) (defScope s_read_outer_loop) .none kVro dcro pmro anro cdro ctro), slro⟩)
    (cro : PySem.W.codeIn K cdro "read_outer_loop" = true)
    (kro : PySem.W.keepIn K (.ref fro) = true)
    (afw : PySem.W.nsIn K mainGlobals "first_wrong" = some (some (.ref ffw)))
    (lfw : K.lookup ffw = some ⟨ocfw, odfw, .func (PySem.W.fnOf "first_wrong" "first_wrong" (defArgs s_first_wrong) (defBody s_first_wrong) (defScope s_first_wrong) .none kVfw dcfw pmfw anfw cdfw ctfw), slfw⟩)
    (cfw : PySem.W.codeIn K cdfw "first_wrong" = true)
    (kfw : PySem.W.keepIn K (.ref ffw) = true)
    (arc : PySem.W.nsIn K mainGlobals "read_condition" = some (some (.ref frc)))
    (lrc : K.lookup frc = some ⟨ocrc, odrc, .func (PySem.W.fnOf "read_condition" "read_condition" (defArgs s_read_condition) (defBody s_read_condition) (defScope s_read_condition) .none kVrc dcrc pmrc anrc cdrc ctrc), slrc⟩)
    (crc : PySem.W.codeIn K cdrc "read_condition" = true)
    (krc : PySem.W.keepIn K (.ref frc) = true)
    (ard : PySem.W.nsIn K mainGlobals "read_deed" = some (some (.ref frd)))
    (lrd : K.lookup frd = some ⟨ocrd, odrd, .func (PySem.W.fnOf "read_deed" "read_deed" (defArgs s_read_deed) (defBody s_read_deed) (defScope s_read_deed) .none kVrd dcrd pmrd anrd cdrd ctrd), slrd⟩)
    (crd : PySem.W.codeIn K cdrd "read_deed" = true)
    (krd : PySem.W.keepIn K (.ref frd) = true)
    (aC : PySem.W.nsIn K mainGlobals "Nest" = some (some (.ref C)))
    (am1 : PySem.W.findIn K (.ref C) "__init__" = some (some (.ref fm1)))
    (im1 : PySem.W.isFn K (.ref fm1) = true)
    (lm1 : K.lookup fm1 = some ⟨ocm1, odm1, .func (PySem.W.fnOf "__init__" "Nest.__init__" (defArgs s_NInit) (defBody s_NInit) (defScope s_NInit) .none kVm1 dcm1 pmm1 anm1 cdm1 ctm1), slm1⟩)
    (cm1 : PySem.W.codeIn K cdm1 "Nest.__init__" = true)
    (km1 : PySem.W.keepIn K (.ref fm1) = true)
    (ag1 : PySem.W.findIn K (.ref C) "outer" = some (some (.ref pg1)))
    (sg1 : PySem.W.specialIn K (.ref pg1) "__get__" = some (some (.builtin "property.__get__")))
    (tg1 : PySem.W.takesIn K (.ref pg1) = some true)
    (rg1 : PySem.W.recIn K pg1 "property" = some (.ref fg1 :: rsg1))
    (lg1 : K.lookup fg1 = some ⟨ocg1, odg1, .func (PySem.W.fnOf "outer" "Nest.outer" (defArgs sNOuter) (defBody sNOuter) (defScope sNOuter) .none kVg1 dcg1 pmg1 ang1 cdg1 ctg1), slg1⟩)
    (cg1 : PySem.W.codeIn K cdg1 "Nest.outer" = true)
    (kg1 : PySem.W.keepIn K (.ref fg1) = true)
    (ag2 : PySem.W.findIn K (.ref C) "inner" = some (some (.ref pg2)))
    (sg2 : PySem.W.specialIn K (.ref pg2) "__get__" = some (some (.builtin "property.__get__")))
    (tg2 : PySem.W.takesIn K (.ref pg2) = some true)
    (rg2 : PySem.W.recIn K pg2 "property" = some (.ref fg2 :: rsg2))
    (lg2 : K.lookup fg2 = some ⟨ocg2, odg2, .func (PySem.W.fnOf "inner" "Nest.inner" (defArgs sNInner) (defBody sNInner) (defScope sNInner) .none kVg2 dcg2 pmg2 ang2 cdg2 ctg2), slg2⟩)
    (cg2 : PySem.W.codeIn K cdg2 "Nest.inner" = true)
    (kg2 : PySem.W.keepIn K (.ref fg2) = true)
    (ag3 : PySem.W.findIn K (.ref C) "deeds" = some (some (.ref pg3)))
    (sg3 : PySem.W.specialIn K (.ref pg3) "__get__" = some (some (.builtin "property.__get__")))
    (tg3 : PySem.W.takesIn K (.ref pg3) = some true)
    (rg3 : PySem.W.recIn K pg3 "property" = some (.ref fg3 :: rsg3))
    (lg3 : K.lookup fg3 = some ⟨ocg3, odg3, .func (PySem.W.fnOf "deeds" "Nest.deeds" (defArgs sNDeeds) (defBody sNDeeds) (defScope sNDeeds) .none kVg3 dcg3 pmg3 ang3 cdg3 ctg3), slg3⟩)
    (cg3 : PySem.W.codeIn K cdg3 "Nest.deeds" = true)
    (kg3 : PySem.W.keepIn K (.ref fg3) = true)
    (pg : PySem.W.plainGet K C Str.empty = true)
    (hd : PySem.W.hasDictIn K C = true)
    (po : PySem.W.plainOver K C = true)
    (sa : PySem.W.findIn K (.ref C) "__setattr__" = some (some (.builtin "object.__setattr__")))
    (mk : PySem.W.makesIn K C = true)
    (kc : PySem.W.keepIn K (.ref C) = true)
    (nO : PySem.W.findIn K (.ref C) "_outer" = some none)
    (nI : PySem.W.findIn K (.ref C) "_inner" = some none)
    (nD : PySem.W.findIn K (.ref C) "_deeds" = some none)
    (nB : PySem.W.findIn K (.ref C) "bounds" = some none)
    (nR : PySem.W.findIn K (.ref C) "orders" = some none)
    (nP : PySem.W.findIn K (.ref C) "plans" = some none)
    (q1 : PySem.W.findIn K (.ref C) "__class__" = some (some (.builtin "object.__class__")))
    (q2 : PySem.W.specialIn K (.builtin "object.__class__") "__get__" = some (some (.builtin "getset_descriptor.__get__")))
    (q3 : PySem.W.takesIn K (.builtin "object.__class__") = some true)
    (q4 : PySem.W.mroIn K C (.type "object") = some true)
    (aCP : PySem.W.nsIn K mainGlobals "Program" = some (some (.ref CP)))
    (am5 : PySem.W.findIn K (.ref CP) "__init__" = some (some (.ref fm5)))
    (im5 : PySem.W.isFn K (.ref fm5) = true)
    (lm5 : K.lookup fm5 = some ⟨ocm5, odm5, .func (PySem.W.fnOf "__init__" "Program.__init__" (defArgs sPInit) (defBody sPInit) (defScope sPInit) .none kVm5 dcm5 pmm5 anm5 cdm5 ctm5), slm5⟩)
    (cm5 : PySem.W.codeIn K cdm5 "Program.__init__" = true)
    (km5 : PySem.W.keepIn K (.ref fm5) = true)
    (ag4 : PySem.W.findIn K (.ref CP) "nests" = some (some (.ref pg4)))
    (sg4 : PySem.W.specialIn K (.ref pg4) "__get__" = some (some (.builtin "property.__get__")))
    (tg4 : PySem.W.takesIn K (.ref pg4) = some true)
    (rg4 : PySem.W.recIn K pg4 "property" = some (.ref fg4 :: rsg4))
    (lg4 : K.lookup fg4 = some ⟨ocg4, odg4, .func (PySem.W.fnOf "nests" "Program.nests" (defArgs sPNests) (defBody sPNests) (defScope sPNests) .none kVg4 dcg4 pmg4 ang4 cdg4 ctg4), slg4⟩)
    (cg4 : PySem.W.codeIn K cdg4 "Program.nests" = true)
    (kg4 : PySem.W.keepIn K (.ref fg4) = true)
    (e1 : PySem.W.readsIn K CP (.type "type") = true)
    (e2 : PySem.W.specialIn K (.ref CP) "__getattribute__" = some (some (.builtin "type.__getattribute__")))
    (e3 : PySem.W.findCls K (.ref CP) (.type "type") "read" = some (.get (.builtin "classmethod.__get__") (.ref pcm) .none (.ref CP)))
    (e4 : PySem.W.recIn K pcm "classmethod" = some (.ref fcm :: rscm))
    (e5 : PySem.W.fnIn K fcm = true)
    (lcm : K.lookup fcm = some ⟨occm, odcm, .func (PySem.W.fnOf "read" "Program.read" (defArgs sPRead) (defBody sPRead) (defScope sPRead) .none kVcm dccm pmcm ancm cdcm ctcm), slcm⟩)
    (ccm : PySem.W.codeIn K cdcm "Program.read" = true)
    (kcm : PySem.W.keepIn K (.ref fcm) = true)
    (pgq : PySem.W.plainGet K CP Str.empty = true)
    (hdq : PySem.W.hasDictIn K CP = true)
    (poq : PySem.W.plainOver K CP = true)
    (saq : PySem.W.findIn K (.ref CP) "__setattr__" = some (some (.builtin "object.__setattr__")))
    (mkq : PySem.W.makesIn K CP = true)
    (kcq : PySem.W.keepIn K (.ref CP) = true)
    (nNq : PySem.W.findIn K (.ref CP) "_nests" = some none)
    (dOS : PySem.W.nsIn K mainGlobals "OUTER_START" = some (some (.str ofrom uo)))
    (dIS : PySem.W.nsIn K mainGlobals "INNER_START" = some (some (.str jfrom ui)))
    (dMN : PySem.W.nsIn K mainGlobals "MOST_NESTS" = some (some (.int 4 u4)))
    (abh : PySem.W.nsIn K mainGlobals "behind" = some (some (.ref fbh)))
    (lbh : K.lookup fbh = some ⟨ocbh, odbh, .func (PySem.W.fnOf "behind" "behind" (defArgs sBehind) (defBody sBehind) (defScope sBehind) .none kVbh dcbh pmbh anbh cdbh ctbh), slbh⟩)
    (cbh : PySem.W.codeIn K cdbh "behind" = true)
    (kbh : PySem.W.keepIn K (.ref fbh) = true)
    (arb : PySem.W.nsIn K mainGlobals "rows_by_nest" = some (some (.ref frb)))
    (lrb : K.lookup frb = some ⟨ocrb, odrb, .func (PySem.W.fnOf "rows_by_nest" "rows_by_nest" (defArgs sRowsBy) (defBody sRowsBy) (defScope sRowsBy) .none kVrb dcrb pmrb anrb cdrb ctrb), slrb⟩)
    (crb : PySem.W.codeIn K cdrb "rows_by_nest" = true)
    (krb : PySem.W.keepIn K (.ref frb) = true)
    (ano : PySem.W.nsIn K mainGlobals "nest_of_rows" = some (some (.ref fno)))
    (lno : K.lookup fno = some ⟨ocno, odno, .func (PySem.W.fnOf "nest_of_rows" "nest_of_rows" (defArgs sNestOf) (defBody sNestOf) (defScope sNestOf) .none kVno dcno pmno anno cdno ctno), slno⟩)
    (cno : PySem.W.codeIn K cdno "nest_of_rows" = true)
    (kno : PySem.W.keepIn K (.ref fno) = true)
    (q5 : PySem.W.findIn K (.ref CP) "__class__" = some (some (.builtin "object.__class__")))
    (q6 : PySem.W.mroIn K CP (.type "object") = some true)
    (aF_ : PySem.W.nsIn K mainGlobals "Falls" = some (some (.ref CF)))
    (xF_ : K.lookup CF = some (excClassObj nmF qF CF NF bsF bmF true snF subF abF colF ddF m0F m1F m2F m3F m5F "ArithmeticError.__new__"))
    (vF_ : PySem.W.excTail [.type "ArithmeticError", .type "Exception", .type "BaseException", .type "object"] bmF = true)
    (saF_ : PySem.W.findIn K (.ref CF) "__setattr__" = some (some (.builtin "object.__setattr__")))
    (gaF_ : PySem.W.findIn K (.ref CF) "__getattribute__" = some (some (.builtin "BaseException.__getattribute__")))
    (ggF_ : PySem.W.findIn K (.ref CF) "__getattr__" = some none)
    (gvF_ : PySem.W.findIn K (.ref CF) "size" = some none)
    (iF_ : PySem.W.findIn K (.ref CF) "__init__" = some (some (.ref fIF)))
    (tF_ : PySem.W.typeIn K (.ref fIF) = some (.type "function"))
    (lF_ : K.lookup fIF = some ⟨ocIF, odIF, .func (PySem.W.fnOf "__init__" "Falls.__init__" (defArgs sFInit) (defBody sFInit) (defScope sFInit) .none kVIF dcIF pmIF anIF cdIF ctIF), slIF⟩)
    (cF_ : PySem.W.codeIn K cdIF "Falls.__init__" = true)
    (kfF_ : PySem.W.keepIn K (.ref fIF) = true)
    (kF_ : PySem.W.keepIn K (.ref CF) = true)
    (eF_ : PySem.W.subIn K (.ref CF) (.type "BaseException") = some true)
    (yF_ : PySem.W.typeIn K (.ref CF) = some (.type "type"))
    (hF_ : PySem.W.hasDictIn K CF = true)
    (uF_ : PySem.W.subIn K (.ref CF) (.ref CF) = some true)
    (dMS : PySem.W.nsIn K mainGlobals "MOST_SIZE" = some (some (.int big uMS)))
    (apa : PySem.W.nsIn K mainGlobals "parts_at" = some (some (.ref fpa)))
    (lpa : K.lookup fpa = some ⟨ocpa, odpa, .func (PySem.W.fnOf "parts_at" "parts_at" (defArgs s_parts_at) (defBody s_parts_at) (defScope s_parts_at) .none kVpa dcpa pmpa anpa cdpa ctpa), slpa⟩)
    (cpa : PySem.W.codeIn K cdpa "parts_at" = true)
    (kpa : PySem.W.keepIn K (.ref fpa) = true)
    (asa1 : PySem.W.nsIn K mainGlobals "spans_at" = some (some (.ref fsa1)))
    (lsa1 : K.lookup fsa1 = some ⟨ocsa1, odsa1, .func (PySem.W.fnOf "spans_at" "spans_at" (defArgs s_spans_at) (defBody s_spans_at) (defScope s_spans_at) .none kVsa1 dcsa1 pmsa1 ansa1 cdsa1 ctsa1), slsa1⟩)
    (csa1 : PySem.W.codeIn K cdsa1 "spans_at" = true)
    (ksa1 : PySem.W.keepIn K (.ref fsa1) = true)
    (ana : PySem.W.nsIn K mainGlobals "narrowed" = some (some (.ref fna)))
    (lna : K.lookup fna = some ⟨ocna, odna, .func (PySem.W.fnOf "narrowed" "narrowed" (defArgs s_narrowed) (defBody s_narrowed) (defScope s_narrowed) .none kVna dcna pmna anna cdna ctna), slna⟩)
    (cna : PySem.W.codeIn K cdna "narrowed" = true)
    (kna : PySem.W.keepIn K (.ref fna) = true)
    (afw1 : PySem.W.nsIn K mainGlobals "falls_with" = some (some (.ref ffw1)))
    (lfw1 : K.lookup ffw1 = some ⟨ocfw1, odfw1, .func (PySem.W.fnOf "falls_with" "falls_with" (defArgs s_falls_with) (defBody s_falls_with) (defScope s_falls_with) .none kVfw1 dcfw1 pmfw1 anfw1 cdfw1 ctfw1), slfw1⟩)
    (cfw1 : PySem.W.codeIn K cdfw1 "falls_with" = true)
    (kfw1 : PySem.W.keepIn K (.ref ffw1) = true)
    (anc : PySem.W.nsIn K mainGlobals "nest_count" = some (some (.ref fnc)))
    (lnc : K.lookup fnc = some ⟨ocnc, odnc, .func (PySem.W.fnOf "nest_count" "nest_count" (defArgs s_nest_count) (defBody s_nest_count) (defScope s_nest_count) .none kVnc dcnc pmnc annc cdnc ctnc), slnc⟩)
    (cnc : PySem.W.codeIn K cdnc "nest_count" = true)
    (knc : PySem.W.keepIn K (.ref fnc) = true)
    (aso : PySem.W.nsIn K mainGlobals "spans_of" = some (some (.ref fso)))
    (lso : K.lookup fso = some ⟨ocso, odso, .func (PySem.W.fnOf "spans_of" "spans_of" (defArgs s_spans_of) (defBody s_spans_of) (defScope s_spans_of) .none kVso dcso pmso anso cdso ctso), slso⟩)
    (cso : PySem.W.codeIn K cdso "spans_of" = true)
    (kso : PySem.W.keepIn K (.ref fso) = true)
    (afa1 : PySem.W.nsIn K mainGlobals "falls_at" = some (some (.ref ffa1)))
    (lfa1 : K.lookup ffa1 = some ⟨ocfa1, odfa1, .func (PySem.W.fnOf "falls_at" "falls_at" (defArgs s_falls_at) (defBody s_falls_at) (defScope s_falls_at) .none kVfa1 dcfa1 pmfa1 anfa1 cdfa1 ctfa1), slfa1⟩)
    (cfa1 : PySem.W.codeIn K cdfa1 "falls_at" = true)
    (kfa1 : PySem.W.keepIn K (.ref ffa1) = true)
    (aiw : PySem.W.nsIn K mainGlobals "is_whole" = some (some (.ref fiw)))
    (liw : K.lookup fiw = some ⟨ociw, odiw, .func (PySem.W.fnOf "is_whole" "is_whole" (defArgs s_is_whole) (defBody s_is_whole) (defScope s_is_whole) .none kViw dciw pmiw aniw cdiw ctiw), sliw⟩)
    (ciw : PySem.W.codeIn K cdiw "is_whole" = true)
    (kiw : PySem.W.keepIn K (.ref fiw) = true)
    (awi : PySem.W.nsIn K mainGlobals "is_within" = some (some (.ref fwi)))
    (lwi : K.lookup fwi = some ⟨ocwi, odwi, .func (PySem.W.fnOf "is_within" "is_within" (defArgs s_is_within) (defBody s_is_within) (defScope s_is_within) .none kVwi dcwi pmwi anwi cdwi ctwi), slwi⟩)
    (cwi : PySem.W.codeIn K cdwi "is_within" = true)
    (kwi : PySem.W.keepIn K (.ref fwi) = true)
    (acs : PySem.W.nsIn K mainGlobals "check_size" = some (some (.ref fcs)))
    (lcs : K.lookup fcs = some ⟨occs, odcs, .func (PySem.W.fnOf "check_size" "check_size" (defArgs s_check_size) (defBody s_check_size) (defScope s_check_size) .none kVcs dccs pmcs ancs cdcs ctcs), slcs⟩)
    (ccs : PySem.W.codeIn K cdcs "check_size" = true)
    (kcs : PySem.W.keepIn K (.ref fcs) = true)
    (acp : PySem.W.nsIn K mainGlobals "check_program" = some (some (.ref fcp)))
    (lcp : K.lookup fcp = some ⟨occp, odcp, .func (PySem.W.fnOf "check_program" "check_program" (defArgs s_check_program) (defBody s_check_program) (defScope s_check_program) .none kVcp dccp pmcp ancp cdcp ctcp), slcp⟩)
    (ccp : PySem.W.codeIn K cdcp "check_program" = true)
    (kcp : PySem.W.keepIn K (.ref fcp) = true)
    (arc1 : PySem.W.nsIn K mainGlobals "round_count" = some (some (.ref frc1)))
    (lrc1 : K.lookup frc1 = some ⟨ocrc1, odrc1, .func (PySem.W.fnOf "round_count" "round_count" (defArgs s_round_count) (defBody s_round_count) (defScope s_round_count) .none kVrc1 dcrc1 pmrc1 anrc1 cdrc1 ctrc1), slrc1⟩)
    (crc1 : PySem.W.codeIn K cdrc1 "round_count" = true)
    (krc1 : PySem.W.keepIn K (.ref frc1) = true)
    (apu : PySem.W.nsIn K mainGlobals "_law_purl" = some (some (.ref fpu)))
    (lpu : K.lookup fpu = some ⟨ocpu, odpu, .func (PySem.W.fnOf "_law_purl" "_law_purl" (defArgs s__law_purl) (defBody s__law_purl) (defScope s__law_purl) .none kVpu dcpu pmpu anpu cdpu ctpu), slpu⟩)
    (cpu : PySem.W.codeIn K cdpu "_law_purl" = true)
    (kpu : PySem.W.keepIn K (.ref fpu) = true)
    (adg : PySem.W.nsIn K mainGlobals "_law_dig" = some (some (.ref fdg)))
    (ldg : K.lookup fdg = some ⟨ocdg, oddg, .func (PySem.W.fnOf "_law_dig" "_law_dig" (defArgs s__law_dig) (defBody s__law_dig) (defScope s__law_dig) .none kVdg dcdg pmdg andg cddg ctdg), sldg⟩)
    (cdg : PySem.W.codeIn K cddg "_law_dig" = true)
    (kdg : PySem.W.keepIn K (.ref fdg) = true)
    (alo : PySem.W.nsIn K mainGlobals "_law_loop" = some (some (.ref flo)))
    (llo : K.lookup flo = some ⟨oclo, odlo, .func (PySem.W.fnOf "_law_loop" "_law_loop" (defArgs s__law_loop) (defBody s__law_loop) (defScope s__law_loop) .none kVlo dclo pmlo anlo cdlo ctlo), sllo⟩)
    (clo : PySem.W.codeIn K cdlo "_law_loop" = true)
    (klo : PySem.W.keepIn K (.ref flo) = true)
    (aus : PySem.W.nsIn K mainGlobals "_law_usual" = some (some (.ref fus)))
    (lus : K.lookup fus = some ⟨ocus, odus, .func (PySem.W.fnOf "_law_usual" "_law_usual" (defArgs s__law_usual) (defBody s__law_usual) (defScope s__law_usual) .none kVus dcus pmus anus cdus ctus), slus⟩)
    (cus : PySem.W.codeIn K cdus "_law_usual" = true)
    (kus : PySem.W.keepIn K (.ref fus) = true)
    (ade : PySem.W.nsIn K mainGlobals "_law_deed" = some (some (.ref fde)))
    (lde : K.lookup fde = some ⟨ocde, odde, .func (PySem.W.fnOf "_law_deed" "_law_deed" (defArgs s__law_deed) (defBody s__law_deed) (defScope s__law_deed) .none kVde dcde pmde ande cdde ctde), slde⟩)
    (cde : PySem.W.codeIn K cdde "_law_deed" = true)
    (kde : PySem.W.keepIn K (.ref fde) = true)
    (als : PySem.W.nsIn K mainGlobals "_law_loops" = some (some (.ref fls)))
    (lls : K.lookup fls = some ⟨ocls, odls, .func (PySem.W.fnOf "_law_loops" "_law_loops" (defArgs s__law_loops) (defBody s__law_loops) (defScope s__law_loops) .none kVls dcls pmls anls cdls ctls), slls⟩)
    (cls : PySem.W.codeIn K cdls "_law_loops" = true)
    (kls : PySem.W.keepIn K (.ref fls) = true)
    (aed : PySem.W.nsIn K mainGlobals "_law_endtext" = some (some (.ref fed)))
    (led : K.lookup fed = some ⟨oced, oded, .func (PySem.W.fnOf "_law_endtext" "_law_endtext" (defArgs s__law_endtext) (defBody s__law_endtext) (defScope s__law_endtext) .none kVed dced pmed aned cded cted), sled⟩)
    (ced : PySem.W.codeIn K cded "_law_endtext" = true)
    (ked : PySem.W.keepIn K (.ref fed) = true)
    (alt : PySem.W.nsIn K mainGlobals "_law_looptext" = some (some (.ref flt)))
    (llt : K.lookup flt = some ⟨oclt, odlt, .func (PySem.W.fnOf "_law_looptext" "_law_looptext" (defArgs s__law_looptext) (defBody s__law_looptext) (defScope s__law_looptext) .none kVlt dclt pmlt anlt cdlt ctlt), sllt⟩)
    (clt : PySem.W.codeIn K cdlt "_law_looptext" = true)
    (klt : PySem.W.keepIn K (.ref flt) = true)
    (asp : PySem.W.nsIn K mainGlobals "_law_spots" = some (some (.ref fsp)))
    (lsp : K.lookup fsp = some ⟨ocsp, odsp, .func (PySem.W.fnOf "_law_spots" "_law_spots" (defArgs s__law_spots) (defBody s__law_spots) (defScope s__law_spots) .none kVsp dcsp pmsp ansp cdsp ctsp), slsp⟩)
    (csp : PySem.W.codeIn K cdsp "_law_spots" = true)
    (ksp : PySem.W.keepIn K (.ref fsp) = true)
    (adt : PySem.W.nsIn K mainGlobals "_law_deedtext" = some (some (.ref fdt)))
    (ldt : K.lookup fdt = some ⟨ocdt, oddt, .func (PySem.W.fnOf "_law_deedtext" "_law_deedtext" (defArgs s__law_deedtext) (defBody s__law_deedtext) (defScope s__law_deedtext) .none kVdt dcdt pmdt andt cddt ctdt), sldt⟩)
    (cdt : PySem.W.codeIn K cddt "_law_deedtext" = true)
    (kdt : PySem.W.keepIn K (.ref fdt) = true)
    (atx : PySem.W.nsIn K mainGlobals "_law_text" = some (some (.ref ftx)))
    (ltx : K.lookup ftx = some ⟨octx, odtx, .func (PySem.W.fnOf "_law_text" "_law_text" (defArgs s__law_text) (defBody s__law_text) (defScope s__law_text) .none kVtx dctx pmtx antx cdtx cttx), sltx⟩)
    (ctx : PySem.W.codeIn K cdtx "_law_text" = true)
    (ktx : PySem.W.keepIn K (.ref ftx) = true)
    (aev : PySem.W.nsIn K mainGlobals "_law_end" = some (some (.ref fev)))
    (lev : K.lookup fev = some ⟨ocev, odev, .func (PySem.W.fnOf "_law_end" "_law_end" (defArgs s__law_end) (defBody s__law_end) (defScope s__law_end) .none kVev dcev pmev anev cdev ctev), slev⟩)
    (cev : PySem.W.codeIn K cdev "_law_end" = true)
    (kev : PySem.W.keepIn K (.ref fev) = true)
    (ash : PySem.W.nsIn K mainGlobals "_law_shut" = some (some (.ref fsh)))
    (lsh : K.lookup fsh = some ⟨ocsh, odsh, .func (PySem.W.fnOf "_law_shut" "_law_shut" (defArgs s__law_shut) (defBody s__law_shut) (defScope s__law_shut) .none kVsh dcsh pmsh ansh cdsh ctsh), slsh⟩)
    (csh : PySem.W.codeIn K cdsh "_law_shut" = true)
    (ksh : PySem.W.keepIn K (.ref fsh) = true)
    (awd : PySem.W.nsIn K mainGlobals "_law_wide" = some (some (.ref fwd)))
    (lwd : K.lookup fwd = some ⟨ocwd, odwd, .func (PySem.W.fnOf "_law_wide" "_law_wide" (defArgs s__law_wide) (defBody s__law_wide) (defScope s__law_wide) .none kVwd dcwd pmwd anwd cdwd ctwd), slwd⟩)
    (cwd : PySem.W.codeIn K cdwd "_law_wide" = true)
    (kwd : PySem.W.keepIn K (.ref fwd) = true)
    (aon : PySem.W.nsIn K mainGlobals "_law_onward" = some (some (.ref fon)))
    (lon : K.lookup fon = some ⟨ocon, odon, .func (PySem.W.fnOf "_law_onward" "_law_onward" (defArgs s__law_onward) (defBody s__law_onward) (defScope s__law_onward) .none kVon dcon pmon anon cdon cton), slon⟩)
    (con : PySem.W.codeIn K cdon "_law_onward" = true)
    (kon : PySem.W.keepIn K (.ref fon) = true)
    (afr : PySem.W.nsIn K mainGlobals "_law_far" = some (some (.ref ffr)))
    (lfr : K.lookup ffr = some ⟨ocfr, odfr, .func (PySem.W.fnOf "_law_far" "_law_far" (defArgs s__law_far) (defBody s__law_far) (defScope s__law_far) .none kVfr dcfr pmfr anfr cdfr ctfr), slfr⟩)
    (cfr : PySem.W.codeIn K cdfr "_law_far" = true)
    (kfr : PySem.W.keepIn K (.ref ffr) = true)
    (adu : PySem.W.nsIn K mainGlobals "_law_due" = some (some (.ref fdu)))
    (ldu : K.lookup fdu = some ⟨ocdu, oddu, .func (PySem.W.fnOf "_law_due" "_law_due" (defArgs s__law_due) (defBody s__law_due) (defScope s__law_due) .none kVdu dcdu pmdu andu cddu ctdu), sldu⟩)
    (cdu : PySem.W.codeIn K cddu "_law_due" = true)
    (kdu : PySem.W.keepIn K (.ref fdu) = true)
    (aan : PySem.W.nsIn K mainGlobals "_law_answer" = some (some (.ref fan)))
    (lan : K.lookup fan = some ⟨ocan, odan, .func (PySem.W.fnOf "_law_answer" "_law_answer" (defArgs s__law_answer) (defBody s__law_answer) (defScope s__law_answer) .none kVan dcan pman anan cdan ctan), slan⟩)
    (can : PySem.W.codeIn K cdan "_law_answer" = true)
    (kan : PySem.W.keepIn K (.ref fan) = true)
    (aft : PySem.W.nsIn K mainGlobals "_law_fits" = some (some (.ref fft)))
    (lft : K.lookup fft = some ⟨ocft, odft, .func (PySem.W.fnOf "_law_fits" "_law_fits" (defArgs s__law_fits) (defBody s__law_fits) (defScope s__law_fits) .none kVft dcft pmft anft cdft ctft), slft⟩)
    (cft : PySem.W.codeIn K cdft "_law_fits" = true)
    (kft : PySem.W.keepIn K (.ref fft) = true)
    (aL : PySem.W.nsIn K mainGlobals "law" = some (some (.ref fL)))
    (lL : K.lookup fL = some ⟨ocL, odL, .func (PySem.W.fnOf "law" "law" (defArgs s_law) (defBody s_law) (defScope s_law) .none kVL dcL pmL anL cdL ctL), slL⟩)
    (cL : PySem.W.codeIn K cdL "law" = true)
    (kL : PySem.W.keepIn K (.ref fL) = true)
    (z_len : PySem.W.nsIn K mainGlobals "len" = some none)
    (z_int : PySem.W.nsIn K mainGlobals "int" = some none)
    (z_abs : PySem.W.nsIn K mainGlobals "abs" = some none)
    (z_divmod : PySem.W.nsIn K mainGlobals "divmod" = some none)
    (z_range : PySem.W.nsIn K mainGlobals "range" = some none)
    (z_isinstance : PySem.W.nsIn K mainGlobals "isinstance" = some none)
    (z_bool : PySem.W.nsIn K mainGlobals "bool" = some none)
    (z_tuple : PySem.W.nsIn K mainGlobals "tuple" = some none)
    (z_str : PySem.W.nsIn K mainGlobals "str" = some none)
    (z_list : PySem.W.nsIn K mainGlobals "list" = some none)
    (z_min : PySem.W.nsIn K mainGlobals "min" = some none)
    (z_max : PySem.W.nsIn K mainGlobals "max" = some none)
    (z_all : PySem.W.nsIn K mainGlobals "all" = some none)
    (z_any : PySem.W.nsIn K mainGlobals "any" = some none)
    (z_sum : PySem.W.nsIn K mainGlobals "sum" = some none)
    (z_sorted : PySem.W.nsIn K mainGlobals "sorted" = some none)
    (z_enumerate : PySem.W.nsIn K mainGlobals "enumerate" = some none)
    (z_set : PySem.W.nsIn K mainGlobals "set" = some none)
    (z_repr : PySem.W.nsIn K mainGlobals "repr" = some none) :
    ∀ base : Heap, FnG P w K mg base 10 fa (spLaw K) := by
  intro base
  have e := hfa.symm.trans (PySem.W.mg_of X G aL)
  cases e
  have T0 : Sq.Bt mg := ⟨(PySem.W.mg_none_of X G z_len), (PySem.W.mg_none_of X G z_int), (PySem.W.mg_none_of X G z_abs), (PySem.W.mg_none_of X G z_divmod), (PySem.W.mg_none_of X G z_range), (PySem.W.mg_none_of X G z_isinstance), (PySem.W.mg_none_of X G z_bool), (PySem.W.mg_none_of X G z_tuple), (PySem.W.mg_none_of X G z_str), (PySem.W.mg_none_of X G z_list), (PySem.W.mg_none_of X G z_min), (PySem.W.mg_none_of X G z_max), (PySem.W.mg_none_of X G z_all), (PySem.W.mg_none_of X G z_any), (PySem.W.mg_none_of X G z_sum), (PySem.W.mg_none_of X G z_sorted), (PySem.W.mg_none_of X G z_enumerate)⟩
  have DB := BndD.of jB xB yB vB
  have DC := CntD.of jC xC yC vC
  have DP := intD_of jP xP yP vP
  have DN := intD_of jN xN yN vN
  have DS : ∀ H, SqT K H tS (cmps.map V.str) := fun H => .inr ⟨_, itS, nmS, jS, rfl, rfl, hS, vS⟩
  have DR : OrdD P w K tR := OrdD.of jR vR xR yR
  have Frl := fun_mk (st := s_read_loop) lrl crl krl
  have brl := Frl.binds (ps := ["value"]) fun _ _ _ _ _ _ us hl => match us, hl with | [_], _ => rfl
  have Brl : FB P w K mg base "read_loop" 1 ["value"] (spReadL K (obs ++ ibs)) := ⟨frl, _, ok_read_loop (P := P) (w := w) (base := base) Frl T0 (PySem.W.mg_of X G dB) DB, (PySem.W.mg_of X G arl), krl, brl⟩
  have Fro := fun_mk (st := s_read_outer_loop) lro cro kro
  have bro := Fro.binds (ps := ["value"]) fun _ _ _ _ _ _ us hl => match us, hl with | [_], _ => rfl
  have Bro : FB P w K mg base "read_outer_loop" 2 ["value"] (spReadL K obs) := ⟨fro, _, ok_read_outer_loop (P := P) (w := w) (base := base) Fro T0 Brl, (PySem.W.mg_of X G aro), kro, bro⟩
  have Ffw := fun_mk (st := s_first_wrong) lfw cfw kfw
  have bfw := Ffw.binds (ps := ["rights", "most"]) fun _ _ _ _ _ _ us hl => match us, hl with | [_, _], _ => rfl
  have Bfw : FB P w K mg base "first_wrong" 1 ["rights", "most"] (spFirst K) := ⟨ffw, _, ok_first_wrong (P := P) (w := w) (base := base) Ffw T0 , (PySem.W.mg_of X G afw), kfw, bfw⟩
  have Frc := fun_mk (st := s_read_condition) lrc crc krc
  have brc := Frc.binds (ps := ["words"]) fun _ _ _ _ _ _ us hl => match us, hl with | [_], _ => rfl
  have Brc : FB P w K mg base "read_condition" 1 ["words"] (spReadC K) := ⟨frc, _, ok_read_condition (P := P) (w := w) (base := base) Frc T0 (PySem.W.mg_of X G dN) DN (PySem.W.mg_of X G dS) DS, (PySem.W.mg_of X G arc), krc, brc⟩
  have Frd := fun_mk (st := s_read_deed) lrd crd krd
  have brd := Frd.binds (ps := ["value"]) fun _ _ _ _ _ _ us hl => match us, hl with | [_], _ => rfl
  have Brd : FB P w K mg base "read_deed" 2 ["value"] (spReadD K) := ⟨frd, _, ok_read_deed (P := P) (w := w) (base := base) Frd T0 (PySem.W.mg_of X G dC) DC (PySem.W.mg_of X G dP) DP (PySem.W.mg_none_of X G z_set) Brc, (PySem.W.mg_of X G ard), krd, brd⟩
  have Fm1 := fun_mk (st := s_NInit) lm1 cm1 km1
  have Fg1 := fun_mk (st := sNOuter) lg1 cg1 kg1
  have bg1 := Fg1.binds (ps := ["self"]) fun _ _ _ _ _ _ us hl => match us, hl with | [_], _ => rfl
  have Fg2 := fun_mk (st := sNInner) lg2 cg2 kg2
  have bg2 := Fg2.binds (ps := ["self"]) fun _ _ _ _ _ _ us hl => match us, hl with | [_], _ => rfl
  have Fg3 := fun_mk (st := sNDeeds) lg3 cg3 kg3
  have bg3 := Fg3.binds (ps := ["self"]) fun _ _ _ _ _ _ us hl => match us, hl with | [_], _ => rfl
  have Nc' : Nc K C := ⟨⟨pg, hd, po, sa⟩, nO, nI, nD, nB, nR, nP⟩
  have GR := ok_initR Fm1 Nc' T0 Bro Brl Brd Bfw (PySem.W.mg_of X G dM) (PySem.W.mg_of X G dR) DR
  have Is' : Isn K C := ⟨q1, q2, q3, q4⟩
  have mk1 : Mk K C fm1 := ⟨mk, am1, im1, kc⟩
  have NP : NestP P w K mg base C := ⟨Nc', ⟨pg1, fg1, _, ⟨ag1, sg1, tg1, _, rg1⟩, ok_get1 Fg1 Nc', bg1⟩, ⟨pg2, fg2, _, ⟨ag2, sg2, tg2, _, rg2⟩, ok_get2 Fg2 Nc', bg2⟩, ⟨pg3, fg3, _, ⟨ag3, sg3, tg3, _, rg3⟩, ok_get3 Fg3 Nc', bg3⟩⟩
  have Fm5 := fun_mk (st := sPInit) lm5 cm5 km5
  have Fg4 := fun_mk (st := sPNests) lg4 cg4 kg4
  have bg4 := Fg4.binds (ps := ["self"]) fun _ _ _ _ _ _ us hl => match us, hl with | [_], _ => rfl
  have Fcm := fun_mk (st := sPRead) lcm ccm kcm
  have bcm := Fcm.binds (ps := ["cls", "text"]) fun _ _ _ _ _ _ us hl => match us, hl with | [_, _], _ => rfl
  have Fbh := fun_mk (st := sBehind) lbh cbh kbh
  have bbh := Fbh.binds (ps := ["start", "row"]) fun _ _ _ _ _ _ us hl => match us, hl with | [_, _], _ => rfl
  have Frb := fun_mk (st := sRowsBy) lrb crb krb
  have brb := Frb.binds (ps := ["text"]) fun _ _ _ _ _ _ us hl => match us, hl with | [_], _ => rfl
  have Fno := fun_mk (st := sNestOf) lno cno kno
  have bno := Fno.binds (ps := ["rows"]) fun _ _ _ _ _ _ us hl => match us, hl with | [_], _ => rfl
  have T := T0
  have Kc : Ck K mg := ⟨(PySem.W.mg_none_of X G z_isinstance), (PySem.W.mg_none_of X G z_str)⟩
  have Pc' : Pc K CP := ⟨⟨pgq, hdq, poq, saq⟩, nNq⟩
  have mk2' : Mk K CP fm5 := ⟨mkq, am5, im5, kcq⟩
  have KF : Kn P w K mg base "first_wrong" 1 ["rights", "most"] (spFirst K) := let ⟨f, fd, G, hm, kk, b⟩ := Bfw.ex; ⟨f, fd, hm, kk, b, G⟩
  have Gbh := ok_behind (P := P) (w := w) (K := K) (mg := mg) (base := base) Fbh
  have Grb := ok_rowsBy (P := P) (w := w) (K := K) (base := base) Frb (PySem.W.mg_of X G dOS)
  have R : Rd1 P w K mg base := ⟨⟨fbh, _, (PySem.W.mg_of X G abh), kbh, bbh, Gbh⟩, ⟨frb, _, (PySem.W.mg_of X G arb), krb, brb, Grb⟩, ⟨_, PySem.W.mg_of X G dOS⟩, ⟨_, PySem.W.mg_of X G dIS⟩, ⟨_, PySem.W.mg_of X G dMN⟩⟩
  have Gno := ok_nestOf Fno T R (PySem.W.mg_of X G aC) mk1 GR
  have Gm5 := ok_pinitR Fm5 Pc' Nc'.cl Is' (PySem.W.mg_of X G aC) Kc R KF
  have Gcm := ok_pread Fcm R Kc ⟨fno, _, (PySem.W.mg_of X G ano), kno, bno, Gno⟩ mk2' Gm5
  have YY : PY P w K mg base CP C := ⟨Pc', (PySem.W.mg_of X G aCP), Nc'.cl, ⟨_, pcm, fcm, ⟨e1, e2⟩, ⟨e3, ⟨_, e4⟩, e5⟩, Sq.FnOk.asR Gcm bcm⟩, ⟨pg4, fg4, _, ⟨ag4, sg4, tg4, _, rg4⟩, ok_pnests Fg4 Pc', bg4⟩, ⟨fm5, mk2', Gm5⟩⟩
  have IsP : Isn K CP := ⟨q5, q2, q3, q6⟩
  have IF := fun_mk (st := sFInit) lF_ cF_ kfF_
  have bIF := IF.binds (ps := ["self", "size"]) fun _ _ _ _ _ _ us hl => match us, hl with | [_, _], _ => rfl
  have XF : OexB K "ArithmeticError.__new__" [.type "ArithmeticError", .type "Exception", .type "BaseException", .type "object"] CF := ⟨⟨_, _, _, _, _, _, _, _, _, _, _, _, _, _, _, xF_, vF_⟩, saF_, eF_, yF_, kF_⟩
  have EF : ErrB P w K mg base "ArithmeticError.__new__" [.type "ArithmeticError", .type "Exception", .type "BaseException", .type "object"] "Falls" "size" CF := ⟨XF, ⟨gaF_, ggF_, eF_, hF_⟩, gvF_, PySem.W.mg_of X G aF_, ⟨_, _, _, iF_, tF_, ok_finit IF XF gvF_, bIF⟩⟩
  have FK : FallK P w K mg base CF := ⟨EF, PySem.W.exm_ref eF_ hF_ yF_ uF_⟩
  have Fpa := fun_mk (st := s_parts_at) lpa cpa kpa
  have bpa := Fpa.binds (ps := ["size"]) fun _ _ _ _ _ _ us hl => match us, hl with | [_], _ => rfl
  have Bpa : FB P w K mg base "parts_at" 1 ["size"] spParts := ⟨fpa, _, ok_parts_at (P := P) (w := w) (base := base) Fpa T0 , (PySem.W.mg_of X G apa), kpa, bpa⟩
  have Fsa1 := fun_mk (st := s_spans_at) lsa1 csa1 ksa1
  have bsa1 := Fsa1.binds (ps := ["bounds", "size"]) fun _ _ _ _ _ _ us hl => match us, hl with | [_, _], _ => rfl
  have Bsa1 : FB P w K mg base "spans_at" 2 ["bounds", "size"] (spSpanAt K) := ⟨fsa1, _, ok_spans_at (P := P) (w := w) (base := base) Fsa1 T0 Bpa, (PySem.W.mg_of X G asa1), ksa1, bsa1⟩
  have Fna := fun_mk (st := s_narrowed) lna cna kna
  have bna := Fna.binds (ps := ["first", "end", "least", "steps"]) fun _ _ _ _ _ _ us hl => match us, hl with | [_, _, _, _], _ => rfl
  have Bna : FB P w K mg base "narrowed" 1 ["first", "end", "least", "steps"] spNar := ⟨fna, _, ok_narrowed (P := P) (w := w) (base := base) Fna T0 , (PySem.W.mg_of X G ana), kna, bna⟩
  have Ffw1 := fun_mk (st := s_falls_with) lfw1 cfw1 kfw1
  have bfw1 := Ffw1.binds (ps := ["spans", "size"]) fun _ _ _ _ _ _ us hl => match us, hl with | [_, _], _ => rfl
  have Bfw1 : FB P w K mg base "falls_with" 2 ["spans", "size"] spFallsW2 := ⟨ffw1, _, ok_falls_with (P := P) (w := w) (base := base) Ffw1 T0 Bna, (PySem.W.mg_of X G afw1), kfw1, bfw1⟩
  have Fnc := fun_mk (st := s_nest_count) lnc cnc knc
  have bnc := Fnc.binds (ps := ["spans"]) fun _ _ _ _ _ _ us hl => match us, hl with | [_], _ => rfl
  have Bnc : FB P w K mg base "nest_count" 2 ["spans"] spCount := ⟨fnc, _, ok_nest_count (P := P) (w := w) (base := base) Fnc T0 Bna, (PySem.W.mg_of X G anc), knc, bnc⟩
  have Fso := fun_mk (st := s_spans_of) lso cso kso
  have bso := Fso.binds (ps := ["program", "size"]) fun _ _ _ _ _ _ us hl => match us, hl with | [_, _], _ => rfl
  have Bso : FB P w K mg base "spans_of" 3 ["program", "size"] (spSpans K CP C) := ⟨fso, _, ok_spans_of (P := P) (w := w) (base := base) Fso T0 Pc' (⟨ag4, sg4, tg4, _, rg4⟩ : PropOf K CP "nests" pg4 fg4) (ok_pnests Fg4 Pc') bg4 Nc' Bsa1, (PySem.W.mg_of X G aso), kso, bso⟩
  have Ffa1 := fun_mk (st := s_falls_at) lfa1 cfa1 kfa1
  have bfa1 := Ffa1.binds (ps := ["program", "size"]) fun _ _ _ _ _ _ us hl => match us, hl with | [_, _], _ => rfl
  have Bfa1 : FB P w K mg base "falls_at" 4 ["program", "size"] (spFallsAt K CP C) := ⟨ffa1, _, ok_falls_at (P := P) (w := w) (base := base) Ffa1 T0 Bso Bfw1, (PySem.W.mg_of X G afa1), kfa1, bfa1⟩
  have Fiw := fun_mk (st := s_is_whole) liw ciw kiw
  have biw := Fiw.binds (ps := ["value"]) fun _ _ _ _ _ _ us hl => match us, hl with | [_], _ => rfl
  have Biw : FB P w K mg base "is_whole" 1 ["value"] spWhole := ⟨fiw, _, ok_is_whole (P := P) (w := w) (base := base) Fiw T0 , (PySem.W.mg_of X G aiw), kiw, biw⟩
  have Fwi := fun_mk (st := s_is_within) lwi cwi kwi
  have bwi := Fwi.binds (ps := ["value", "least", "most"]) fun _ _ _ _ _ _ us hl => match us, hl with | [_, _, _], _ => rfl
  have Bwi : FB P w K mg base "is_within" 2 ["value", "least", "most"] spWithin := ⟨fwi, _, ok_is_within (P := P) (w := w) (base := base) Fwi T0 Biw, (PySem.W.mg_of X G awi), kwi, bwi⟩
  have Fcs := fun_mk (st := s_check_size) lcs ccs kcs
  have bcs := Fcs.binds (ps := ["size"]) fun _ _ _ _ _ _ us hl => match us, hl with | [_], _ => rfl
  have Bcs : FB P w K mg base "check_size" 3 ["size"] spSize := ⟨fcs, _, ok_check_size (P := P) (w := w) (base := base) Fcs T0 Bwi (PySem.W.mg_of X G dMS), (PySem.W.mg_of X G acs), kcs, bcs⟩
  have Fcp := fun_mk (st := s_check_program) lcp ccp kcp
  have bcp := Fcp.binds (ps := ["program"]) fun _ _ _ _ _ _ us hl => match us, hl with | [_], _ => rfl
  have Bcp : FB P w K mg base "check_program" 1 ["program"] (spProg CP) := ⟨fcp, _, ok_check_program (P := P) (w := w) (base := base) Fcp T0 Pc' IsP (PySem.W.mg_of X G aCP), (PySem.W.mg_of X G acp), kcp, bcp⟩
  have Frc1 := fun_mk (st := s_round_count) lrc1 crc1 krc1
  have brc1 := Frc1.binds (ps := ["program", "size"]) fun _ _ _ _ _ _ us hl => match us, hl with | [_, _], _ => rfl
  have Brc1 : FBN P w K mg base "round_count" 5 ["program", "size"] (spRound K CP C CF) := ⟨frc1, _, ok_round_count (P := P) (w := w) (base := base) (nI := "") (tl0 := []) Frc1 T0 Bcp Bcs Bfa1 Bso Bnc EF, (PySem.W.mg_of X G arc1), krc1, brc1⟩
  have Fpu := fun_mk (st := s__law_purl) lpu cpu kpu
  have bpu := Fpu.binds (ps := ["_law_script", "_law_spot"]) fun _ _ _ _ _ _ us hl => match us, hl with | [_, _], _ => rfl
  have Bpu : FB P w K mg base "_law_purl" 1 ["_law_script", "_law_spot"] (spPurl K) := ⟨fpu, _, ok__law_purl (P := P) (w := w) (base := base) Fpu T0 , (PySem.W.mg_of X G apu), kpu, bpu⟩
  have Fdg := fun_mk (st := s__law_dig) ldg cdg kdg
  have bdg := Fdg.binds (ps := ["_law_purl_here", "_law_many"]) fun _ _ _ _ _ _ us hl => match us, hl with | [_, _], _ => rfl
  have Bdg : FB P w K mg base "_law_dig" 1 ["_law_purl_here", "_law_many"] spDig := ⟨fdg, _, ok__law_dig (P := P) (w := w) (base := base) Fdg T0 , (PySem.W.mg_of X G adg), kdg, bdg⟩
  have Flo := fun_mk (st := s__law_loop) llo clo klo
  have blo := Flo.binds (ps := ["_law_purl_here", "_law_inner"]) fun _ _ _ _ _ _ us hl => match us, hl with | [_, _], _ => rfl
  have Blo : FB P w K mg base "_law_loop" 2 ["_law_purl_here", "_law_inner"] spLoop := ⟨flo, _, ok__law_loop (P := P) (w := w) (base := base) Flo T0 Bdg, (PySem.W.mg_of X G alo), klo, blo⟩
  have Fus := fun_mk (st := s__law_usual) lus cus kus
  have bus := Fus.binds (ps := ["_law_purl_here", "_law_inner"]) fun _ _ _ _ _ _ us hl => match us, hl with | [_, _], _ => rfl
  have Bus : FB P w K mg base "_law_usual" 2 ["_law_purl_here", "_law_inner"] spLoop := ⟨fus, _, ok__law_usual (P := P) (w := w) (base := base) Fus T0 Bdg, (PySem.W.mg_of X G aus), kus, bus⟩
  have Fde := fun_mk (st := s__law_deed) lde cde kde
  have bde := Fde.binds (ps := ["_law_purl_here"]) fun _ _ _ _ _ _ us hl => match us, hl with | [_], _ => rfl
  have Bde : FB P w K mg base "_law_deed" 2 ["_law_purl_here"] spDeed := ⟨fde, _, ok__law_deed (P := P) (w := w) (base := base) Fde T0 Bdg, (PySem.W.mg_of X G ade), kde, bde⟩
  have Fls := fun_mk (st := s__law_loops) lls cls kls
  have bls := Fls.binds (ps := ["_law_purl_here", "_law_most"]) fun _ _ _ _ _ _ us hl => match us, hl with | [_, _], _ => rfl
  have Bls : FB P w K mg base "_law_loops" 3 ["_law_purl_here", "_law_most"] spLoops := ⟨fls, _, ok__law_loops (P := P) (w := w) (base := base) Fls T0 Bdg Blo Bus Bde, (PySem.W.mg_of X G als), kls, bls⟩
  have Fed := fun_mk (st := s__law_endtext) led ced ked
  have bed := Fed.binds (ps := ["_law_at"]) fun _ _ _ _ _ _ us hl => match us, hl with | [_], _ => rfl
  have Bed : FB P w K mg base "_law_endtext" 1 ["_law_at"] spEnd := ⟨fed, _, ok__law_endtext (P := P) (w := w) (base := base) Fed T0 , (PySem.W.mg_of X G aed), ked, bed⟩
  have Flt := fun_mk (st := s__law_looptext) llt clt klt
  have blt := Flt.binds (ps := ["_law_loop_here"]) fun _ _ _ _ _ _ us hl => match us, hl with | [_], _ => rfl
  have Blt : FB P w K mg base "_law_looptext" 2 ["_law_loop_here"] spLoopT := ⟨flt, _, ok__law_looptext (P := P) (w := w) (base := base) Flt T0 Bed, (PySem.W.mg_of X G alt), klt, blt⟩
  have Fsp := fun_mk (st := s__law_spots) lsp csp ksp
  have bsp := Fsp.binds (ps := []) fun _ _ _ _ _ _ us hl => match us, hl with | [], _ => rfl
  have Bsp : FB P w K mg base "_law_spots" 1 [] spSpots := ⟨fsp, _, ok__law_spots (P := P) (w := w) (base := base) Fsp T0 , (PySem.W.mg_of X G asp), ksp, bsp⟩
  have Fdt := fun_mk (st := s__law_deedtext) ldt cdt kdt
  have bdt := Fdt.binds (ps := ["_law_deed_here"]) fun _ _ _ _ _ _ us hl => match us, hl with | [_], _ => rfl
  have Bdt : FB P w K mg base "_law_deedtext" 2 ["_law_deed_here"] spDeedT := ⟨fdt, _, ok__law_deedtext (P := P) (w := w) (base := base) Fdt T0 Bsp, (PySem.W.mg_of X G adt), kdt, bdt⟩
  have Ftx := fun_mk (st := s__law_text) ltx ctx ktx
  have btx := Ftx.binds (ps := ["_law_plan"]) fun _ _ _ _ _ _ us hl => match us, hl with | [_], _ => rfl
  have Btx : FB P w K mg base "_law_text" 3 ["_law_plan"] spText := ⟨ftx, _, ok__law_text (P := P) (w := w) (base := base) Ftx T0 Blt Bdt, (PySem.W.mg_of X G atx), ktx, btx⟩
  have Fev := fun_mk (st := s__law_end) lev cev kev
  have bev := Fev.binds (ps := ["_law_at", "_law_size", "_law_i"]) fun _ _ _ _ _ _ us hl => match us, hl with | [_, _, _], _ => rfl
  have Bev : FB P w K mg base "_law_end" 1 ["_law_at", "_law_size", "_law_i"] spEndV := ⟨fev, _, ok__law_end (P := P) (w := w) (base := base) Fev T0 , (PySem.W.mg_of X G aev), kev, bev⟩
  have Fsh := fun_mk (st := s__law_shut) lsh csh ksh
  have bsh := Fsh.binds (ps := ["_law_actor", "_law_size"]) fun _ _ _ _ _ _ us hl => match us, hl with | [_, _], _ => rfl
  have Bsh : FB P w K mg base "_law_shut" 2 ["_law_actor", "_law_size"] spShut2 := ⟨fsh, _, ok__law_shut (P := P) (w := w) (base := base) Fsh T0 Bev, (PySem.W.mg_of X G ash), ksh, bsh⟩
  have Fwd := fun_mk (st := s__law_wide) lwd cwd kwd
  have bwd := Fwd.binds (ps := ["_law_plan", "_law_size"]) fun _ _ _ _ _ _ us hl => match us, hl with | [_, _], _ => rfl
  have Bwd : FB P w K mg base "_law_wide" 2 ["_law_plan", "_law_size"] spWide := ⟨fwd, _, ok__law_wide (P := P) (w := w) (base := base) Fwd T0 Bev, (PySem.W.mg_of X G awd), kwd, bwd⟩
  have Fon := fun_mk (st := s__law_onward) lon con kon
  have bon := Fon.binds (ps := ["_law_some", "_law_steps"]) fun _ _ _ _ _ _ us hl => match us, hl with | [_, _], _ => rfl
  have Bon : FB P w K mg base "_law_onward" 1 ["_law_some", "_law_steps"] spOnward := ⟨fon, _, ok__law_onward (P := P) (w := w) (base := base) Fon T0 , (PySem.W.mg_of X G aon), kon, bon⟩
  have Ffr := fun_mk (st := s__law_far) lfr cfr kfr
  have bfr := Ffr.binds (ps := ["_law_purl_here"]) fun _ _ _ _ _ _ us hl => match us, hl with | [_], _ => rfl
  have Bfr : FB P w K mg base "_law_far" 2 ["_law_purl_here"] spFar := ⟨ffr, _, ok__law_far (P := P) (w := w) (base := base) Ffr T0 Bdg, (PySem.W.mg_of X G afr), kfr, bfr⟩
  have Fdu := fun_mk (st := s__law_due) ldu cdu kdu
  have bdu := Fdu.binds (ps := ["_law_plan", "_law_size"]) fun _ _ _ _ _ _ us hl => match us, hl with | [_, _], _ => rfl
  have Bdu : FB P w K mg base "_law_due" 3 ["_law_plan", "_law_size"] spDue := ⟨fdu, _, ok__law_due (P := P) (w := w) (base := base) Fdu T0 Bsh Bwd Bon, (PySem.W.mg_of X G adu), kdu, bdu⟩
  have Fan := fun_mk (st := s__law_answer) lan can kan
  have ban := Fan.binds (ps := ["_law_program", "_law_size"]) fun _ _ _ _ _ _ us hl => match us, hl with | [_, _], _ => rfl
  have Ban : FB P w K mg base "_law_answer" 6 ["_law_program", "_law_size"] (spAnswer K CP C) := ⟨fan, _, ok__law_answer (P := P) (w := w) (base := base) Fan T0 Brc1 FK, (PySem.W.mg_of X G aan), kan, ban⟩
  have Fft := fun_mk (st := s__law_fits) lft cft kft
  have bft := Fft.binds (ps := ["_law_purl_here"]) fun _ _ _ _ _ _ us hl => match us, hl with | [_], _ => rfl
  have FL := fun_mk (st := s_law) lL cL kL
  have bL := FL.binds (ps := ["_law_script"]) fun _ _ _ _ _ _ us hl => match us, hl with | [_], _ => rfl
  have Bft : FBG P w K mg base "_law_fits" 9 spFits := ⟨fft, ok__law_fits YY Bls Btx Bdg Bfr Bdu Ban Fft bft T0 (PySem.W.mg_none_of X G z_repr), (PySem.W.mg_of X G aft), kft⟩
  exact ok_law Bpu Bft FL bL T0 (PySem.W.mg_none_of X G z_repr)
end Sq.N4
open PySem PySem.W PyProof.Rows
set_option maxRecDepth 100000 in
set_option maxHeartbeats 0 in
theorem PySem.Challenge.cw_squareloops_k56_whole_rounds_at_all_size_holds : PySem.Challenge.rw_squareloops_k56_whole_rounds_at_all_size.Holds := by
  w_on; o_law; k_head; (case hw => w_witness2)
  k_fill
  refine Sq.walkG (l := PySem.Challenge.rw_squareloops_k56_whole_rounds_at_all_size) (k := 10) (sp := Sq.spLaw) rfl (by decide) rfl ⟨rfl, by decide, by decide⟩ (fun w h Y => PySem.W.kIn_of Y) ?F (fun K H a ns h1 _ h2 => ⟨a, ns, rfl, h2, h1, fun _ => rfl⟩)
  case F =>
    intro w mg fa h KX G hmg base _ _
    refine' Sq.N4.all_mk KX G hmg ?dB ?jB ?yB ?xB ?vB ?dC ?jC ?yC ?xC ?vC ?dP ?jP ?yP ?xP ?vP ?dN ?jN ?yN ?xN ?vN ?dS ?jS ?vS ?hS ?dR ?jR ?vR ?xR ?yR ?dM ?arl ?lrl ?crl ?krl ?aro ?lro ?cro ?kro ?afw ?lfw ?cfw ?kfw ?arc ?lrc ?crc ?krc ?ard ?lrd ?crd ?krd ?aC ?am1 ?im1 ?lm1 ?cm1 ?km1 ?ag1 ?sg1 ?tg1 ?rg1 ?lg1 ?cg1 ?kg1 ?ag2 ?sg2 ?tg2 ?rg2 ?lg2 ?cg2 ?kg2 ?ag3 ?sg3 ?tg3 ?rg3 ?lg3 ?cg3 ?kg3 ?pg ?hd ?po ?sa ?mk ?kc ?nO ?nI ?nD ?nB ?nR ?nP ?q1 ?q2 ?q3 ?q4 ?aCP ?am5 ?im5 ?lm5 ?cm5 ?km5 ?ag4 ?sg4 ?tg4 ?rg4 ?lg4 ?cg4 ?kg4 ?e1 ?e2 ?e3 ?e4 ?e5 ?lcm ?ccm ?kcm ?pgq ?hdq ?poq ?saq ?mkq ?kcq ?nNq ?dOS ?dIS ?dMN ?abh ?lbh ?cbh ?kbh ?arb ?lrb ?crb ?krb ?ano ?lno ?cno ?kno ?q5 ?q6 ?aF_ ?xF_ ?vF_ ?saF_ ?gaF_ ?ggF_ ?gvF_ ?iF_ ?tF_ ?lF_ ?cF_ ?kfF_ ?kF_ ?eF_ ?yF_ ?hF_ ?uF_ ?dMS ?apa ?lpa ?cpa ?kpa ?asa1 ?lsa1 ?csa1 ?ksa1 ?ana ?lna ?cna ?kna ?afw1 ?lfw1 ?cfw1 ?kfw1 ?anc ?lnc ?cnc ?knc ?aso ?lso ?cso ?kso ?afa1 ?lfa1 ?cfa1 ?kfa1 ?aiw ?liw ?ciw ?kiw ?awi ?lwi ?cwi ?kwi ?acs ?lcs ?ccs ?kcs ?acp ?lcp ?ccp ?kcp ?arc1 ?lrc1 ?crc1 ?krc1 ?apu ?lpu ?cpu ?kpu ?adg ?ldg ?cdg ?kdg ?alo ?llo ?clo ?klo ?aus ?lus ?cus ?kus ?ade ?lde ?cde ?kde ?als ?lls ?cls ?kls ?aed ?led ?ced ?ked ?alt ?llt ?clt ?klt ?asp ?lsp ?csp ?ksp ?adt ?ldt ?cdt ?kdt ?atx ?ltx ?ctx ?ktx ?aev ?lev ?cev ?kev ?ash ?lsh ?csh ?ksh ?awd ?lwd ?cwd ?kwd ?aon ?lon ?con ?kon ?afr ?lfr ?cfr ?kfr ?adu ?ldu ?cdu ?kdu ?aan ?lan ?can ?kan ?aft ?lft ?cft ?kft ?aL ?lL ?cL ?kL ?z_len ?z_int ?z_abs ?z_divmod ?z_range ?z_isinstance ?z_bool ?z_tuple ?z_str ?z_list ?z_min ?z_max ?z_all ?z_any ?z_sum ?z_sorted ?z_enumerate ?z_set ?z_repr base
    (case dB => k_is)
    (case jB => k_is)
    (case yB => first | rfl | decide)
    (case xB => repeat (first | exact trivial | refine ⟨⟨_, _, rfl, rfl⟩, ?_⟩))
    (case vB => first | rfl | decide +kernel)
    (case dC => k_is)
    (case jC => k_is)
    (case yC => first | rfl | decide)
    (case xC => repeat (first | exact trivial | refine ⟨⟨_, _, rfl, rfl⟩, ?_⟩))
    (case vC => first | rfl | decide +kernel)
    (case dP => k_is)
    (case jP => k_is)
    (case yP => first | rfl | decide)
    (case xP => repeat (first | exact trivial | refine ⟨⟨_, _, rfl, rfl⟩, ?_⟩))
    (case vP => first | rfl | decide +kernel)
    (case dN => k_is)
    (case jN => k_is)
    (case yN => first | rfl | decide)
    (case xN => repeat (first | exact trivial | refine ⟨⟨_, _, rfl, rfl⟩, ?_⟩))
    (case vN => first | rfl | decide +kernel)
    (case dS => k_is)
    (case jS => k_is)
    (case vS => repeat (first | exact .nil | refine .cons ⟨_, rfl⟩ ?_))
    (case hS => decide)
    (case dR => k_is)
    (case jR => k_is)
    (case vR => first | rfl | decide +kernel)
    (case xR => first | rfl | decide +kernel)
    (case yR => exact ⟨_, _, _, _, rfl⟩)
    (case dM => k_is)
    (case arl => k_is)
    (case lrl => k_is)
    (case crl => k_is)
    (case krl => k_is)
    (case aro => k_is)
    (case lro => k_is)
    (case cro => k_is)
    (case kro => k_is)
    (case afw => k_is)
    (case lfw => k_is)
    (case cfw => k_is)
    (case kfw => k_is)
    (case arc => k_is)
    (case lrc => k_is)
    (case crc => k_is)
    (case krc => k_is)
    (case ard => k_is)
    (case lrd => k_is)
    (case crd => k_is)
    (case krd => k_is)
    (case aC => k_is)
    (case am1 => k_is)
    (case im1 => k_is)
    (case lm1 => k_is)
    (case cm1 => k_is)
    (case km1 => k_is)
    (case ag1 => k_is)
    (case sg1 => k_is)
    (case tg1 => k_is)
    (case rg1 => k_is)
    (case lg1 => k_is)
    (case cg1 => k_is)
    (case kg1 => k_is)
    (case ag2 => k_is)
    (case sg2 => k_is)
    (case tg2 => k_is)
    (case rg2 => k_is)
    (case lg2 => k_is)
    (case cg2 => k_is)
    (case kg2 => k_is)
    (case ag3 => k_is)
    (case sg3 => k_is)
    (case tg3 => k_is)
    (case rg3 => k_is)
    (case lg3 => k_is)
    (case cg3 => k_is)
    (case kg3 => k_is)
    (case pg => k_is)
    (case hd => k_is)
    (case po => k_is)
    (case sa => k_is)
    (case mk => k_is)
    (case kc => k_is)
    (case nO => k_is)
    (case nI => k_is)
    (case nD => k_is)
    (case nB => k_is)
    (case nR => k_is)
    (case nP => k_is)
    (case q1 => k_is)
    (case q2 => k_is)
    (case q3 => k_is)
    (case q4 => k_is)
    (case aCP => k_is)
    (case am5 => k_is)
    (case im5 => k_is)
    (case lm5 => k_is)
    (case cm5 => k_is)
    (case km5 => k_is)
    (case ag4 => k_is)
    (case sg4 => k_is)
    (case tg4 => k_is)
    (case rg4 => k_is)
    (case lg4 => k_is)
    (case cg4 => k_is)
    (case kg4 => k_is)
    (case e1 => k_is)
    (case e2 => k_is)
    (case e3 => k_is)
    (case e4 => k_is)
    (case e5 => k_is)
    (case lcm => k_is)
    (case ccm => k_is)
    (case kcm => k_is)
    (case pgq => k_is)
    (case hdq => k_is)
    (case poq => k_is)
    (case saq => k_is)
    (case mkq => k_is)
    (case kcq => k_is)
    (case nNq => k_is)
    (case dOS => k_is)
    (case dIS => k_is)
    (case dMN => k_is)
    (case abh => k_is)
    (case lbh => k_is)
    (case cbh => k_is)
    (case kbh => k_is)
    (case arb => k_is)
    (case lrb => k_is)
    (case crb => k_is)
    (case krb => k_is)
    (case ano => k_is)
    (case lno => k_is)
    (case cno => k_is)
    (case kno => k_is)
    (case q5 => k_is)
    (case q6 => k_is)
    (case aF_ => k_is)
    (case xF_ => k_is)
    (case vF_ => first | decide | decide +kernel | rfl)
    (case saF_ => k_is)
    (case gaF_ => k_is)
    (case ggF_ => k_is)
    (case gvF_ => k_is)
    (case iF_ => k_is)
    (case tF_ => k_is)
    (case lF_ => k_is)
    (case cF_ => k_is)
    (case kfF_ => k_is)
    (case kF_ => k_is)
    (case eF_ => k_is)
    (case yF_ => k_is)
    (case hF_ => k_is)
    (case uF_ => first | rfl | k_is)
    (case dMS => k_is)
    (case apa => k_is)
    (case lpa => k_is)
    (case cpa => k_is)
    (case kpa => k_is)
    (case asa1 => k_is)
    (case lsa1 => k_is)
    (case csa1 => k_is)
    (case ksa1 => k_is)
    (case ana => k_is)
    (case lna => k_is)
    (case cna => k_is)
    (case kna => k_is)
    (case afw1 => k_is)
    (case lfw1 => k_is)
    (case cfw1 => k_is)
    (case kfw1 => k_is)
    (case anc => k_is)
    (case lnc => k_is)
    (case cnc => k_is)
    (case knc => k_is)
    (case aso => k_is)
    (case lso => k_is)
    (case cso => k_is)
    (case kso => k_is)
    (case afa1 => k_is)
    (case lfa1 => k_is)
    (case cfa1 => k_is)
    (case kfa1 => k_is)
    (case aiw => k_is)
    (case liw => k_is)
    (case ciw => k_is)
    (case kiw => k_is)
    (case awi => k_is)
    (case lwi => k_is)
    (case cwi => k_is)
    (case kwi => k_is)
    (case acs => k_is)
    (case lcs => k_is)
    (case ccs => k_is)
    (case kcs => k_is)
    (case acp => k_is)
    (case lcp => k_is)
    (case ccp => k_is)
    (case kcp => k_is)
    (case arc1 => k_is)
    (case lrc1 => k_is)
    (case crc1 => k_is)
    (case krc1 => k_is)
    (case apu => k_is)
    (case lpu => k_is)
    (case cpu => k_is)
    (case kpu => k_is)
    (case adg => k_is)
    (case ldg => k_is)
    (case cdg => k_is)
    (case kdg => k_is)
    (case alo => k_is)
    (case llo => k_is)
    (case clo => k_is)
    (case klo => k_is)
    (case aus => k_is)
    (case lus => k_is)
    (case cus => k_is)
    (case kus => k_is)
    (case ade => k_is)
    (case lde => k_is)
    (case cde => k_is)
    (case kde => k_is)
    (case als => k_is)
    (case lls => k_is)
    (case cls => k_is)
    (case kls => k_is)
    (case aed => k_is)
    (case led => k_is)
    (case ced => k_is)
    (case ked => k_is)
    (case alt => k_is)
    (case llt => k_is)
    (case clt => k_is)
    (case klt => k_is)
    (case asp => k_is)
    (case lsp => k_is)
    (case csp => k_is)
    (case ksp => k_is)
    (case adt => k_is)
    (case ldt => k_is)
    (case cdt => k_is)
    (case kdt => k_is)
    (case atx => k_is)
    (case ltx => k_is)
    (case ctx => k_is)
    (case ktx => k_is)
    (case aev => k_is)
    (case lev => k_is)
    (case cev => k_is)
    (case kev => k_is)
    (case ash => k_is)
    (case lsh => k_is)
    (case csh => k_is)
    (case ksh => k_is)
    (case awd => k_is)
    (case lwd => k_is)
    (case cwd => k_is)
    (case kwd => k_is)
    (case aon => k_is)
    (case lon => k_is)
    (case con => k_is)
    (case kon => k_is)
    (case afr => k_is)
    (case lfr => k_is)
    (case cfr => k_is)
    (case kfr => k_is)
    (case adu => k_is)
    (case ldu => k_is)
    (case cdu => k_is)
    (case kdu => k_is)
    (case aan => k_is)
    (case lan => k_is)
    (case can => k_is)
    (case kan => k_is)
    (case aft => k_is)
    (case lft => k_is)
    (case cft => k_is)
    (case kft => k_is)
    (case aL => k_is)
    (case lL => k_is)
    (case cL => k_is)
    (case kL => k_is)
    (case z_len => k_is)
    (case z_int => k_is)
    (case z_abs => k_is)
    (case z_divmod => k_is)
    (case z_range => k_is)
    (case z_isinstance => k_is)
    (case z_bool => k_is)
    (case z_tuple => k_is)
    (case z_str => k_is)
    (case z_list => k_is)
    (case z_min => k_is)
    (case z_max => k_is)
    (case z_all => k_is)
    (case z_any => k_is)
    (case z_sum => k_is)
    (case z_sorted => k_is)
    (case z_enumerate => k_is)
    (case z_set => k_is)
    (case z_repr => k_is)
