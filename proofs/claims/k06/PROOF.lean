import PyProof.Rows.All
import Wide.All
import OpenK.AllK
import Wide.FinOn
import HandS.ForMost
import HandS.Star
import HandS.Property
import HandS.OwnEq
import HandS.Wide
import HandS.WideBits
import HandS.Flow
import HandS.Defaults
import HandS.MakeKw
import HandS.MapObj
import HandS.SetFor
import PyProof.Rows.CountFlat
import HandS.Comp
import HandS.SetBool
import HandS.TupSets
import HandS.Exc
import HandS.TryMany
import HandS.ExcInit
import HandS.ExcField
import HandS.ExcIs
import HandS.WordsExc
import HandS.ExcOwn
import HandS.IsInst
import KE.KExcIs
import HandS.HotCalls
import HandS.Iter
import HandS.ExcCtx
import KE.KTryMore
import HandS.Lambda
import HandS.NestedK
import KE.KStateDown
import HandS.Head0
import HandS.Head1
import HandS.Head2
import HandS.HeadHook4
import HandS.Walk
import KE.KDictWalk
import HandS.ListEq
import HandS.More
import HandS.Zip
import HandS.Dict
import HandS.Text
import HandS.Strs
import HandS.SetKeys
import KE.KUnpackStar
import HandS.Conv
import PyProof.TupleKey
import PyProof.DictRoadsH
import PyProof.DictKinds
import HandS.Small
import HandS.NoneIn
import HandS.StrMore
import HandS.Style
import HandS.ClsMeth
import HandS.FStr
import HandS.SlotsOwn
import HandS.Deep
import KE.OsSort
import HandS.TupAny
import PyProof.ReprBulk
import PyProof.Rows.RegStrFacts
import PyProof.NeKinds
import PySem.Challenge.RW_squareloops_k06_programs_made_and_joined
set_option Elab.async false
set_option maxRecDepth 100000
set_option maxHeartbeats 16000000
namespace Sq
open PySem L2 PySem.Spec PyProof.Rows

/-- a promise that is kept where no repr is under way -/
def FnG (P : Program) (w : World) (K : PySem.W.Frag) (mg : Str → Option Value) (base : Heap) (k : Nat) (f : Addr) (sp : Sp) : Prop :=
  ∀ (A : Around) (fr : List Env) (s : Shared) (H : Hp) (us : List Value) (vs : List V) (Q : VK), A.guards = some [] → Room k A →
    Env0 P w K mg base A fr s H → Vals vs us → sp vs H Q E0 → codeAny (model P w) A (.call (.ref f) ⟨us, []⟩) (CR CX0 fr P w H s Q E0) s

section
variable {P : Program} {w : World} {K : PySem.W.Frag} {mg : Str → Option Value} {base : Heap} {k : Nat} {f : Addr} {fd : FuncData} {sp : Sp} {x qual : Str} {st : Stmt} {N ps : List Str}

theorem FnG.of (F : Fun K x qual st f fd) (S : FnScope N ps (defScope st)) (b : Binds K fd ps []) (len : ∀ vs H Q, sp vs H Q E0 → vs.length = ps.length)
    (hbody : ∀ (cdv : Value) (A : Around) (fr : List Env) (s : Shared) (H : Hp) (vs : List V) (Q : VK),
      (A.deeper (envOfC qual (defScope st) s.heap.objs.size f cdv)).guards = some [] →
      Room k (A.deeper (envOfC qual (defScope st) s.heap.objs.size f cdv)) → sp vs H Q E0 →
      ∃ t, PSs (cxOf CX0 P w K mg base N qual (defScope st) f cdv A fr s H E0).nox (defBody st) t ∧
        t { nx := fun _ H' => Q .non H', rt := Q } (L2.start N vs) H) : FnG P w K mg base (k + 1) f sp := by
  intro A fr s H us vs Q hg hr e0 r hs
  obtain ⟨oc, od, kV, doc, pm, an, cdv, ct, osl, rfl, lk, hcd⟩ := F.ex
  have hin : K.In s.heap := e0.mod.kin.keeps fun b o e => (e0.bs b o e).1
  have hl : vs.length = ps.length := len vs H Q hs
  have hu : (us ++ []).length = ps.length := by
    rw [List.append_nil, ← r.length]
    exact hl
  refine StX.run_bnd lk hcd S hr e0 (G := fun vs' H2 => vs' = vs ∧ H2 = H) (fun A' Ex Q' h => ?_) fun s2 H2 vs' hv hr' => ?_
  · have z := b s us hin hu
    rw [List.append_nil] at z
    exact z (model P w) A' Ex Q' (h s H vs us e0 Un.refl rfl (fun _ _ q => q) r hl ⟨rfl, rfl⟩)
  · obtain ⟨e1, e2⟩ := hv
    subst e1 e2
    obtain ⟨t, ht, q⟩ := hbody cdv A fr s2 _ _ Q hg hr' hs
    exact ⟨t, ht.nox, q⟩
theorem FnG.ofR (F : FnR P w K mg base CX0 k f sp) : FnG P w K mg base k f sp := fun A fr s H us vs Q _ hr e0 r h => F A fr s H us vs Q E0 hr e0 r h
end

section
variable {X : Cx} {k : Nat} {f : Addr} {sp : Sp} {x : Str} {p pos : Pos} {e : Expr} {es : List Expr} {t : TA}
theorem run_fnG {pins : List (Addr × Obj)} {σ : L2.St} {H : Hp} {s : Shared} {Q : VK} {us : List Value} {vs : List V} (F : FnG X.prog X.w X.K X.mg X.base k f sp)
    (hg : X.A.guards = some []) (hr : Room k X.A) (I : Inv X pins σ H s) (r : Vals vs us) (h : sp vs H Q E0) :
    wpAny (model X.prog X.w) X.A (call (.ref f) us) (EP X pins σ Q) X.xe s := by
  refine wpAny_call (codeAny_mono (F X.A X.stack s H us vs Q hg hr I.env0 r h) fun z s' hz => ?_)
  match z, hz with
  | .error _, hz => exact False.elim hz
  | .ok (.ret _), hz => exact I.after hz
  | .ok .next, hz => exact False.elim hz
  | .ok .brk, hz => exact False.elim hz
  | .ok .cont, hz => exact False.elim hz
def tCallG (sp : Sp) (t : TA) : TE := fun σ H Q => t σ H fun vs H1 => sp vs H1 Q E0
/-- f(e, ..) by such a promise -/
theorem pe_callG (F : FnG X.prog X.w X.K X.mg X.base k f sp) (hg : X.A.guards = some []) (hr : Room k X.A) (hgl : Gl X x) (hm : X.mg x = some (.ref f))
    (hk : PySem.W.keepIn X.K (.ref f) = true) (ha : PA X (e :: es) t) (hdb : (x == ("__debug__" : Str)) = false := by decide)
    (he : starEach (e :: es) X.env = (false, eval e X.env) :: starEach es X.env := by rfl)
    (hpl : (backTo pos (starEach es X.env)).any (·.1) = false := by rfl) : PE X (.Call (.Name x p) (e :: es) [] pos) (tCallG sp t) := by
  constructor
  intro pins s σ H Q I h
  apply wpAny_Call_Name_kw
  refine ld_glob I hgl hm (PySem.W.callWith_K (h₀ := X.base) I.ok.mod.kin hk ?_ he hpl) hdb
  refine thn (ha.run pos pins s σ H _ I h) ?_
  rintro us s1 ⟨vs, H1, I1, r, q⟩
  exact ⟨I1.kIn, run_fnG F hg hr I1 r q⟩

/-- repr of data: what is shown, exactly -/
def rRepr (K : PySem.W.Frag) : List V → Hp → VK → Prop := fun xs H Q => ∃ (a : Addr) (d : PyData), xs = [.ref a] ∧ Dp K H (.ref a) d ∧ d.showable = true ∧ d.hasDict = false ∧ d.depth ≤ 20 ∧ d.shown.length ≤ sizeLine ∧ Q (.str d.shown) H
theorem call_repr (hg : X.A.guards = some []) (hr : Room k X.A) : CallR X (.builtin "repr") (rRepr X.K) := by
  intro pins s σ H xs us Q I r h
  obtain ⟨a, d, rfl, hd, h1, h2, h3, h4, q⟩ := h
  obtain ⟨u, rfl, r1⟩ := vals1 r
  obtain ⟨as, rd⟩ := Dp.reads I d _ u hd r1
  cases r1
  have hu := hr.units
  refine repr_of_reads' rd h1 (fun z => by rw [h2] at z; cases z) hg (by omega) (fun _ _ z => z) (fun h' u' tk kp => ?_) h4
  exact ⟨.str d.shown, H, I.kept kp, ⟨u', rfl⟩, q⟩
end
end Sq
namespace Sq
open PySem L2 PySem.Spec PyProof.Rows

section
variable {P : Program} {w : World} {K : PySem.W.Frag} {mg mb : Str → Option Value} {k : Nat} {fa a : Addr} {sp : Sp} {s1 : Shared} {vs : List Value} {ns : List Int}
/-- the law's own call, from such a promise of it, over one abstract heap -/
theorem end_core (KX : K.In s1.heap) (hns : s1.heap.Ns mainGlobals mg) (hb : s1.heap.Ns builtinsNs mb) (hbb : ∀ x : Str, x ≠ "__name__" → mb x = bootBuiltins x)
    (hlim : s1.heap.NoLimit) (hg : s1.gens = #[]) (ha : s1.heap.get? a = some { cls := .type "list", data := .seq vs.toArray }) (hr : Room k callerA)
    (F : ∀ base : Heap, K.In base → base.Ns mainGlobals mg → FnG P w K mg base k fa sp)
    (H : Hp) (hO : Only H) (hsp : sp [.ref a] H (fun v _ => v = .bl true) E0) (hok : HOk P w H s1.heap) (hA : ∀ b, H b ≠ none → b = a) (hK : H a ≠ none → K.lookup a = none) :
    codeAny (model P w) callerA (.call (.ref fa) ⟨[.ref a], []⟩) (fun r s' => r = .ok (.ret (.bool true)) ∧ OldK s1.heap s'.heap ∧ s'.os = s1.os ∧ AllBare s'.gens) s1 := by
  have free : ∀ {b : Addr} {o : Obj}, s1.heap.get? b = some o → o ≠ { cls := .type "list", data := .seq vs.toArray } → H b = none := by
    intro b o e n
    refine Classical.byContradiction fun q => n ?_
    have eb := hA b q
    rw [eb, ha] at e
    exact (Option.some.inj e).symm
  have ns1 : ∀ {b : Addr} {m : Str → Option Value}, s1.heap.Ns b m → (hidT s1.heap H).Ns b m := by
    rintro b m ⟨o, es, ep, e, d, r⟩
    refine ⟨o, es, ep, hidT_get e (free e fun q => ?_), d, r⟩
    rw [q] at d
    cases d
  have kin : K.In (hidT s1.heap H) := by
    intro b o e
    refine hidT_get (KX b o e) (Classical.byContradiction fun q => ?_)
    have eb := hA b q
    rw [eb] at e q
    rw [hK q] at e
    cases e
  have md : Mod K mg (hidT s1.heap H) := by
    obtain ⟨mc, h1, h2⟩ := hlim
    exact ⟨kin, ns1 hns, ⟨mb, ns1 hb, hbb⟩, ⟨mc, ns1 h1, h2⟩⟩
  have e0 : Env0 P w K mg (hidT s1.heap H) callerA [] s1 H :=
    { frames := rfl, mod := md, bs := fun b o e => of_hidT e, bsz := Nat.le_of_eq (hidT_size _ _), funs := trivial, frf := fun b hb => (by cases hb), hok := hok, bare := .of_eq hg }
  have run := F _ kin (ns1 hns) callerA [] s1 H [.ref a] [.ref a] (fun v _ => v = .bl true) rfl hr e0 (.cons rfl .nil) hsp
  refine codeAny_mono run fun r s' h => ?_
  match r, h with
  | .error _, h => exact False.elim h
  | .ok .next, h => exact False.elim h
  | .ok .brk, h => exact False.elim h
  | .ok .cont, h => exact False.elim h
  | .ok (.ret u), h =>
    obtain ⟨v, H', os, bare, un, hok', r', q⟩ := h
    cases (show v = .bl true from q)
    cases (show u = Value.bool true from r')
    refine ⟨rfl, OldK.of_keep fun b o e => ?_, os, bare⟩
    rcases hO b with z | ⟨ob, xs, z⟩
    · exact un.keep b o e z (fun q => by cases q) (fun q => by cases q)
    · have e1 := (hok b _ z).1
      have e2 := (hok' b _ (un.frzs b ob _ z)).1
      exact e2.trans (e1.symm.trans e)

theorem end_call (KX : K.In s1.heap) (hns : s1.heap.Ns mainGlobals mg) (hb : s1.heap.Ns builtinsNs mb) (hbb : ∀ x : Str, x ≠ "__name__" → mb x = bootBuiltins x)
    (hlim : s1.heap.NoLimit) (hg : s1.gens = #[]) (ha : s1.heap.get? a = some { cls := .type "list", data := .seq vs.toArray }) (hi : IntsAre vs ns) (hl : ns.length ≤ sizeLine)
    (hr : Room k callerA) (F : ∀ base : Heap, K.In base → base.Ns mainGlobals mg → FnG P w K mg base k fa sp)
    (hsp : ∀ H : Hp, Only H → SqL K H a (ns.map V.int) → sp [.ref a] H (fun v _ => v = .bl true) E0) :
    codeAny (model P w) callerA (.call (.ref fa) ⟨[.ref a], []⟩) (fun r s' => r = .ok (.ret (.bool true)) ∧ OldK s1.heap s'.heap ∧ s'.os = s1.os ∧ AllBare s'.gens) s1 := by
  have rv := vals_ints hi
  have ez : vs.toArray.size ≤ sizeLine := by
    rw [List.size_toArray, hi.length]
    exact hl
  by_cases hk : K.lookup a = none
  · let H : Hp := fun b => if b = a then some (.frz { cls := .type "list", data := .seq vs.toArray } (.lst (ns.map V.int))) else none
    have at_a : H a = some (.frz { cls := .type "list", data := .seq vs.toArray } (.lst (ns.map V.int))) := if_pos rfl
    have off : ∀ {b : Addr}, b ≠ a → H b = none := fun q => if_neg q
    have only : Only H := fun b => by
      by_cases q : b = a
      · exact .inr ⟨_, _, q ▸ at_a⟩
      · exact .inl (off q)
    refine end_core KX hns hb hbb hlim hg ha hr F H only (hsp H only (.inl (.inr ⟨_, at_a⟩))) (fun b u z => ?_) (fun b z => Classical.byContradiction fun q => z (off q)) fun _ => hk
    by_cases q : b = a
    · subst q
      cases at_a.symm.trans z
      exact ⟨ha, by rw [List.length_map]; exact hl, vs, _, rv, ha⟩
    · cases (off q).symm.trans z
  · obtain ⟨o, ho⟩ := Option.ne_none_iff_exists'.mp hk
    have e := (KX a o ho).symm.trans ha
    cases e
    refine end_core KX hns hb hbb hlim hg ha hr F (fun _ => none) (fun _ => .inl rfl) (hsp _ (fun _ => .inl rfl) (.inr ⟨_, vs.toArray, _, ho, rfl, rfl, rfl, ez, by simpa using rv⟩)) (fun b u z => by cases z) (fun b z => absurd rfl z) fun z => absurd rfl z
end

/-- the goal that k_head leaves, from such a promise of the law -/
theorem walkG {l : PySem.W.OpenLaw} {n k : Nat} {q : Program} {loose : List Str} {XP : (Str → Option Value) → Heap → Prop} {YP : World → Heap → Prop} {d : DefRec} {K : Params → PySem.W.Frag} {sp : PySem.W.Frag → Sp}
    (hn : l.most = some n) (hn2 : n ≤ sizeLine) (hdf : d.params.defaults = []) (hr : Room k callerA) (hY : ∀ (w : World) (h : Heap), YP w h → (K w.params).In h)
    (F : ∀ (w : World) (mg : Str → Option Value) (fa : Addr) (h : Heap), (K w.params).In h → h.Ns mainGlobals mg → mg d.name = some (.ref fa) →
      ∀ base : Heap, (K w.params).In base → base.Ns mainGlobals mg → FnG l.prog w (K w.params) mg base k fa (sp (K w.params)))
    (hsp : ∀ (K : PySem.W.Frag) (H : Hp) (a : Addr) (ns : List Int), ns.length ≤ n → Only H → SqL K H a (ns.map V.int) → sp K [.ref a] H (fun v _ => v = .bl true) E0) :
    PySem.W.WalkO q loose XP YP l.row.toRowW d [] (fun f vs => PySem.call f vs) := by
  refine Att.attach_call hn hdf ?_
  intro w s0 s1 mg mb fa o pm cd doc a vs ns G Y _ _ _ hmg hobj hints hlen hg
  have KX := hY w _ Y
  exact end_call KX G.T.g G.T.b G.T.builtins G.T.nolimit hg hobj hints (Nat.le_trans hlen hn2) hr (F w mg fa _ KX G.T.g hmg) fun H hO hS => hsp _ H a ns hlen hO hS
end Sq
namespace Sq
open PySem L2 PySem.Spec PyProof.Rows
section
variable {prog : Program} {w : World}
theorem meets_boolO (a : Addr) : MeetsIn prog w (Builtin.«bool.__new__» ⟨[.type "bool", .ref a], []⟩)
    (fun A R s => wpAny (model prog w) A.in1 (truthy (.ref a)) (fun b s1 => R (.ok (.ret (.bool b))) s1) (fun e s1 => R (.error e) s1) s) :=
  MeetsIn.of_wp fun A R s h => by
    have f1 := F.conv_sub_bool
    unfold Builtin.«bool.__new__»
    repeat (any_goals (first | assumption | (with_reducible refine wpAny_bind (wpAny_mono h (fun b s1 hb => ?_) fun _ _ z => z)) | wp_step))
    all_goals exact ⟨_, rfl, hb⟩
end
theorem rel1 (a : Addr) : Vals [V.ref a] [Value.ref a] := .cons rfl .nil
theorem rel2 (a b : Addr) : Vals [V.ref a, V.ref b] [Value.ref a, Value.ref b] := .cons rfl (.cons rfl .nil)
section
variable {X : Cx} {k : Nat} {f C : Addr} {sp : Sp}
/-- a def of the text run below the body -/
theorem run_below {A : Around} {pins : List (Addr × Obj)} {σ : L2.St} {H : Hp} {s : Shared} {Q : VK} {us : List Value} {vs : List V} {E : Value → Shared → Prop} (F : FnR X.prog X.w X.K X.mg X.base CX0 k f sp)
    (hr : Room k A) (fr : A.frames = X.A.frames) (I : Inv X pins σ H s) (r : Vals vs us) (h : sp vs H Q E0) :
    wpAny (model X.prog X.w) A (call (.ref f) us) (EP X pins σ Q) E s := by
  have e := I.env0
  have e1 : Env0 X.prog X.w X.K X.mg X.base A X.stack s H := { frames := fr.trans e.frames, mod := e.mod, bs := e.bs, bsz := e.bsz, funs := e.funs, frf := e.frf, hok := e.hok, bare := e.bare }
  refine wpAny_call (codeAny_mono (F A X.stack s H us vs Q E0 hr e1 r h) fun z s' hz => ?_)
  match z, hz with
  | .error _, hz => exact False.elim hz
  | .ok (.ret _), hz => exact I.after hz
  | .ok .next, hz => exact False.elim hz
  | .ok .brk, hz => exact False.elim hz
  | .ok .cont, hz => exact False.elim hz
/-- bool(o), o an instance of a class of the text that has a __bool__ -/
theorem call_boolO (hs : PySem.W.findIn X.K (.ref C) "__bool__" = some (some (.ref f))) (hf : PySem.W.isFn X.K (.ref f) = true) (F : FnR X.prog X.w X.K X.mg X.base CX0 k f sp) (hr : Room (k + 2) X.A) :
    CallR X (.type "bool") (fun xs H Q => ∃ a dx fs, xs = [.ref a] ∧ H a = some (.ins C dx fs) ∧ sp [.ref a] H (fun v H' => ∃ b, v = .bl b ∧ Q (.bl b) H') E0) := by
  intro pins s σ H xs us Q I r h
  obtain ⟨a, dx, fs, rfl, ha, q⟩ := h
  obtain ⟨u, rfl, r1⟩ := vals1 r
  cases r1
  obtain ⟨mA, J, _⟩ := ins_get I.hok ha
  obtain ⟨od, J, _⟩ := J.look
  obtain ⟨m, hF⟩ := I.fr
  refine callType_newIn PySem.F.called_bool PySem.F.newNe_bool (PySem.F.typeCall_bool_1 _) (PySem.F.newCall_bool_1 _) (fun obj => PySem.F.args_object_init_2 obj _) PySem.F.entry_bool_new (meets_boolO a) ?_
  show wpAny (model X.prog X.w) X.A.in1.in1 (truthy (.ref a)) _ _ s
  refine PySem.W.truthy_K hF I.ok.mod.kin J hs hf ?_
  refine wpAny_mono (run_below F hr.in1.in1 rfl I (rel1 a) q) (fun v s' hv => ?_) fun _ _ z => z
  obtain ⟨y, H', I', ry, b, ey, q'⟩ := hv
  subst ey
  cases ry
  exact ⟨PySem.typeIs_bool _ _, ⟨.bl b, H', I', rfl, q'⟩⟩

def rOwn2 (C : Addr) (sp : Sp) (g : Bool → Bool) : R2 := fun x y H Q => ∃ a b dx dy fs gs, x = .ref a ∧ y = .ref b ∧ H a = some (.ins C dx fs) ∧ H b = some (.ins C dy gs) ∧
  sp [.ref a, .ref b] H (fun v H' => ∃ r, v = .bl r ∧ Q (.bl (g r)) H') E0
/-- a == b, both instances of a class of the text with an __eq__ -/
theorem op_eqO (hs : PySem.W.findIn X.K (.ref C) "__eq__" = some (some (.ref f))) (hf : PySem.W.isFn X.K (.ref f) = true) (F : FnR X.prog X.w X.K X.mg X.base CX0 k f sp) (hr : Room k X.A) :
    OpR X (compareOp .Eq) (rOwn2 C sp id) := by
  intro pins s σ H x y v u Q I rx ry h
  obtain ⟨a, b, dx, dy, fs, gs, rfl, rfl, ha, hb, q⟩ := h
  cases rx
  cases ry
  obtain ⟨mA, J, _⟩ := ins_get I.hok ha
  obtain ⟨mB, J', _⟩ := ins_get I.hok hb
  obtain ⟨od, J, _⟩ := J.look
  obtain ⟨od', J', _⟩ := J'.look
  obtain ⟨m, hF⟩ := I.fr
  show wpAny (model X.prog X.w) X.A (richCompare .Eq (.ref a) (.ref b)) _ _ s
  refine PySem.W.cmp_K (op := .Eq) (tb := .ref C) hr.units0 hF I.ok.mod.kin J J'.type (by simp [PySem.W.notFirst]) hs hf ?_
  refine wpAny_mono (run_below F hr rfl I (rel2 a b) q) (fun v s' hv => ?_) fun _ _ z => z
  obtain ⟨y, H', I', ry, r, ey, q'⟩ := hv
  subst ey
  cases ry
  exact ⟨.bl r, H', I', rfl, q'⟩
end
section
variable {M : Model} {A : Around} {E : Value → Shared → Prop} {s : Shared} {K : PySem.W.Frag} {x C : Addr} {ox : Obj} {od : Option Obj}
/-- a method of object's own that a class of the text inherits -/
theorem ifBound_obj {name : Str} {id : String} {args : List Value} {Q : Option Value → Shared → Prop} (S : Slot "object" name id) (X : K.In s.heap) (I : PySem.W.InstAt s.heap x ox C od)
    (hs : PySem.W.findIn K (.ref C) name = some (some (.builtin id))) (h : wpAny M A (call (.builtin id) (.ref x :: args)) (fun v => Q (some v)) E s) :
    wpAny M A (callSpecialIfBound? (.ref x) name args) Q E s := by
  simp only [callSpecialIfBound?, bindSpecialIfBound?]
  refine wpAny_holding (wpAny_bind (wpAny_bind (wpAny_bind (I.type.here ((PySem.W.looks_findIn X hs).here ?_)))))
  simp only [S.bind]
  refine wpAny_bind (wpAny_askSetting (wpAny_ite ?_))
  have go : wpAny M A (call (.builtin id) ([.ref x] ++ args) >>= fun v => pure (some v)) Q E s := wpAny_bind (wpAny_mono h (fun _ _ q => wpAny_pure q) fun _ _ q => q)
  split
  · exact wpAny_bind (wpAny_pure (wpAny_pure go))
  · exact wpAny_tryCatch (wpAny_bind (wpAny_pure (wpAny_pure go)))
end
section
variable {prog : Program} {w : World} {A : Around} {E : Value → Shared → Prop} {s : Shared} {K : PySem.W.Frag} {x C : Addr} {ox : Obj} {od : Option Obj}
theorem checked_ne {y : Value} {Q : Unit → Shared → Prop} (X : K.In s.heap) (I : PySem.W.InstAt s.heap x ox C od) (ho : PySem.W.subIn K (.ref C) (.type "object") = some true) (h : Q () s) :
    wpAny (model prog w) A (checkBuiltinCall "object.__ne__" ⟨[.ref x, y], []⟩) Q E s := by
  simp only [checkBuiltinCall, F.cmpKind_ne, F.cmpSplit_ne]
  unfold isInstance
  refine wpAny_bind (wpAny_bind (I.type.here ((PySem.W.looks_subIn X ho).here ?_)))
  have z := F.cmpArgs_ne (.ref x) y
  cases hsig : Manifest.signature? "object.__ne__" with
  | none => exact wpAny_pure h
  | some sig =>
    simp only [argsOk, hsig] at z
    have z2 : Bind.checkArgs "object.__ne__" sig ⟨[.ref x, y], []⟩ = pure () := z
    show wpAny _ A (Bind.checkArgs "object.__ne__" sig ⟨[.ref x, y], []⟩) Q E s
    rw [z2]
    exact wpAny_pure h
theorem ne_entry {f : Addr} {y : Value} {Q : PySem.Fin → Shared → Prop} (hu : A.units < cLine) (X : K.In s.heap) (I : PySem.W.InstAt s.heap x ox C od) (hs : PySem.W.findIn K (.ref C) "__eq__" = some (some (.ref f)))
    (hf : PySem.W.isFn K (.ref f) = true) (h : wpAny (model prog w) A (call (.ref f) [.ref x, y]) (fun v s' => ∃ b, v = .bool b ∧ Q (.done (.ret (.bool (!b)))) s') E s) :
    wpAny (model prog w) A (Builtin.«object.__ne__» ⟨[.ref x, y], []⟩) Q E s := by
  unfold Builtin.«object.__ne__»
  repeat (first
    | with_reducible refine wpAny_cRoomFor hu ?_
    | (refine wpAny_bind (m := callSpecialIfBound? (.ref x) (Str.ofString "__eq__") [y])
        (PySem.W.ifBound_K X I hs hf (wpAny_mono h (fun r s' hr => by
          obtain ⟨b, rfl, hq⟩ := hr
          repeat (first | exact hq | exact wpAny_pure hq | (refine wpAny_bind (m := truthy (.bool _)) (wpAny_truthy_bool ?_)) | wp_step)) fun _ _ e => e)))
    | wp_step)
theorem rich_ne {f b : Addr} {Q : Value → Shared → Prop} (hu : A.units + 1 < cLine) (X : K.In s.heap) (I : PySem.W.InstAt s.heap x ox C od) (hb : PySem.W.Looks (model prog w) s.heap (typeOf (.ref b)) (.ref C))
    (hn : PySem.W.findIn K (.ref C) "__ne__" = some (some (.builtin "object.__ne__"))) (ho : PySem.W.subIn K (.ref C) (.type "object") = some true)
    (hs : PySem.W.findIn K (.ref C) "__eq__" = some (some (.ref f))) (hf : PySem.W.isFn K (.ref f) = true)
    (h : wpAny (model prog w) A.in1 (call (.ref f) [.ref x, .ref b]) (fun v s' => ∃ r, v = .bool r ∧ Q (.bool (!r)) s') E s) :
    wpAny (model prog w) A (richCompare .NotEq (.ref x) (.ref b)) Q E s := by
  have one : wpAny (model prog w) A (tryCompare (.ref x) "__ne__" (.ref b)) (fun r s' => ∃ z, r = some (.bool z) ∧ Q (.bool z) s') E s := by
    unfold tryCompare
    refine wpAny_bind (ifBound_obj F.cmp_object.ne X I hn (wpAny_call (codeAny_call_builtin F.cmp_object.ne.plain F.cmpEntry_ne (checked_ne X I ho (ne_entry (A := A.in1) hu X I hs hf (wpAny_mono h (fun v s' hv => ?_) fun _ _ z => z))))))
    obtain ⟨r, rfl, q⟩ := hv
    exact ⟨r, rfl, wpAny_pure ⟨_, rfl, q⟩⟩
  unfold richCompare
  simp only [PySem.oneThing_ref]
  refine wpAny_holding (wpAny_bind (wpAny_cRoomFor (Nat.lt_of_succ_lt hu) ?_))
  rw [cmpInfo_NotEq]
  dsimp only
  refine wpAny_bind (I.type.here (wpAny_bind (hb.here ?_)))
  rw [show (Value.ref C != Value.ref C) = false from by simp]
  simp only [Bool.false_eq_true, if_false]
  refine wpAny_bind (wpAny_pure ?_)
  simp only [Bool.false_eq_true, if_false]
  refine wpAny_bind (wpAny_mono one (fun r s' hz => ?_) fun _ _ z => z)
  obtain ⟨z, rfl, q⟩ := hz
  exact wpAny_pure q
end
section
variable {X : Cx} {k : Nat} {f C : Addr} {sp : Sp}
/-- a != b, by the text's __eq__ alone -/
theorem op_neO (hn : PySem.W.findIn X.K (.ref C) "__ne__" = some (some (.builtin "object.__ne__"))) (ho : PySem.W.subIn X.K (.ref C) (.type "object") = some true)
    (hs : PySem.W.findIn X.K (.ref C) "__eq__" = some (some (.ref f))) (hf : PySem.W.isFn X.K (.ref f) = true) (F : FnR X.prog X.w X.K X.mg X.base CX0 k f sp) (hr : Room (k + 1) X.A) :
    OpR X (compareOp .NotEq) (rOwn2 C sp (!·)) := by
  intro pins s σ H x y v u Q I rx ry h
  obtain ⟨a, b, dx, dy, fs, gs, rfl, rfl, ha, hb, q⟩ := h
  cases rx
  cases ry
  obtain ⟨mA, J, _⟩ := ins_get I.hok ha
  obtain ⟨mB, J', _⟩ := ins_get I.hok hb
  obtain ⟨od, J, _⟩ := J.look
  obtain ⟨od', J', _⟩ := J'.look
  show wpAny (model X.prog X.w) X.A (richCompare .NotEq (.ref a) (.ref b)) _ _ s
  refine rich_ne (hu_of hr) I.kIn J J'.type hn ho hs hf ?_
  refine wpAny_mono (run_below F hr.in1 rfl I (rel2 a b) q) (fun v s' hv => ?_) fun _ _ z => z
  obtain ⟨y, H', I', ry, r, ey, q'⟩ := hv
  subst ey
  cases ry
  exact ⟨r, rfl, .bl (!r), H', I', rfl, q'⟩
end
end Sq
namespace Sq
open PySem L2 PySem.Spec PyProof.Rows
/-- the built-ins that the text calls are still so -/
structure Bt (mg : Str → Option Value) : Prop where
  len : mg "len" = none
  int : mg "int" = none
  abs : mg "abs" = none
  divmod : mg "divmod" = none
  range : mg "range" = none
  isinstance : mg "isinstance" = none
  bool : mg "bool" = none
  tuple : mg "tuple" = none
  str : mg "str" = none
  list : mg "list" = none
  min : mg "min" = none
  max : mg "max" = none
  all : mg "all" = none
  any : mg "any" = none
  sum : mg "sum" = none
  sorted : mg "sorted" = none
  enumerate : mg "enumerate" = none
/-- a promise of a top function, with all that a call of it asks -/
structure FB (P : Program) (w : World) (K : PySem.W.Frag) (mg : Str → Option Value) (base : Heap) (x : Str) (k : Nat) (ps : List Str) (sp : Sp) : Prop where
  ex : ∃ (f : Addr) (fd : FuncData), FnOk P w K mg base CX0 k f fd ps sp ∧ mg x = some (.ref f) ∧ PySem.W.keepIn K (.ref f) = true ∧ Binds K fd ps []
section
variable {X : Cx} {j k : Nat} {x : Str} {p pos : Pos} {e : Expr} {es : List Expr} {t : TA} {ps : List Str} {sp : Sp}
theorem pe_fb (F : FB X.prog X.w X.K X.mg X.base x k ps sp) (hr : Room j X.A) (hk : k ≤ j) (hg : Gl X x) (ha : PA X (e :: es) t) (hdb : (x == ("__debug__" : Str)) = false := by decide)
    (he : starEach (e :: es) X.env = (false, eval e X.env) :: starEach es X.env := by rfl) (hpl : (backTo pos (starEach es X.env)).any (·.1) = false := by rfl) :
    PE X (.Call (.Name x p) (e :: es) [] pos) (tCall sp [] E0 t) := by
  obtain ⟨f, fd, G, hm, kk, b⟩ := F.ex
  exact pe_call G (hr.mono hk) hg hm kk b .nil pass0 ha hdb he hpl
theorem pe_fb0 (F : FB X.prog X.w X.K X.mg X.base x k ps sp) (hr : Room j X.A) (hk : k ≤ j) (hg : Gl X x) (hdb : (x == ("__debug__" : Str)) = false := by decide) :
    PE X (.Call (.Name x p) [] [] pos) (tCall sp [] E0 tNil) := by
  obtain ⟨f, fd, G, hm, kk, b⟩ := F.ex
  exact pe_call0 G (hr.mono hk) hg hm kk b .nil pass0 hdb
end
/-! ### list.count of truths -/
def rCntB (K : PySem.W.Frag) : V → List V → Hp → VK → Prop := fun x xs H Q => ∃ (p : Addr) (bs : List Bool) (k : Bool), x = .ref p ∧ xs = [.bl k] ∧ SqL K H p (bs.map V.bl) ∧ Q (.int (bs.count k : Nat)) H
theorem cnt_bools (k : Bool) : ∀ {bs : List Bool} {vs : List Value}, Vals (bs.map V.bl) vs → vs.countP (isBoolOf k) = bs.count k
  | [], _, h => by cases h; rfl
  | b :: r, _, h => by
    cases h with
    | cons r1 rr =>
      cases r1
      rw [List.countP_cons, List.count_cons, cnt_bools k rr]
      cases b <;> cases k <;> rfl
theorem eq_bools (k : Bool) : ∀ {bs : List Bool} {vs : List Value}, Vals (bs.map V.bl) vs → ∀ y, y ∈ vs → ∀ (A : Around) (s : Shared), PySem.SeqAt.EqAt A s y (.bool k) (isBoolOf k y)
  | [], _, h, y, hy, _, _ => by cases h; cases hy
  | b :: r, _, h, y, hy, A, s => by
    cases h with
    | cons r1 rr =>
      cases r1
      rcases List.mem_cons.mp hy with e | hy
      · rw [e]; exact PySem.SeqAt.EqAt.bool_bool b k
      · exact eq_bools k rr y hy A s
theorem mt_bcount {X : Cx} : MtR X "list.count" (rCntB X.K) := by
  intro pins s σ H x xs v us Q I rx rxs h
  obtain ⟨p, bs, k, rfl, rfl, hs, q⟩ := h
  cases rx
  obtain ⟨u, rfl, ru⟩ := rxs.one
  cases ru
  obtain ⟨its, rv, ⟨⟨cls, dd, data, sl⟩, n, ho, hc, hdn, hd⟩, hlen⟩ := I.list hs
  simp only at hc hd
  subst hc hd
  refine call_meets PySem.F.slot_list_count ⟨_, ho, rfl⟩ PySem.F.entry_list_count (PySem.F.args_list_count_2 _ _)
    (PySem.SeqAt.list_countAt p its.toArray n dd sl (.bool k) (isBoolOf k)) ⟨ho, fun y hy => eq_bools k rv y (by simpa using hy) _ _, ?_⟩
  refine ⟨.int (bs.count k : Nat), H, I.tok _, ⟨s.toks, ?_⟩, q⟩
  rw [show its.toArray.toList = its from rfl, cnt_bools k rv]
/-! ### the draws -/
/-- all but what stands at p is as it was -/
def Off (p : Addr) (H H' : Hp) : Prop := ∀ b o, b ≠ p → H b = some o → H' b = some o
theorem Off.trans {p : Addr} {H H1 H2 : Hp} (a : Off p H H1) (b : Off p H1 H2) : Off p H H2 := fun c o n h => b c o n (a c o n h)
theorem Same.off {p : Addr} {H H1 : Hp} (a : Same H H1) : Off p H H1 := fun c o _ h => a c o h
theorem Off.refl {p : Addr} {H : Hp} : Off p H H := fun _ _ _ h => h
theorem same_new {H : Hp} {p : Addr} {o : HO} (h : H p = none) : Same H (upd H p o) := fun b u e => by
  rw [upd_ne (ne_of_none e h)]
  exact e
def PurlAt (H : Hp) (p : Addr) : Prop := ∃ m d : Int, H p = some (.lst [.int m, .int d])
theorem PurlAt.same {H H' : Hp} {p : Addr} (h : PurlAt H p) (s : Same H H') : PurlAt H' p := by
  obtain ⟨m, d, e⟩ := h
  exact ⟨m, d, s _ _ e⟩
def spPurl (K : PySem.W.Frag) : Sp := fun vs H Q _ => ∃ (a : Addr) (ns : List Int) (k : Nat), vs = [.ref a, .int (k : Int)] ∧ SqL K H a (ns.map V.int) ∧ ns.length ≤ 63 ∧ k ≤ 63 ∧
  ∀ p H', H p = none → PurlAt H' p → Same H H' → Q (.ref p) H'
def spDig : Sp := fun vs H Q _ => ∃ (p : Addr) (k : Int), vs = [.ref p, .int k] ∧ PurlAt H p ∧ 0 < k ∧ k < 1073741824 ∧
  ∀ (r : Int) (H' : Hp), 0 ≤ r → r < k → PurlAt H' p → Off p H H' → Q (.int r) H'
def spFar : Sp := fun vs H Q _ => ∃ p : Addr, vs = [.ref p] ∧ PurlAt H p ∧
  ∀ (r : Int) (H' : Hp), 1 ≤ r → r ≤ 1000000000000000000000000000000 → PurlAt H' p → Off p H H' → Q (.int r) H'
theorem nx_seq {t u : TS} {D' : Ends} {rt : VK} {bk ct : L2.St → Hp → Prop} {σ : L2.St} {H : Hp} (h : t { D' with nx := u D' } σ H) : tNext ⟨tSeq t u D', rt, bk, ct⟩ σ H := h
theorem nx_one {t : TS} {D' : Ends} {rt : VK} {bk ct : L2.St → Hp → Prop} {σ : L2.St} {H : Hp} (h : t D' σ H) : tNext ⟨t D', rt, bk, ct⟩ σ H := h
theorem nm_seq {t u : TS} {D' : Ends} {rt : VK} {bk ct : L2.St → Hp → Prop} {σ : L2.St} {H : Hp} {i : Nat} {v : V} (h : t { D' with nx := u D' } (σ.set i (some v)) H) : gName i v σ H (Ends.nx ⟨tSeq t u D', rt, bk, ct⟩) := h
theorem nm_one {t : TS} {D' : Ends} {rt : VK} {bk ct : L2.St → Hp → Prop} {σ : L2.St} {H : Hp} {i : Nat} {v : V} (h : t D' (σ.set i (some v)) H) : gName i v σ H (Ends.nx ⟨t D', rt, bk, ct⟩) := h
theorem pr_seq {t u : TS} {D' : Ends} {rt : VK} {bk ct : L2.St → Hp → Prop} {σ : L2.St} {H : Hp} (h : t { D' with nx := u D' } σ H) : Ends.nx ⟨tSeq t u D', rt, bk, ct⟩ σ H := h
theorem pr_one {t : TS} {D' : Ends} {rt : VK} {bk ct : L2.St → Hp → Prop} {σ : L2.St} {H : Hp} (h : t D' σ H) : Ends.nx ⟨t D', rt, bk, ct⟩ σ H := h
theorem st_of {t : TS} {D : Ends} {σ : L2.St} {H : Hp} (J : L2.St → Hp → Prop) (h : ∀ D' : Ends, (∀ σ' H', J σ' H' → D'.nx σ' H') → t D' σ H) (k : ∀ σ' H', J σ' H' → D.nx σ' H') : t D σ H := h D k
theorem un65 {k : Nat} {A : Around} (h : Room k A) : A.units + 65 < cLine := by
  have := h.un
  omega
theorem gen_of {t : TE} {σ : L2.St} {H : Hp} {Q : VK} (J : V → Hp → Prop) (h : ∀ Q' : VK, (∀ v H', J v H' → Q' v H') → t σ H Q') (k : ∀ v H', J v H' → Q v H') : t σ H Q := h Q k
theorem un1 {k : Nat} {A : Around} (h : Room k A) : A.units + 1 < cLine := by
  have := h.un
  omega
theorem un3 {k : Nat} {A : Around} (h : Room k A) : A.units + 3 < cLine := by
  have := h.un
  omega
theorem nm_q {i : Nat} {v : V} {σ : L2.St} {H : Hp} {Q : L2.St → Hp → Prop} (h : Q (σ.set i (some v)) H) : gName i v σ H Q := h
theorem sq_ {t u : TS} {D : Ends} {σ : L2.St} {H : Hp} (h : t { D with nx := u D } σ H) : tSeq t u D σ H := h
theorem if_ {tc : TT} {t u : TS} {D : Ends} {σ : L2.St} {H : Hp} (h : tc σ H fun b H1 => if b = true then t D σ H1 else u D σ H1) : tIfS tc t u D σ H := h
theorem asg_ {te : TE} {g : TG} {D : Ends} {σ : L2.St} {H : Hp} (h : te σ H fun x H1 => g x σ H1 D.nx) : tAsg te g D σ H := h
theorem ret_ {te : TE} {D : Ends} {σ : L2.St} {H : Hp} (h : te σ H D.rt) : tRet te D σ H := h
theorem val_of {t : TE} {σ : L2.St} {H : Hp} {Q : VK} (v : V) (h : ∀ Q' : VK, Q' v H → t σ H Q') (k : Q v H) : t σ H Q := h Q k
theorem valS_of {t : TE} {σ : L2.St} {H : Hp} {Q : VK} (v : V) (h : ∀ Q' : VK, (∀ H', Same H H' → Q' v H') → t σ H Q') (k : ∀ H', Same H H' → Q v H') : t σ H Q := h Q k
theorem tst_of {t : TT} {σ : L2.St} {H : Hp} {Q : Bool → Hp → Prop} (b : Bool) (h : ∀ Q' : Bool → Hp → Prop, (∀ H', Same H H' → Q' b H') → t σ H Q') (k : ∀ H', Same H H' → Q b H') : t σ H Q := h Q k
theorem sp_eta (sp : Sp) : (fun vs H Q E => sp (vs ++ []) H Q E) = sp := by
  funext vs H Q E
  rw [List.append_nil]
theorem FnOk.asR {P : Program} {w : World} {K : PySem.W.Frag} {mg : Str → Option Value} {base : Heap} {CX : CXT} {k : Nat} {f : Addr} {fd : FuncData} {ps : List Str} {sp : Sp} (F : FnOk P w K mg base CX k f fd ps sp) (b : Binds K fd ps []) : FnR P w K mg base CX k f sp := by
  have z := FnOk.raw F b (dvs := []) .nil
  rw [sp_eta] at z
  exact z
def spRight : Sp := fun vs H Q _ => ∃ p : Addr, vs = [.ref p] ∧ PurlAt H p ∧ ∀ H', Off p H H' → Q (.bl true) H'
def spLaw (K : PySem.W.Frag) : Sp := fun vs H Q _ => ∃ (a : Addr) (ns : List Int), vs = [.ref a] ∧ SqL K H a (ns.map V.int) ∧ ns.length ≤ 63 ∧ ∀ H', Q (.bl true) H'
end Sq
namespace Sq
open PySem L2 PySem.Spec PyProof.Rows
/-! ### comprehensions of any number of clauses: clause by clause -/
/-- what stands behind a clause's tests: a next clause, or what is kept of the turn -/
abbrev TCl := L2.St → Hp → (Hp → Prop) → Prop
/-- the turns over what an iterator gives, then Nx -/
def JLoop (J : It) (g : TG) (tt : TT) (vs : List Nat) (ti : TCl) (σ : L2.St) (H : Hp) (Nx : Hp → Prop) : Prop :=
  ∃ W : Nat → Nat → Hp → Prop, (∃ m, W 0 m H) ∧ ∀ i m H1, W i m H1 →
    (J.stop i H1 ∧ Nx H1) ∨ (J.go i H1 ∧ ∃ N1 : Hp → Prop, (∀ H', N1 H' → ∃ m', m' < m ∧ W (i + 1) m' H') ∧
      ∀ x H', J.yld i H1 x H' → g x (wipe σ vs) H' fun σ2 H2 => wipe σ2 vs = wipe σ vs ∧ tt σ2 H2 fun b H3 => if b = true then ti σ2 H3 N1 else N1 H3)
/-- a clause: its source, then the turns -/
def tClause (wi : TI) (g : TG) (tt : TT) (vs : List Nat) (ti : TCl) : TCl := fun σ H Nx => wi σ H fun J H1 => JLoop J g tt vs ti σ H1 Nx
/-- what σ' knows of what is behind the block's names -/
def Kn (vs : List Nat) (σ σ' : L2.St) : Prop := σ'.length = σ.length ∧ ∀ (j : Nat) v, (wipe σ vs)[j]? = some (some v) → σ'[j]? = some (some v)
abbrev noX : Value → Shared → Prop := fun _ _ => False
/-- how one turn of a comprehension's loop goes: IN is what stands behind the tests -/
def TurnsSo (M : Model) (A : Around) (env : Env) (e : Expr) (d : Nat) (acc : Value) (tg : Expr) (ifs : List Expr) (IN : (Shared → Prop) → Shared → Prop) : Prop :=
  ∀ (it : Value) (k1 k2 : Shared → Prop) (s : Shared),
    wpAny M A (pyNext it) (fun r s1 => match r with
      | none => k1 s1
      | some v => wpAny M A (letOwnedTupleGo tg it v) (fun _ s2 => wpAny M A (assign tg env v) (fun _ s3 =>
          wpAny M A (forIn ifs true fun c r => if r = true then do let ok ← isTrue c env (eval c env); pure (ForInStep.yield ok) else pure (ForInStep.yield r)) (fun ok s4 =>
            if ok = true then IN k2 s4 else k2 s4) noX s3) noX s2) noX s1) noX s →
    wpAny M (A.under (.compLoop e d it acc env)) (M.den (.compLoop e d it acc env))
      (fun fin s' => match fin with | .done f => f = .next ∧ k1 s' | .again c' => c' = .compLoop e d it acc env ∧ k2 s') noX s
/-- what stands behind the tests keeps to its reading -/
def KeepsTo (Y : Cx) (vs : List Nat) (IN : (Shared → Prop) → Shared → Prop) (ti : TCl) : Prop :=
  ∀ (pins : List (Addr × Obj)) (s : Shared) (σ : L2.St) (H : Hp) (Nx : Hp → Prop) (k : Shared → Prop), Inv Y pins σ H s → ti σ H Nx →
    (∀ s' σ' H', Inv Y pins σ' H' s' → Kn vs σ σ' → Nx H' → k s') → IN k s
theorem thnY {α : Type} {t : Sem α} {Q Q' : α → Shared → Prop} {M : Model} {A : Around} {E X : Value → Shared → Prop} {s : Shared} (hx : X = noX) (h : wpAny M A t Q X s) (hQ : ∀ a s, Q a s → Q' a s) : wpAny M A t Q' E s :=
  wpAny_mono h hQ fun _ _ z => by
    rw [hx] at z
    exact z.elim
section
variable {Y : Cx} {e : Expr} {d : Nat} {acc : Value} {tg : Expr} {ifs : List Expr} {IN : (Shared → Prop) → Shared → Prop} {g : TG} {tt : TT} {ti : TCl} {vs vi : List Nat}
/-- one clause's loop, in the block -/
theorem lev (hc : Y.calm = true) (hxe : Y.xe = noX) (hq : ∀ it, (Code.compLoop e d it acc Y.env).quiet = true) (ht : TurnsSo (model Y.prog Y.w) Y.A Y.env e d acc tg ifs IN)
    (pg : PG Y tg g) (pt : PTs Y ifs tt) (hin : KeepsTo Y vi IN ti) (hvi : ∀ j ∈ vi, j ∈ vs)
    {pins : List (Addr × Obj)} {s : Shared} {σ : L2.St} {H : Hp} {Nx : Hp → Prop} (I : Inv Y pins (wipe σ vs) H s) {it : Addr} {fp : List Addr} {tn : Nat → Heap → Prop} {J : It}
    (T : Turn Y.prog Y.w Y.K tg J fp it tn) (st : tn 0 s.heap) (hf : ∀ b ∈ fp, FpOk Y pins H b) (h : JLoop J g tt vs ti σ H Nx) :
    codeAny (model Y.prog Y.w) Y.A (.compLoop e d (.ref it) acc Y.env) (fun r s' => r = .ok .next ∧ ∃ H', Inv Y pins (wipe σ vs) H' s' ∧ Nx H') s := by
  obtain ⟨W, ⟨m0, w0⟩, turn⟩ := h
  refine codeAny_loop (hq _) (fun n s' => ∃ i H', Inv Y pins (wipe σ vs) H' s' ∧ tn i s'.heap ∧ (∀ b ∈ fp, H' b = none) ∧ W i n H') ?_ m0
    ⟨0, H, I, st, fun b hb => (hf b hb).1, w0⟩
  rintro n s1 ⟨i, H1, I1, st1, n1, w1⟩
  have fpo : ∀ {H' : Hp}, (∀ b ∈ fp, H' b = none) → ∀ b ∈ fp, FpOk Y pins H' b := fun hn b hb => ⟨hn b hb, (hf b hb).2⟩
  refine wpAny_mono (ht (.ref it) (fun s' => ∃ H', Inv Y pins (wipe σ vs) H' s' ∧ Nx H') (fun s' => ∃ m, m < n ∧ ∃ i H', Inv Y pins (wipe σ vs) H' s' ∧ tn i s'.heap ∧ (∀ b ∈ fp, H' b = none) ∧ W i m H') s1 ?_) (fun fin s' q => ?_) fun _ _ z => False.elim z
  case refine_2 =>
    cases fin with
    | done f => exact ⟨by rw [q.1], q.2⟩
    | again c => exact q
  rcases turn i n H1 w1 with ⟨stop, nx⟩ | ⟨go, N1, hN1, step⟩
  · refine thnF (T.done Y rfl rfl rfl hc i pins s1 _ H1 noX I1 (fpo n1) st1 stop) fun r s2 q => ?_
    obtain ⟨rfl, I2⟩ := q
    exact ⟨H1, I2, nx⟩
  refine thnF (T.item Y rfl rfl rfl hc i pins s1 _ H1 noX I1 (fpo n1) st1 go) fun r s2 q => ?_
  obtain ⟨u, rfl, q⟩ := q
  refine thnF q fun _ s3 z => ?_
  obtain ⟨x, H3, I3, r3, y3, st3, n3⟩ := z
  have P3 := I3.pinned (fpo n3) (T.obj _ _ st3)
  refine thnY hxe (pg.run _ s3 _ H3 x u _ P3 r3 (step x H3 y3)) fun _ s4 z => ?_
  obtain ⟨σ4, H4, I4, hw, q4⟩ := z
  refine thnY hxe (pt.run _ s4 σ4 H4 _ I4 q4) fun b s5 z => ?_
  obtain ⟨H5, I5, q5⟩ := z
  -- the turn's end
  have fin : ∀ {σ' : L2.St} {s' : Shared} {H' : Hp}, Inv Y (pins ++ pinsAt fp s3.heap) σ' H' s' → Kn vs σ4 σ' → N1 H' →
      ∃ m, m < n ∧ ∃ i H', Inv Y pins (wipe σ vs) H' s' ∧ tn i s'.heap ∧ (∀ b ∈ fp, H' b = none) ∧ W i m H' := fun {σ' s' H'} I' kn nx => by
    obtain ⟨m', hm, w'⟩ := hN1 H' nx
    have held : ∀ b ∈ fp, ∀ o, s3.heap.get? b = some o → s'.heap.get? b = some o ∧ H' b = none := fun b hb o z =>
      ⟨(I'.pin (b, o) (List.mem_append_right _ (List.mem_append_right _ (mem_pinsAt hb z)))).1, (I'.pin (b, o) (List.mem_append_right _ (List.mem_append_right _ (mem_pinsAt hb z)))).2.1⟩
    refine ⟨m', hm, i + 1, H', I'.unpinned.weak ?_ (fun j v z => ?_), T.keep _ _ _ st3 (fun b hb o z => (held b hb o z).1), fun b hb => ?_, w'⟩
    · rw [kn.1, ← hw, wipe_length]
    · rw [← hw] at z
      exact kn.2 j v z
    · obtain ⟨o, z, _⟩ := T.obj _ _ st3 b hb
      exact (held b hb o z).2
  cases b with
  | false => exact fin I5 ⟨rfl, fun j v z => (wipe_some z).1⟩ q5
  | true =>
    refine hin _ s5 σ4 H5 N1 _ I5 q5 fun s' σ' H' I' kn nx => fin I' ⟨kn.1, fun j v z => ?_⟩ nx
    obtain ⟨z1, z2⟩ := wipe_some z
    refine kn.2 j v ?_
    rw [wipe_out fun y => z2 (hvi j y)]
    exact z1
end
/-! ### what stands behind the tests -/
/-- the next clause: its source, its iterator, its loop -/
def inClause (M : Model) (A : Around) (env : Env) (e : Expr) (d : Nat) (acc : Value) (iter : Expr) : (Shared → Prop) → Shared → Prop := fun k s =>
  wpAny M A (eval iter env) (fun x s1 => wpAny M A (pyIter x) (fun it s2 => codeAny M A (.compStart e d it acc env) (fun r s' => match r with | .ok _ => k s' | .error _ => False) s2) noX s1) noX s
/-- an element more in the list -/
def inList (M : Model) (A : Around) (env : Env) (elt : Expr) (acc : Value) : (Shared → Prop) → Shared → Prop := fun k s =>
  wpAny M A (eval elt env) (fun x s1 => wpAny M A (call (.builtin "list.append") [acc, x]) (fun _ s2 => k s2) noX s1) noX s
def tKeep (te : TE) (D : Addr) : TCl := fun σ H Nx => te σ H fun y H1 => ∃ xs, H1 D = some (.lst xs) ∧ xs.length < sizeLine ∧ Nx (upd H1 D (.lst (xs ++ [y])))
theorem keeps_list {Y : Cx} {elt : Expr} {te : TE} {D : Addr} {vs : List Nat} (hxe : Y.xe = noX) (pe : PE Y elt te) : KeepsTo Y vs (inList (model Y.prog Y.w) Y.A Y.env elt (.ref D)) (tKeep te D) := by
  intro pins s σ H Nx k I h hk
  refine thnY hxe (pe.run pins s σ H _ I h) fun u s1 z => ?_
  obtain ⟨y, H1, I1, r1, xs, hD, hz, nx⟩ := z
  exact app_ok I1 hD hz r1 fun s2 I2 => hk s2 σ _ I2 ⟨rfl, fun j v z => (wipe_some z).1⟩ nx
theorem keeps_clause {Y : Cx} {e : Expr} {d : Nat} {acc : Value} {tg iter : Expr} {ifs : List Expr} {IN : (Shared → Prop) → Shared → Prop} {wi : TI} {g : TG} {tt : TT} {ti : TCl} {vs vi : List Nat}
    (hc : Y.calm = true) (hxe : Y.xe = noX) (hq : ∀ it, (Code.compLoop e d it acc Y.env).quiet = true) (ht : TurnsSo (model Y.prog Y.w) Y.A Y.env e d acc tg ifs IN)
    (hst : ∀ (it : Value) (R : Result → Shared → Prop) (s : Shared), codeAny (model Y.prog Y.w) Y.A (.compLoop e d it acc Y.env) R s →
      wpAny (model Y.prog Y.w) Y.A (pyIter it) (fun it' s' => codeAny (model Y.prog Y.w) Y.A (.compLoop e d it' acc Y.env) R s') (notedBy (model Y.prog Y.w) Y.A Y.env fun x s' => R (.error x) s') s → codeAny (model Y.prog Y.w) Y.A (.compStart e d it acc Y.env) R s)
    (pi : PI Y tg iter wi) (pg : PG Y tg g) (pt : PTs Y ifs tt) (hin : KeepsTo Y vi IN ti) (hvi : ∀ j ∈ vi, j ∈ vs) :
    KeepsTo Y vs (inClause (model Y.prog Y.w) Y.A Y.env e d acc iter) (tClause wi g tt vs ti) := by
  intro pins s σ H Nx k I h hk
  refine thnY hxe (pi.run pins s σ H _ I h) fun x s1 hx => thnY hxe hx fun itv s2 z => ?_
  obtain ⟨it, fp, tn, J, H2, rfl, I2, T, st, hf, hl⟩ := z
  have run : codeAny (model Y.prog Y.w) Y.A (.compLoop e d (.ref it) acc Y.env) (fun r s' => match r with | .ok _ => k s' | .error _ => False) s2 := codeAny_mono (lev hc hxe hq ht pg pt hin hvi (I2.weak (wipe_length _ _) (fun j v z => (wipe_some z).1)) T st hf hl) fun r s' z => by
    obtain ⟨rfl, H', I', nx⟩ := z
    exact hk s' _ H' I' ⟨wipe_length _ _, fun j v z => z⟩ nx
  exact hst _ _ _ run (T.self Y.A 0 _ _ _ st run)
/-! ### three clauses -/
section
variable {P : Program} {w : World} {A : Around} {elt t0 i0 t1 i1 t2 i2 : Expr} {f0 f1 f2 : List Expr} {scope : Scope} {pos : Pos} {it acc : Value} {env : Env}
theorem turn3_0 : compTurn (.ListComp elt [⟨t0, i0, f0, 0⟩, ⟨t1, i1, f1, 0⟩, ⟨t2, i2, f2, 0⟩] scope pos) 0 it acc env = (do
    standAt i0.pos
    match ← pyNext it with
    | none => pure (.done .next)
    | some v =>
      letOwnedTupleGo t0 it v
      assign t0 env v
      let mut go := true
      for q in f0 do
        if go then go ← isTrue q env (eval q env)
      if go then
        let y ← eval i1 env
        standAt i1.pos
        let y ← foldedSetIterable i1 env y
        let _ ← runOwn (.compStart (.ListComp elt [⟨t0, i0, f0, 0⟩, ⟨t1, i1, f1, 0⟩, ⟨t2, i2, f2, 0⟩] scope pos) 1 (← holding [y] (pyIter y)) acc env) env
      again (.compLoop (.ListComp elt [⟨t0, i0, f0, 0⟩, ⟨t1, i1, f1, 0⟩, ⟨t2, i2, f2, 0⟩] scope pos) 0 it acc env)) := by rfl
theorem turn3_1 : compTurn (.ListComp elt [⟨t0, i0, f0, 0⟩, ⟨t1, i1, f1, 0⟩, ⟨t2, i2, f2, 0⟩] scope pos) 1 it acc env = (do
    standAt i1.pos
    match ← pyNext it with
    | none => pure (.done .next)
    | some v =>
      letOwnedTupleGo t1 it v
      assign t1 env v
      let mut go := true
      for q in f1 do
        if go then go ← isTrue q env (eval q env)
      if go then
        let y ← eval i2 env
        standAt i2.pos
        let y ← foldedSetIterable i2 env y
        let _ ← runOwn (.compStart (.ListComp elt [⟨t0, i0, f0, 0⟩, ⟨t1, i1, f1, 0⟩, ⟨t2, i2, f2, 0⟩] scope pos) 2 (← holding [y] (pyIter y)) acc env) env
      again (.compLoop (.ListComp elt [⟨t0, i0, f0, 0⟩, ⟨t1, i1, f1, 0⟩, ⟨t2, i2, f2, 0⟩] scope pos) 1 it acc env)) := by rfl
theorem turn3_2 : compTurn (.ListComp elt [⟨t0, i0, f0, 0⟩, ⟨t1, i1, f1, 0⟩, ⟨t2, i2, f2, 0⟩] scope pos) 2 it acc env = (do
    standAt i2.pos
    match ← pyNext it with
    | none => pure (.done .next)
    | some v =>
      letOwnedTupleGo t2 it v
      assign t2 env v
      let mut go := true
      for q in f2 do
        if go then go ← isTrue q env (eval q env)
      if go then
        (do let _ ← call (.builtin "list.append") [acc, ← eval elt env])
      again (.compLoop (.ListComp elt [⟨t0, i0, f0, 0⟩, ⟨t1, i1, f1, 0⟩, ⟨t2, i2, f2, 0⟩] scope pos) 2 it acc env)) := by rfl
theorem so3_0 (hs : ∀ x, foldedSetIterable i1 env x = pure x) : TurnsSo (model P w) A env (.ListComp elt [⟨t0, i0, f0, 0⟩, ⟨t1, i1, f1, 0⟩, ⟨t2, i2, f2, 0⟩] scope pos) 0 acc t0 f0 (inClause (model P w) A env (.ListComp elt [⟨t0, i0, f0, 0⟩, ⟨t1, i1, f1, 0⟩, ⟨t2, i2, f2, 0⟩] scope pos) 1 acc i1) := by
  intro it k1 k2 s h
  show wpAny _ A ((compTurn (.ListComp elt [⟨t0, i0, f0, 0⟩, ⟨t1, i1, f1, 0⟩, ⟨t2, i2, f2, 0⟩] scope pos) 0 it acc env).onRaise (fun x => do noteFrame x env; theTreesLotGoes x)) _ _ s
  refine wpAny_noted ?_
  rw [turn3_0]
  refine wpAny_bind (wpAny_standAt (wpAny_bind (thnF h fun r s1 h1 => ?_)))
  cases r with
  | none => exact wpAny_pure ⟨rfl, h1⟩
  | some v =>
    refine wpAny_bind (thnF h1 fun _ s2 h2 => wpAny_bind (thnF h2 fun _ s3 h3 => wpAny_bind (thnF h3 fun go s4 h4 => ?_)))
    cases go with
    | false => exact wpAny_pure ⟨rfl, h4⟩
    | true =>
      refine wpAny_bind (thnF h4 fun y s5 h5 => ?_)
      refine wpAny_bind (wpAny_standAt (wpAny_bind (wpAny_of_eq (hs y) (wpAny_bind (wpAny_holding (thnF h5 fun it1 s6 h6 => wpAny_bind (wpAny_runOwn ?_)))))))
      rw [Around.mark_none]
      refine codeAny_mono h6 fun r s' hr => ?_
      cases r with
      | ok f => exact wpAny_pure ⟨rfl, hr⟩
      | error x => exact hr.elim
theorem so3_1 (hs : ∀ x, foldedSetIterable i2 env x = pure x) : TurnsSo (model P w) A env (.ListComp elt [⟨t0, i0, f0, 0⟩, ⟨t1, i1, f1, 0⟩, ⟨t2, i2, f2, 0⟩] scope pos) 1 acc t1 f1 (inClause (model P w) A env (.ListComp elt [⟨t0, i0, f0, 0⟩, ⟨t1, i1, f1, 0⟩, ⟨t2, i2, f2, 0⟩] scope pos) 2 acc i2) := by
  intro it k1 k2 s h
  show wpAny _ A ((compTurn (.ListComp elt [⟨t0, i0, f0, 0⟩, ⟨t1, i1, f1, 0⟩, ⟨t2, i2, f2, 0⟩] scope pos) 1 it acc env).onRaise (fun x => do noteFrame x env; theTreesLotGoes x)) _ _ s
  refine wpAny_noted ?_
  rw [turn3_1]
  refine wpAny_bind (wpAny_standAt (wpAny_bind (thnF h fun r s1 h1 => ?_)))
  cases r with
  | none => exact wpAny_pure ⟨rfl, h1⟩
  | some v =>
    refine wpAny_bind (thnF h1 fun _ s2 h2 => wpAny_bind (thnF h2 fun _ s3 h3 => wpAny_bind (thnF h3 fun go s4 h4 => ?_)))
    cases go with
    | false => exact wpAny_pure ⟨rfl, h4⟩
    | true =>
      refine wpAny_bind (thnF h4 fun y s5 h5 => ?_)
      refine wpAny_bind (wpAny_standAt (wpAny_bind (wpAny_of_eq (hs y) (wpAny_bind (wpAny_holding (thnF h5 fun it1 s6 h6 => wpAny_bind (wpAny_runOwn ?_)))))))
      rw [Around.mark_none]
      refine codeAny_mono h6 fun r s' hr => ?_
      cases r with
      | ok f => exact wpAny_pure ⟨rfl, hr⟩
      | error x => exact hr.elim
theorem so3_2 : TurnsSo (model P w) A env (.ListComp elt [⟨t0, i0, f0, 0⟩, ⟨t1, i1, f1, 0⟩, ⟨t2, i2, f2, 0⟩] scope pos) 2 acc t2 f2 (inList (model P w) A env elt acc) := by
  intro it k1 k2 s h
  show wpAny _ A ((compTurn (.ListComp elt [⟨t0, i0, f0, 0⟩, ⟨t1, i1, f1, 0⟩, ⟨t2, i2, f2, 0⟩] scope pos) 2 it acc env).onRaise (fun x => do noteFrame x env; theTreesLotGoes x)) _ _ s
  refine wpAny_noted ?_
  rw [turn3_2]
  refine wpAny_bind (wpAny_standAt (wpAny_bind (thnF h fun r s1 h1 => ?_)))
  cases r with
  | none => exact wpAny_pure ⟨rfl, h1⟩
  | some v =>
    refine wpAny_bind (thnF h1 fun _ s2 h2 => wpAny_bind (thnF h2 fun _ s3 h3 => wpAny_bind (thnF h3 fun go s4 h4 => ?_)))
    cases go with
    | false => exact wpAny_pure ⟨rfl, h4⟩
    | true => exact wpAny_bind (wpAny_bind (thnF h4 fun y s5 h5 => wpAny_bind (thnF h5 fun _ s6 h6 => wpAny_pure (wpAny_pure ⟨rfl, h6⟩))))
end
section
variable {P : Program} {w : World} {A : Around} {elt t0 i0 t1 i1 t2 i2 : Expr} {f0 f1 f2 : List Expr} {scope : Scope} {pos : Pos} {it acc : Value} {env : Env}
theorem start3_1 {R : Result → Shared → Prop} {s : Shared} (h0 : codeAny (model P w) A (.compLoop (.ListComp elt [⟨t0, i0, f0, 0⟩, ⟨t1, i1, f1, 0⟩, ⟨t2, i2, f2, 0⟩] scope pos) 1 it acc env) R s)
    (h : wpAny (model P w) A (pyIter it) (fun it' s' => codeAny (model P w) A (.compLoop (.ListComp elt [⟨t0, i0, f0, 0⟩, ⟨t1, i1, f1, 0⟩, ⟨t2, i2, f2, 0⟩] scope pos) 1 it' acc env) R s') (notedBy (model P w) A env fun x s' => R (.error x) s') s) :
    codeAny (model P w) A (.compStart (.ListComp elt [⟨t0, i0, f0, 0⟩, ⟨t1, i1, f1, 0⟩, ⟨t2, i2, f2, 0⟩] scope pos) 1 it acc env) R s := by
  refine codeAny_of_tree (show wpAny _ _ ((compStart (.ListComp elt [⟨t0, i0, f0, 0⟩, ⟨t1, i1, f1, 0⟩, ⟨t2, i2, f2, 0⟩] scope pos) 1 it acc env).onRaise (fun x => do noteFrame x env; standAt theWindowsPlace)) _ _ s from wpAny_notedAt ?_)
  unfold compStart
  refine (show wpAny _ _ (ask >>= _) _ _ s from wpAny_bind (wpAny_askSetting (wpAny_ite ?_)))
  split
  · exact wpAny_pure (And.intro rfl h0)
  · refine wpAny_bind (wpAny_rule ?_)
    show wpAny _ _ (standAt i1.pos >>= _) _ _ s
    exact wpAny_bind (wpAny_standAt (wpAny_bind (thn h fun _ _ z => wpAny_pure (And.intro rfl z))))
theorem start3_2 {R : Result → Shared → Prop} {s : Shared} (h0 : codeAny (model P w) A (.compLoop (.ListComp elt [⟨t0, i0, f0, 0⟩, ⟨t1, i1, f1, 0⟩, ⟨t2, i2, f2, 0⟩] scope pos) 2 it acc env) R s)
    (h : wpAny (model P w) A (pyIter it) (fun it' s' => codeAny (model P w) A (.compLoop (.ListComp elt [⟨t0, i0, f0, 0⟩, ⟨t1, i1, f1, 0⟩, ⟨t2, i2, f2, 0⟩] scope pos) 2 it' acc env) R s') (notedBy (model P w) A env fun x s' => R (.error x) s') s) :
    codeAny (model P w) A (.compStart (.ListComp elt [⟨t0, i0, f0, 0⟩, ⟨t1, i1, f1, 0⟩, ⟨t2, i2, f2, 0⟩] scope pos) 2 it acc env) R s := by
  refine codeAny_of_tree (show wpAny _ _ ((compStart (.ListComp elt [⟨t0, i0, f0, 0⟩, ⟨t1, i1, f1, 0⟩, ⟨t2, i2, f2, 0⟩] scope pos) 2 it acc env).onRaise (fun x => do noteFrame x env; standAt theWindowsPlace)) _ _ s from wpAny_notedAt ?_)
  unfold compStart
  refine (show wpAny _ _ (ask >>= _) _ _ s from wpAny_bind (wpAny_askSetting (wpAny_ite ?_)))
  split
  · exact wpAny_pure (And.intro rfl h0)
  · refine wpAny_bind (wpAny_rule ?_)
    show wpAny _ _ (standAt i2.pos >>= _) _ _ s
    exact wpAny_bind (wpAny_standAt (wpAny_bind (thn h fun _ _ z => wpAny_pure (And.intro rfl z))))
end
/-! ### the whole -/
section
variable {X : Cx}
def tWhole (ob : Addr → HO) (wi : TI) (g : TG) (tt : TT) (vs : List Nat) (ti : Addr → TCl) : TE := fun σ H Q => wi σ H fun J H1 => ∀ D, H1 D = none → JLoop J g tt vs (ti D) σ (upd H1 D (ob D)) fun H' => Q (.ref D) H'
theorem top_comp {e tg iter : Expr} {ifs : List Expr} {rest : List Comprehension} {newAcc : Sem Value} {O : Obj} {ob : Addr → HO} {scope : Scope} {own : List (Str × Nat)} {pos' : Pos} {wi : TI} {g : TG} {tt : TT} {ti : Addr → TCl}
    {pins : List (Addr × Obj)} {s : Shared} {σ : L2.St} {H : Hp} {Q : VK}
    (hcl : clausesOf e = ⟨tg, iter, ifs, 0⟩ :: rest)
    (hnew : ∀ (s : Shared) (Q : Value → Shared → Prop) (E : Value → Shared → Prop), Q (.ref s.heap.objs.size) { s with heap := s.heap.push O } → wpAny (model X.prog X.w) X.A newAcc Q E s)
    (hlaid : ∀ (H : Hp) (h : Heap), ObjOk X.prog X.w (upd H h.objs.size (ob h.objs.size)) (h.push O) h.objs.size (ob h.objs.size))
    (hst : ∀ (it acc : Value) (env : Env) (R : Result → Shared → Prop) (s : Shared), codeAny (model X.prog X.w) X.A (.compLoop e 0 it acc env) R s →
      wpAny (model X.prog X.w) X.A (pyIter it) (fun it' s' => codeAny (model X.prog X.w) X.A (.compLoop e 0 it' acc env) R s') (notedBy (model X.prog X.w) X.A env fun x s' => R (.error x) s') s → codeAny (model X.prog X.w) X.A (.compStart e 0 it acc env) R s)
    (hq : ∀ it acc env, (Code.compLoop e 0 it acc env).quiet = true)
    (hc : X.calm = true) (hN : X.N.Nodup) (I : Inv X pins σ H s) (hi : PI X tg iter wi) (ok : BlkOk X.N X.env.scope scope own) (hs : ∀ x, foldedSetIterable iter X.env x = pure x)
    (blk : ∀ (s : Shared) (H : Hp) (C : Addr) (cl : List (Str × Addr)) (fp : List Addr) (D : Addr), ∃ (IN : (Shared → Prop) → Shared → Prop) (vi : List Nat),
      TurnsSo (model X.prog X.w) X.A (compEnvC scope cl C X.env) e 0 (.ref D) tg ifs IN ∧ PG (X.blk s H scope (compEnvC scope cl C X.env) fp) tg g ∧ PTs (X.blk s H scope (compEnvC scope cl C X.env) fp) ifs tt ∧
      KeepsTo (X.blk s H scope (compEnvC scope cl C X.env) fp) vi IN (ti D) ∧ ∀ j ∈ vi, j ∈ own.map (·.2))
    (h : tWhole ob wi g tt (own.map (·.2)) ti σ H Q) :
    wpAny (model X.prog X.w) X.A (comprehension e scope X.env pos' newAcc false (eval iter X.env) none) (EP X pins σ Q) X.xe s := by
  have held : ∀ y ∈ scope.names, y.2 = .free → ∃ c, X.env.cells.lookup y.1 = some c := fun y hy z => (ok.free y hy z).elim (fun k => I.ok.has _ (.inl k)) fun k => I.ok.has _ (.inr k)
  refine wpAny_comprehension_free (use := none) hcl hs (closure_ok held) ok.kind (fun y hy z => (ok.uniq y hy).trans (congrArg some z)) (thn (hi.run pins s σ H _ I h) fun xv s1 hx => thn hx fun itv s2 z => ?_)
  obtain ⟨it, fp, tn, J, H2, rfl, I2, T, st2, f2, q⟩ := z
  refine hnew s2 _ _ (newEnv_comp ?_)
  have hDn : H2 s2.heap.objs.size = none := I2.hok.fresh (Nat.le_refl _)
  have loops := q _ hDn
  have I3 : Inv X pins σ (upd H2 s2.heap.objs.size (ob s2.heap.objs.size)) { s2 with heap := s2.heap.push O } :=
    I2.laid (t' := s2.toks) (fun b o z => Heap.get?_push_of_some _ z) (Nat.le_refl _) (hlaid H2 s2.heap)
  have low : ∀ b ∈ fp, b < s2.heap.objs.size := fun b hb => by
    obtain ⟨o, z, _⟩ := T.obj _ _ st2 b hb
    exact Heap.lt_size z
  have f3 : ∀ b ∈ fp, FpOk X pins (upd H2 s2.heap.objs.size (ob s2.heap.objs.size)) b ∧ b < (s2.heap.push O).objs.size := fun b hb =>
    ⟨⟨by rw [upd_ne (Nat.ne_of_lt (low b hb))]; exact (f2 b hb).1, (f2 b hb).2⟩, by rw [Heap.size_push]; exact Nat.lt_succ_of_lt (low b hb)⟩
  have st3 : tn 0 (s2.heap.push O) := T.keep _ _ _ st2 fun b _ o z => Heap.get?_push_of_some _ z
  generalize hs3 : ({ s2 with heap := s2.heap.push O } : Shared) = s3 at I3 ⊢
  have h3 : s3.heap = s2.heap.push O := by rw [← hs3]
  rw [← h3] at f3 st3
  generalize s2.heap.objs.size = D at I3 f3 loops ⊢
  have I4 := block_start I3 ok hN f3
  obtain ⟨IN, vi, hts, pg, pt, hin, hvi⟩ := blk s3 (upd H2 D (ob D)) s3.heap.objs.size (cellsFrom (s3.heap.objs.size + 1) scope.names (cloFrom X.env.cells scope.names [])) fp D
  show codeAny _ _ (.compStart e 0 (.ref it) (.ref D) (compEnvC scope (cellsFrom (s3.heap.objs.size + 1) scope.names (cloFrom X.env.cells scope.names [])) s3.heap.objs.size X.env)) (compPost (model X.prog X.w) X.A X.xe none (EP X pins σ Q) (.ref D) s3.heap.objs.size) { s3 with heap := pushCells (s3.heap.push { cls := .type "dict", data := .dict #[] }) scope.names }
  have st4 : tn 0 (pushCells (s3.heap.push { cls := .type "dict", data := .dict #[] }) scope.names) := T.keep _ _ _ st3 fun b _ o z => pushCells_keeps _ _ _ _ (Heap.get?_push_of_some _ z)
  have f4 : ∀ b ∈ fp, FpOk (X.blk s3 (upd H2 D (ob D)) scope (compEnvC scope (cellsFrom (s3.heap.objs.size + 1) scope.names (cloFrom X.env.cells scope.names [])) s3.heap.objs.size X.env) fp) [] (upd H2 D (ob D)) b := fun b hb =>
    ⟨(f3 b hb).1.1, (I4.ok.exf b hb).1, I4.ok.exfs b hb, .inl hb, fun x c z => (I4.ok.exf b hb).2 x c z, fun p hp => absurd (show p ∈ ([] : List (Addr × Obj)) ++ [] from hp) (by simp)⟩
  have run := codeAny_mono (lev (Y := X.blk s3 (upd H2 D (ob D)) scope (compEnvC scope (cellsFrom (s3.heap.objs.size + 1) scope.names (cloFrom X.env.cells scope.names [])) s3.heap.objs.size X.env) fp) hc rfl (fun it => hq it _ _) hts pg pt hin hvi I4 T st4 f4 loops) (R' := compPost (model X.prog X.w) X.A X.xe none (EP X pins σ Q) (.ref D) s3.heap.objs.size) fun r s6 z => by
    obtain ⟨rfl, H6, I6, q6⟩ := z
    have I7 : Inv X pins σ H6 s6 := I3.call' (ch := fp) I6.os I6.base I6.hok I6.bare fun b hb => ⟨(f3 b hb).1.2.2.2.1, (f3 b hb).1.2.1, (f3 b hb).1.2.2.2.2.1, (f3 b hb).1.2.2.2.2.2⟩
    obtain ⟨m, hn, _⟩ := I6.loc
    obtain ⟨a0, a1, a2, a3, a4, a5⟩ := I3.fpOk (Nat.le_refl _) (show H6 s3.heap.objs.size = none from I6.free)
    exact ⟨m, hn, fun h'' sb => ⟨.ref D, H6, I7.turned (t' := s6.toks) (fun b o hb z => (sb.2 b hb).trans z) a0 a1 a3 a4 a5, rfl, q6⟩⟩
  exact hst _ _ _ _ _ run (T.self X.A 0 _ _ _ st4 run)
end
end Sq
namespace Sq
open PySem L2 PySem.Spec PyProof.Rows
/-! ### try with several except clauses, each with a name or without -/
/-- a clause: its class, the slot of its name, what its suite does -/
structure Clause where
  c : Value
  i : Option Nat
  ts : Addr → Value → Option Addr → TS
def Clause.ends (l : Clause) (D : Ends) : Ends := match l.i with
  | none => D
  | some i => ⟨fun σ H => D.nx (σ.set i none) H, D.rt, fun σ H => D.bk (σ.set i none) H, fun σ H => D.ct (σ.set i none) H⟩
def Clause.start (l : Clause) (a : Addr) (σ : L2.St) : L2.St := match l.i with
  | none => σ
  | some i => σ.set i (some (.ref a))
/-- what the clauses wish of an exception of the body, one behind the other -/
def wCl (K : PySem.W.Frag) (Wout : WX) (D : Ends) : List Clause → WX
  | [] => Wout
  | l :: r => fun cls d σ H => ∃ b, PySem.W.exmOne K cls l.c = some b ∧ (b = true → ∀ a, H a = none → l.ts a cls d (l.ends D) (l.start a σ) H) ∧ (b = false → wCl K Wout D r cls d σ H)
def SuiteOk (X : Cx) (sts : List Stmt) (ts : Addr → Value → Option Addr → TS) : Prop :=
  ∀ (a : Addr) (oe : Obj) (cls : Value) (d : Option Addr) (pn : List (Addr × Obj)), Zc cls d oe → (∃ vs, oe.data = .fields vs) → PSs (X.suite a ((a, oe) :: pn)) sts (ts a cls d)
inductive Clauses (X : Cx) : List ExceptHandler → List Clause → Prop
  | nil : Clauses X [] []
  | bare {x : Str} {c : Value} {ts : Addr → Value → Option Addr → TS} {b₀ : Stmt} {suite : List Stmt} {np pos : Pos} {hds : List ExceptHandler} {l : List Clause} (hc : Names X x c) (hsu : SuiteOk X (b₀ :: suite) ts) (r : Clauses X hds l) :
      Clauses X (.ExceptHandler (some (.Name x np)) none (b₀ :: suite) pos :: hds) (⟨c, none, ts⟩ :: l)
  | named {x n : Str} {i : Nat} {c : Value} {ts : Addr → Value → Option Addr → TS} {b₀ : Stmt} {suite : List Stmt} {np pos : Pos} {hds : List ExceptHandler} {l : List Clause} (hi : X.N[i]? = some n) (hn : X.env.kindOf n = some .local)
      (hc : Names X x c) (hsu : SuiteOk X (b₀ :: suite) ts) (r : Clauses X hds l) :
      Clauses X (.ExceptHandler (some (.Name x np)) (some n) (b₀ :: suite) pos :: hds) (⟨c, some i, ts⟩ :: l)
section
variable {X : Cx} {Wout : WX}
/-- the clauses, over an exception that has landed at a -/
theorem clauses_ok (hN : X.N.Nodup) (hs : X.stack = X.env :: X.outer) (hf : X.env.frame = some X.env.locals) (tk : Takes X Wout) {D : Ends} {pins : List (Addr × Obj)} {σ : L2.St} {H : Hp} {sI s' : Shared} {B h3 : Heap} {a : Addr} {cls : Value} {d : Option Addr}
    (ok : X.Ok) (J : Inv X pins σ H sI) (nb : ∀ b o, sI.heap.get? b = some o → b ∉ frs X.stack → B.get? b = some o) (up : sI.heap.UpToSlots h3) (na : H a = none) (os : s'.os = sI.os) (ag : AllBare s'.gens)
    (fl : HandSPX.FlyingZ B (X.env :: X.outer) a (Zc cls d) h3) {hds : List ExceptHandler} {l : List Clause} (hk : Clauses X hds l) :
    wCl X.K Wout D l cls d σ H → wpAny (model X.prog X.w) X.A (handleBy (.ref a) X.env hds) (SP X pins D) X.xe { s' with heap := h3 } := by
  have J3 : Inv X pins σ H { s' with heap := h3 } := J.landed nb fl.1 up os ag
  obtain ⟨o3, v3, e3, z3, d3⟩ := fl.there
  have away : a ∉ frs (X.env :: X.outer) := fun hm => by
    obtain ⟨_, o', e', hnf⟩ := fl.2.2.1.mem hm
    exact hnf _ ((Option.some.inj (e3.symm.trans e')) ▸ d3)
  have nL : a ≠ X.env.locals := fun z => away (List.mem_filterMap.mpr ⟨X.env, List.mem_cons_self, by rw [hf, z]⟩)
  have nF : a ∉ X.fs := fun hm => by
    obtain ⟨y, hy, q⟩ := List.mem_filterMap.mp hm
    exact away (List.mem_filterMap.mpr ⟨y, List.mem_cons_of_mem _ hy, q⟩)
  have S3 := J3.suite e3 d3 na nL nF
  have LT : PySem.W.Looks (model X.prog X.w) h3 (typeOf (.ref a)) cls := fun A Q E s k q => wpAny_typeOf_ref (k _ _ e3) (by rw [z3.1]; exact q)
  have asked : ∀ {x : Str} {c : Value} {np : Pos}, Names X x c → ∀ {Q E : Value → Shared → Prop}, Q c { s' with heap := h3 } → wpAny (model X.prog X.w) (X.A.mark (some (.ref a))) (eval (.Name x np) X.env) Q E { s' with heap := h3 } := fun {x c np} hc {Q E} q => by
    obtain ⟨hg, hd, hm | ⟨hm, hv, hn⟩⟩ := hc
    · exact ld_glob (X := X.suite a ((a, o3) :: (X.pn ++ pins))) S3 hg hm q hd
    · exact ld_blt (X := X.suite a ((a, o3) :: (X.pn ++ pins))) S3 hg hm hv q hn hd
  induction hk with
  | nil =>
    intro w
    refine wpAny_handleBy_nil ?_
    obtain ⟨_, _, _, oe, vs, T, oT, _, he, _, hd, h1, _⟩ := id fl
    unfold PySem.passOn
    refine wpAny_bind (wpAny_field he hd h1 ?_)
    rw [if_neg (show ¬ ((Value.ref T == Value.none) = true) from by simp)]
    have gone : wpAny (model X.prog X.w) X.A (setFlight (.ref a) X.env.frame) (fun _ s4 => wpAny (model X.prog X.w) X.A (throw (.ref a) : Sem Flow) (SP X pins D) X.xe s4) X.xe { s' with heap := h3 } := by
      rw [hf]
      exact HandSPX.setFlight_upZ fl fun h4 hh4 up4 => wpAny_throw (tk _ _ ⟨a, B, sI, pins, σ, H, cls, d, rfl, J, nb, up.trans up4, .inr (.inr (by rw [hs]; exact hh4)), na, os, ag, w⟩)
    first
      | exact wpAny_bind (wpAny_pure (wpAny_bind gone))
      | exact wpAny_bind gone
  | @bare x c ts b₀ suite np pos hds l hc hsu r ih =>
    intro w
    obtain ⟨b, hb, yes, no⟩ := w
    refine wpAny_handleBy_cons (codeAny_handlers_test (asked hc ((PySem.W.exm_one (M := model X.prog X.w) J3.kIn LT hb).here ?_))) (fun q => nomatch q)
    cases b with
    | false => exact ih (no rfl)
    | true =>
      refine codeAny_handlers_suite (HandSPX.lands_againZ fl fun h4 fl4 up4 => ?_)
      obtain ⟨o4, v4, e4, z4, d4⟩ := fl4.there
      have S4 := (J.landed (s' := { s' with heap := h4 }) nb fl4.1 (up.trans up4) os ag).suite e4 d4 na nL nF
      refine wpAny_mono ((hsu a o4 cls d (X.pn ++ pins) z4 ⟨_, d4⟩).run [] _ _ H _ S4 (yes rfl a na)) (fun f s6 q => ?_) (fun _ _ z => False.elim z)
      match f, q with
      | .next, ⟨σ6, H6, S6, q6⟩ => exact ⟨_, _, S6.unsuite ok, q6⟩
      | .brk, ⟨σ6, H6, S6, q6⟩ => exact ⟨_, _, S6.unsuite ok, q6⟩
      | .cont, ⟨σ6, H6, S6, q6⟩ => exact ⟨_, _, S6.unsuite ok, q6⟩
      | .ret u, ⟨v6, σ6, H6, S6, r6, q6⟩ => exact ⟨_, _, _, S6.unsuite ok, r6, q6⟩
  | @named x n i c ts b₀ suite np pos hds l hi hn hc hsu r ih =>
    intro w
    obtain ⟨b, hb, yes, no⟩ := w
    refine wpAny_handleBy_cons (codeAny_handlers_test (asked hc ((PySem.W.exm_one (M := model X.prog X.w) J3.kIn LT hb).here ?_))) (fun q => nomatch q)
    cases b with
    | false => exact ih (no rfl)
    | true =>
      refine codeAny_handlers_suite_as (HandSPX.lands_againZ fl fun h4 fl4 up4 => ?_)
      obtain ⟨o4, v4, e4, z4, d4⟩ := fl4.there
      have S4 := (J.landed (s' := { s' with heap := h4 }) nb fl4.1 (up.trans up4) os ag).suite e4 d4 na nL nF
      refine store_ok (X := X.suite a ((a, o4) :: (X.pn ++ pins))) (v := .ref a) S4 hN hi (.inl hn) rfl (fun s5 S5 => ?_) (.inr hn)
      refine wpAny_mono ((hsu a o4 cls d (X.pn ++ pins) z4 ⟨_, d4⟩).run [] s5 _ H _ S5 (yes rfl a na)) (fun f s6 q => ?_) (fun _ _ z => False.elim z)
      match f, q with
      | .next, ⟨σ6, H6, S6, q6⟩ => exact gone_ok (S6.unsuite ok) hN hi hn fun s7 J7 => ⟨_, _, J7, q6⟩
      | .brk, ⟨σ6, H6, S6, q6⟩ => exact gone_ok (S6.unsuite ok) hN hi hn fun s7 J7 => ⟨_, _, J7, q6⟩
      | .cont, ⟨σ6, H6, S6, q6⟩ => exact gone_ok (S6.unsuite ok) hN hi hn fun s7 J7 => ⟨_, _, J7, q6⟩
      | .ret u, ⟨v6, σ6, H6, S6, r6, q6⟩ => exact gone_ok (S6.unsuite ok) hN hi hn fun s7 J7 => ⟨_, _, _, J7, r6, q6⟩
/-- try: body, except C1 [as n1]: .., except C2 [as n2]: .. -/
theorem ps_tryC {body : List Stmt} {h₀ : ExceptHandler} {hds : List ExceptHandler} {l : List Clause} {pos : Pos} {tb : WX → TS} (hN : X.N.Nodup) (hs : X.stack = X.env :: X.outer) (hf : X.env.frame = some X.env.locals) (tk : Takes X Wout)
    (hb : ∀ (W : WX) (pn : List (Addr × Obj)) (xe : Value → Shared → Prop), Takes (X.tr pn xe) W → PassesOwn (model X.prog X.w) X.A X.env xe → PSs (X.tr pn xe) body (tb W))
    (hh : Clauses X (h₀ :: hds) l) : PS X (.Try body (h₀ :: hds) [] [] pos) (fun D σ H => tb (wCl X.K Wout D l) D σ H) := by
  refine ⟨fun pins s σ H D I h => wpAny_Try_except ?_⟩
  have ok := I.ok
  have hfr : X.A.frames = some (X.env :: X.outer) := by rw [ok.frames, hs]
  have run := (hb (wCl X.K Wout D l) (X.pn ++ pins) (fun e s₁ => wpAny (model X.prog X.w) X.A (noteFrame e X.env) (fun _ s₂ => wpAny (model X.prog X.w) X.A (setFlight e none) (fun _ s₃ => wpAny (model X.prog X.w) X.A (handleBy e X.env (h₀ :: hds)) (SP X pins D) X.xe s₃) X.xe s₂) X.xe s₁)
    (fun u s' x => by
      obtain ⟨a, B, sI, pins', σ', H', cls, d, rfl, J', nb, up, sky, na, os, ag, w⟩ := x
      have sky' : Sky B (X.env :: X.outer) a (Zc cls d) X.env.locals s'.heap := by rw [← hs]; exact sky
      show wpAny (model X.prog X.w) X.A (noteFrame (.ref a) X.env) _ _ _
      exact Sky.land Zc.steady hfr hf sky' fun h3 fl3 up3 => clauses_ok hN hs hf tk ok (J'.ofTry ok) nb (up.trans up3) na os ag fl3 hh w) PassesOwn.looking).run [] s σ H D (I.toTry _) h
  refine wpAny_mono run (fun f s1 q => ?_) (fun _ _ z => z)
  match f, q with
  | .next, ⟨σ', H', J', q⟩ => exact wpAny_execs_nil ⟨σ', H', J'.ofTry ok, q⟩
  | .brk, ⟨σ', H', J', q⟩ => exact ⟨σ', H', J'.ofTry ok, q⟩
  | .cont, ⟨σ', H', J', q⟩ => exact ⟨σ', H', J'.ofTry ok, q⟩
  | .ret u, ⟨v, σ', H', J', r, q⟩ => exact ⟨v, σ', H', J'.ofTry ok, r, q⟩
end
end Sq
namespace Sq
open PySem L2 PySem.Spec PyProof.Rows
/-! ### an own error class with one field, set by its __init__ -/
def spErrInit (C : Addr) (f : Str) : Sp := fun vs H Q _ => ∃ (a : Addr) (v : V), vs = [.ref a, v] ∧ H a = some (exo a C none) ∧ ∀ dx, H dx = none → dx ≠ a → Q .non (upd (upd H dx (exd dx [(f, v)])) a (exo a C (some dx)))
structure ErrC (P : Program) (w : World) (K : PySem.W.Frag) (mg : Str → Option Value) (base : Heap) (x f : Str) (C : Addr) : Prop where
  oex : OexC K C
  xf : XfC K C
  no : PySem.W.findIn K (.ref C) f = some none
  m : mg x = some (.ref C)
  ex : ∃ (fI : Addr) (fd : FuncData) (ps : List Str), PySem.W.findIn K (.ref C) "__init__" = some (some (.ref fI)) ∧ PySem.W.typeIn K (.ref fI) = some (.type "function") ∧ FnOk P w K mg base CX0 1 fI fd ps (spErrInit C f) ∧ Binds K fd ps []
section
variable {X : Cx} {W : WX} {x f : Str} {C : Addr} {e : Expr} {te : TE} {k : Nat} {p pos pos2 : Pos}
theorem err_heap {H : Hp} {a d : Addr} {u u' o : HO} (ha : H a = none) (hd : H d = none) (n : d ≠ a) : upd (del (upd (upd (upd H a u) d o) a u') a) d (.xd l) = upd H d (.xd l) := by
  funext b
  by_cases h1 : b = d
  · subst h1
    rw [upd_same, upd_same]
  rw [upd_ne h1, upd_ne h1]
  by_cases h2 : b = a
  · subst h2
    rw [del_same, ha]
  · rw [del_ne h2, upd_ne h2, upd_ne h1, upd_ne h2]
/-- raise C(e) -/
theorem ps_err (T : ErrC X.prog X.w X.K X.mg X.base x f C) (hc : X.calm = true) (tk : Takes X W) (hr : Room k X.A) (hk : 2 ≤ k) (hg : Gl X x) (he : PE X e te)
    (hdb : (x == ("__debug__" : Str)) = false := by decide) (hst : starEach (e :: []) X.env = (false, eval e X.env) :: starEach [] X.env := by rfl) (hpl : (backTo pos (starEach [] X.env)).any (·.1) = false := by rfl) :
    PS X (.Raise (some (.Call (.Name x p) [e] [] pos)) none pos2) (fun _ σ H => tMkO C (spErrInit C f) [] (tCons te tNil) σ H fun cls d H' => W cls d σ H') := by
  obtain ⟨fI, fd, ps, iC, tI, F, b⟩ := T.ex
  exact ps_raise (pos := pos2) hc tk (pmk_oex (p := p) (pos := pos) T.oex iC tI F (hr.mono hk) b .nil pass0 hg T.m (pa_cons he pa_nil (hs := hst)) hdb hst hpl)
/-- what its reading asks, once the value is there -/
theorem err_go {H1 : Hp} {v : V} {Q : XK} (h : ∀ d, H1 d = none → Q (.ref C) (some d) (upd H1 d (.xd [(f, v)]))) :
    [v].length ≤ 1000 ∧ ∀ a, H1 a = none → spErrInit C f (.ref a :: ([v] ++ [])) (upd H1 a (exo a C none))
      (fun u H2 => u = .non ∧ ∃ (d : Addr) (fs : List (Str × V)), H2 a = some (exo a C (some d)) ∧ H2 d = some (exd d fs) ∧ H1 d = none ∧ Q (.ref C) (some d) (upd (del H2 a) d (.xd fs))) (fun _ _ _ => False) := by
  refine ⟨by show 1 ≤ 1000; decide, fun a na => ⟨a, v, rfl, upd_same, fun dx nd ne => ⟨rfl, dx, [(f, v)], upd_same, ?_, ?_, ?_⟩⟩⟩
  · rw [upd_ne ne, upd_same]
  · rw [upd_ne ne] at nd
    exact nd
  · rw [upd_ne ne] at nd
    rw [err_heap na nd ne]
    exact h dx nd
end
end Sq
namespace Sq
open PySem L2
/-! ### numbers of orbits -/
def big : Int := 1000000000000000000000000000000
def leastN (a b c : Int) : Int := 2 * a + 2 * b + c + 1
def waysN (p : Nat) (t : Int) : Int := if p = 0 then (if t = 0 then 1 else 0) else if p = 1 then 1 else if p = 2 then t + 1 else (t + 1) * (t + 2) / 2
def openN (a b : Int) : Nat := [decide (a = 1), decide (b = 2)].count true
def grpN (n a b c : Int) : Int := if n - leastN a b c < 0 then 0 else if c = 3 then waysN (openN a b + 1) ((n - leastN a b c) / 2) else if (n - leastN a b c) % 2 = 0 then waysN (openN a b) ((n - leastN a b c) / 2) else 0
def imgN (b c : Int) : Int := if b = 0 ∧ c = 0 then 1 else if b = 0 ∨ c = 0 then 4 else 8
def cntN (n a b c : Int) : Int := grpN n a b c * imgN b c
theorem openN_le (a b : Int) : openN a b ≤ 2 := by
  unfold openN
  exact Nat.le_trans List.count_le_length (by simp)
/-! ### what the functions promise -/
def spWhole : Sp := fun vs H Q _ => ∃ n : Int, vs = [.int n] ∧ Q (.bl true) H
def spWithin : Sp := fun vs H Q _ => ∃ n a b : Int, vs = [.int n, .int a, .int b] ∧ Q (.bl (decide (a ≤ n) && decide (n ≤ b))) H
def spSize : Sp := fun vs H Q _ => ∃ n : Int, vs = [.int n] ∧ 1 ≤ n ∧ n ≤ big ∧ Q .non H
def KindAt (H : Hp) (t : Addr) (a b c : Int) : Prop := H t = some (.tup [.int a, .int b, .int c])
def KindR (a b c : Int) : Prop := (0 ≤ a ∧ a ≤ 1) ∧ (0 ≤ b ∧ b ≤ 2) ∧ (0 ≤ c ∧ c ≤ 3)
def spIsKind : Sp := fun vs H Q _ => ∃ (t : Addr) (a b c : Int), vs = [.ref t] ∧ KindAt H t a b c ∧ KindR a b c ∧ Q (.bl true) H
def spLeast : Sp := fun vs H Q _ => ∃ (t : Addr) (a b c : Int), vs = [.ref t] ∧ KindAt H t a b c ∧ Q (.int (leastN a b c)) H
def spImgN : Sp := fun vs H Q _ => ∃ (t : Addr) (a b c : Int), vs = [.ref t] ∧ KindAt H t a b c ∧ Q (.int (imgN b c)) H
def spWays : Sp := fun vs H Q _ => ∃ (p : Nat) (t : Int), vs = [.int (p : Int), .int t] ∧ 0 ≤ t ∧ t ≤ big ∧ Q (.int (waysN p t)) H
def spGroup : Sp := fun vs H Q _ => ∃ (n : Int) (t : Addr) (a b c : Int), vs = [.int n, .ref t] ∧ KindAt H t a b c ∧ KindR a b c ∧ n ≤ big ∧ ∀ H', Same H H' → Q (.int (grpN n a b c)) H'
def spCount : Sp := fun vs H Q _ => ∃ (n : Int) (t : Addr) (a b c : Int), vs = [.int n, .ref t] ∧ KindAt H t a b c ∧ KindR a b c ∧ 1 ≤ n ∧ n ≤ big ∧ ∀ H', Same H H' → Q (.int (cntN n a b c)) H'
end Sq
namespace Sq
open PySem L2 PySem.Spec PyProof.Rows
/-! ### calls of functions that may raise -/
/-- a promise of a top function that may raise, with all that a call of it asks -/
structure FBX (P : Program) (w : World) (K : PySem.W.Frag) (mg : Str → Option Value) (base : Heap) (x : Str) (k : Nat) (ps : List Str) (sp : Sp) : Prop where
  ex : ∃ (f : Addr) (fd : FuncData), FnOk P w K mg base (L2.CX P w) k f fd ps sp ∧ mg x = some (.ref f) ∧ PySem.W.keepIn K (.ref f) = true ∧ Binds K fd ps []
section
variable {X : Cx} {W : WX} {j k : Nat} {x : Str} {p pos : Pos} {e : Expr} {es : List Expr} {t : TA} {ps : List Str} {sp : Sp}
theorem pe_fbX (F : FBX X.prog X.w X.K X.mg X.base x k ps sp) (tk : Takes X W) (hr : Room j X.A) (hk : k ≤ j) (hg : Gl X x) (ha : PA X (e :: es) t) (hdb : (x == ("__debug__" : Str)) = false := by decide)
    (he : starEach (e :: es) X.env = (false, eval e X.env) :: starEach es X.env := by rfl) (hpl : (backTo pos (starEach es X.env)).any (·.1) = false := by rfl) :
    PE X (.Call (.Name x p) (e :: es) [] pos) (tCallS sp (WE W) t) := by
  obtain ⟨f, fd, G, hm, kk, b⟩ := F.ex
  exact pe_callS G (hr.mono hk) hg hm kk b (fun σ => passAt tk σ) ha hdb he hpl
end
/-! ### isinstance(e, C), e a caught exception that has a dict -/
def rIsX (K : PySem.W.Frag) (a : Addr) (cls : Value) (d : Option Addr) : List V → Hp → VK → Prop := fun xs H Q => ∃ (D dd : Addr) (fs : List (Str × V)) (c : V) (cv : Value) (b : Bool), cls = .ref D ∧ ExcC K D ∧ d = some dd ∧ H dd = some (.xd fs) ∧ xs = [.ref a, c] ∧
  (∀ u, RelV c u → u = cv) ∧ PySem.W.kitOne K (.ref D) cv = some b ∧ Q (.bl b) H
theorem call_isX {X : Cx} {a : Addr} {oe : Obj} {cls : Value} {d : Option Addr} {pn : List (Addr × Obj)} (hz : Zc cls d oe) (hf : ∃ vs, oe.data = .fields vs) : CallR (X.suite a ((a, oe) :: pn)) (.builtin "isinstance") (rIsX X.K a cls d) := by
  intro pins s σ H xs us Q I r h
  obtain ⟨D, dd, fs, c, cv, b, rfl, C, rfl, ea, rfl, hcv, e, q⟩ := h
  obtain ⟨u1, u2, rfl, r1, r2⟩ := vals2 r
  cases (show u1 = Value.ref a from r1)
  have ec := hcv _ r2
  subst ec
  obtain ⟨hget, _⟩ := I.pin (a, oe) (List.mem_append.mpr (.inl List.mem_cons_self))
  obtain ⟨vs, hv⟩ := hf
  have hx : ObjOk X.prog X.w H s.heap dd (.xd fs) := I.hok dd _ ea
  obtain ⟨mA, hns, hr⟩ := hx
  obtain ⟨od, ho, hl⟩ := lookIn_ns hns
  have J : PySem.W.InstAt s.heap a oe D (some od) := ⟨hget, hz.1, by unfold PySem.W.notCls; rw [hv] <;> rfl, by rw [hz.2]; exact ho⟩
  obtain ⟨cd, hcd, _⟩ := PySem.W.any_some C.hd
  exact PySem.W.kia_one (PySem.W.kitx_exc (by rw [hcd]; rfl) C.hg C.hk C.hs C.ha C.hn C.ht C.hm) I.kIn J e (fun z => nomatch z) fun tk => ⟨.bl b, H, I.kept (t' := tk) fun _ _ z => z, rfl, q⟩
/-! ### what a class of errors with the one field given says -/
structure GivenC (P : Program) (w : World) (K : PySem.W.Frag) (mg : Str → Option Value) (base : Heap) (x : Str) (C : Addr) : Prop where
  err : ErrC P w K mg base x "given" C
  exc : ExcC K C
  cls : PySem.W.hasDictIn K C = true
  ty : PySem.W.typeIn K (.ref C) = some (.type "type")
def einitBody (q1 q2 q3 q4 : Pos) : List Stmt := [.Assign [.Attribute (.Name "self" q1) "given" q2] (.Name "given" q3) q4]
theorem ok_einit {P : Program} {w : World} {K : PySem.W.Frag} {mg : Str → Option Value} {base : Heap} {f C : Addr} {fd : FuncData} {q : Str} {st : Stmt} {q1 q2 q3 q4 : Pos} (F : Fun K "__init__" q st f fd) (S : FnScope ["self", "given"] ["self", "given"] (defScope st)) (hb : defBody st = einitBody q1 q2 q3 q4) (h0 : (defScope st).names.lookup ("self" : Str) = some .local) (h1 : (defScope st).names.lookup ("given" : Str) = some .local)
    (T : OexC K C) (no : PySem.W.findIn K (.ref C) "given" = some none) : FnOk P w K mg base CX0 1 f fd ["self", "given"] (spErrInit C "given") := by
  refine F.ok S (fun vs H Q E h => ?_) (fun cdv A outer s H vs Q E hr h => ?_)
  · obtain ⟨a, v, rfl, _⟩ := h
    rfl
  · obtain ⟨a, v, rfl, ha, q⟩ := h
    rw [hb]
    refine ⟨_, pss_one (ps_ost (pv 0 (hv := .inl h0)) (pv 1 (hv := .inl h1))), ?_⟩
    refine ⟨_, rfl, _, rfl, a, C, rfl, T, no, .inl ⟨ha, fun dx n ne => q dx n ne⟩⟩
/-- the classes C and D, asked whether an error of the class C is caught by 'except D' -/
theorem GivenC.exm {P : Program} {w : World} {K : PySem.W.Frag} {mg : Str → Option Value} {base : Heap} {x : Str} {C : Addr} {cls : Value} {b : Bool} (G : GivenC P w K mg base x C) (h : PySem.W.subIn K cls (.ref C) = some b) : PySem.W.exmOne K cls (.ref C) = some b :=
  PySem.W.exm_ref G.err.oex.exC G.cls G.ty h
end Sq
namespace Sq
open PySem L2 PySem.Spec PyProof.Rows L2H
/-! ### comprehensions where an exception is handled -/
section
variable {prog : Program} {w : World} {A : Around} {E : Value → Shared → Prop} {s : Shared}
/-- a walk over a dict's keys ends, while x1 is handled -/
theorem key_end_hot {it d x1 : Addr} {i n ep : Nat} {od : Obj} {es : Array DictEntry} {Q : Option Value → Shared → Prop} (hot : HotX.HotAt A x1 s.heap) (ne : x1 ≠ it) (hi : s.heap.IsKeyIter it d i n ep) (g : s.heap.get? d = some od) (dd : od.data = .dict es ep)
    (sz : es.size = n) (far : n ≤ i) (hQ : ∀ h', (∀ b o, b ≠ it → s.heap.get? b = some o → h'.get? b = some o) → Q none { s with heap := h' }) : wpAny (model prog w) A (pyNext (.ref it)) Q E s := by
  obtain ⟨hh, o1, v1, g1, d1, c1⟩ := hot
  obtain ⟨o, ho, hc, hd⟩ := id hi
  unfold pyNext
  refine wpAny_bind (wpAny_attempt (wpAny_callSpecial?_slot (name := Str.ofString "__next__") hi.typeIs F.slot_dict_keyiterator_next (wpAny_call_entry F.slot_dict_keyiterator_next hi.typeIs F.entry_dict_keyiterator_next ?_ (F.args_dict_keyiterator_next_1 _))))
  refine wpAny_bind (wpAny_pure (wpAny_bind (wpAny_bind ?_)))
  first | refine wpAny_bind (wpAny_typeNameOfWhole_keyiter hi.typeIs (wpAny_pure (wpAny_bind (wpAny_fieldsOf ho hd ?_)))) | refine wpAny_bind (wpAny_typeNameOf_keyiter hi.typeIs (wpAny_pure (wpAny_bind (wpAny_fieldsOf ho hd ?_))))
  simp only [show Builtin.Dict_items.ownsTuple "dict_keyiterator" = false by decide, Bool.false_eq_true, if_false]
  show wpAny _ _ (if (Value.ref d == Value.none) = true then _ else _) _ _ _
  rw [if_neg (show (Value.ref d == Value.none) = true → False from Bool.false_ne_true)]
  refine wpAny_bind (wpAny_pure (wpAny_bind (wpAny_dictEntries g dd ?_)))
  rw [if_neg (by simp [sz])]
  refine wpAny_bind (wpAny_pure (wpAny_bind (wpAny_dictEpoch g dd ?_)))
  rw [if_neg (by simp)]
  have far' : es.size ≤ i := by omega
  refine wpAny_pure ?_
  simp only [show ¬ ((i : Int) < 0) by omega, if_false, Int.toNat_natCast, Array.getElem?_eq_none far']
  refine wpAny_bind ?_
  first | refine wpAny_bind (wpAny_typeNameOfWhole_keyiter hi.typeIs (wpAny_pure ?_)) | refine wpAny_bind (wpAny_typeNameOf_keyiter hi.typeIs (wpAny_pure ?_))
  show wpAny _ _ (setField (.ref it) 0 .none >>= _) _ _ _
  refine wpAny_bind (wpAny_setField ho hd (by simp) ?_)
  have sb := Heap.SameBut.update s.heap it (Obj.mapFields (·.setIfInBounds 0 Value.none))
  show wpAny _ _ (newExc (.type "StopIteration") [] >>= _) _ _ _
  refine wpAny_bind ?_
  simp only [newExc, newTuple]
  refine wpAny_bind (wpAny_newObj_type (wpAny_bind (m := firstArgMember _ _) (wpAny_of_eq (a := Value.none) (by first | rfl | (simp only [firstArgMember]; rfl)) (wpAny_newObj_type ?_ (by size_fits)))) (by size_fits))
  refine HotX.raiseNew_hot ⟨hh, o1, v1, Heap.get?_push_of_some _ (Heap.get?_push_of_some _ ((sb.2 x1 ne).trans g1)), d1, c1⟩ (Nat.ne_of_lt (Heap.lt_size (Heap.get?_push_of_some _ ((sb.2 x1 ne).trans g1)))) (Heap.get?_push_size _ rfl) rfl (by first | (simp; done) | (simp; omega) | (simp only [Array.size_append]; simp; omega)) ?_
  refine wpAny_bind (wpAny_isInstance (T := "StopIteration") (b := true) ⟨_, Heap.get?_update_self _ (Heap.get?_push_size _ rfl) rfl, rfl⟩ isSubtype_stop (wpAny_pure (hQ _ fun b o nb e => ?_)))
  have e2 := Heap.get?_push_of_some { cls := .type "tuple", data := .seq ([] : List Value).toArray } ((sb.2 b nb).trans e)
  rw [Heap.get?_update_other _ _ (Nat.ne_of_gt (Heap.lt_size e2))]
  exact Heap.get?_push_of_some _ e2
end
/-- the keys of a locked dict, where an exception is handled -/
theorem turn_keysH {P : Program} {w : World} {K : PySem.W.Frag} {tg : Expr} {d : Addr} {o : Obj} {es : Array DictEntry} {ep : Nat} {kvs : List (Key × V)} (it : Addr) (hod : o.data = .dict es ep) : TurnH P w K tg (Itk d o kvs) [it] it (fun i h => h.IsKeyIter it d i kvs.length ep) := by
  refine ⟨List.mem_singleton.mpr rfl, fun i h st b hb => ?_, fun i h h' st k => st.at fun oi e => k it (List.mem_singleton.mpr rfl) oi e, ?_, ?_, fun A i s Q E st h => wpAny_pyIter_keyiter st h⟩
  · rw [List.mem_singleton] at hb
    subst hb
    obtain ⟨oi, e, _, dd⟩ := st
    exact ⟨oi, e, fun v z => by rw [dd] at z; cases z⟩
  · intro X hP hw hK _ i pins s σ H E I hf st ⟨hd, hi⟩
    subst hP hw hK
    obtain ⟨f0, f1, f2, f3, f4, f5⟩ := hf it (List.mem_singleton.mpr rfl)
    obtain ⟨hs, hgd, hx, es', ep', vs, hdt, hsz, kv, hm⟩ := I.frzK hd
    obtain ⟨rfl, rfl⟩ := dict_ep hod hdt
    have hkv : kvs[i]? = some kvs[i] := List.getElem?_eq_getElem hi
    obtain ⟨u, hu, ru⟩ := kv_get kv hkv
    have hl : kvs.length = vs.length := Paired.length kv
    rw [hl] at st
    refine wpAny_pyNext_dict_item st hm hu fun key h' hkey st' sb => ?_
    have J : Inv X pins σ H { s with heap := h' } := I.turned (t' := s.toks) (fun b ob hb e => (sb.2 b hb).trans e) f0 f1 f3 f4 f5
    obtain ⟨oi, e1, e2, e3⟩ := id st'
    refine ⟨key, rfl, go_of (s := { s with heap := h' }) e1 e2 e3 (by decide) ⟨kV kvs[i].1, H, J, relV_key (show keyIs kvs[i].1 key = true from hkey), ⟨rfl, kvs[i].1, kvs[i].2, hkv, rfl⟩, by rw [hl]; exact st', fun b hb => (hf b hb).1⟩⟩
  · intro X hP hw hK hot i pins s σ H E I hf st ⟨hd, hi⟩
    subst hP hw hK
    obtain ⟨f0, f1, f2, f3, f4, f5⟩ := hf it (List.mem_singleton.mpr rfl)
    obtain ⟨hs, hgd, hx, es', ep', vs, hdt, hsz, kv, hm⟩ := I.frzK hd
    obtain ⟨rfl, rfl⟩ := dict_ep hod hdt
    obtain ⟨p, ⟨hh, v1, e1, c1⟩, hp⟩ := hot
    have P1 := I.pin p (List.mem_append_left _ hp)
    exact key_end_hot ⟨hh, p.2, v1, P1.1, e1, c1⟩ (f5 p (List.mem_append_left _ hp)) st hgd hdt hsz hi fun h' k => ⟨rfl, I.turned (t' := s.toks) (fun b ob hb e => k b ob hb e) f0 f1 f3 f4 f5⟩
/-- for k in d, d locked -/
theorem pi_keysH {X : Cx} {tg e : Expr} {td : TE} (he : PE X e td) : PIH X tg e (iKeysM td) := by
  refine ⟨fun pins s σ H R I h => thn (he.run pins s σ H _ I h) fun u s1 z => ?_⟩
  obtain ⟨x, H1, I1, rx, d, o, kvs, rfl, hd, q⟩ := z
  cases rx
  obtain ⟨hs, hgd, hx, es, ep, vs, hdt, hsz, kv, hm⟩ := I1.frzK hd
  refine iter_keys hs hgd hx hdt ?_
  have I2 : Inv X pins σ H1 { s1 with heap := s1.heap.push { cls := .type "dict_keyiterator", data := .fields #[.ref d, rawInt 0, rawInt es.size, rawInt ep] } } := I1.kept (t' := s1.toks) fun b ob z => Heap.get?_push_of_some _ z
  refine ⟨s1.heap.objs.size, [s1.heap.objs.size], _, _, H1, rfl, I2, turn_keysH _ hdt, ⟨_, Heap.get?_push_size _ rfl, rfl, ?_⟩, fun b hb => ?_, q⟩
  · rw [hsz] <;> rfl
  · rw [List.mem_singleton] at hb
    subst hb
    exact I1.fpOk (Nat.le_refl _) (I1.hok.fresh (Nat.le_refl _))
end Sq
namespace Sq
open PySem L2 PySem.Spec PyProof.Rows L2H
/-! ### [elt for tg in iter if ..] where an exception is handled -/
/-- the block of a comprehension, with what the def has pinned -/
abbrev hblk (X : Cx) (s : Shared) (H : Hp) (scope : Scope) (cenv : Env) (fp : List Addr) : Cx := (X.blk s H scope cenv fp).tr X.pn noX
section
variable {Y : Cx} {e : Expr} {d : Nat} {acc : Value} {tg : Expr} {ifs : List Expr} {IN : (Shared → Prop) → Shared → Prop} {g : TG} {tt : TT} {ti : TCl} {vs vi : List Nat}
theorem levH (hc : HotC Y) (hxe : Y.xe = noX) (hq : ∀ it, (Code.compLoop e d it acc Y.env).quiet = true) (ht : TurnsSo (model Y.prog Y.w) Y.A Y.env e d acc tg ifs IN)
    (pg : PG Y tg g) (pt : PTs Y ifs tt) (hin : KeepsTo Y vi IN ti) (hvi : ∀ j ∈ vi, j ∈ vs)
    {pins : List (Addr × Obj)} {s : Shared} {σ : L2.St} {H : Hp} {Nx : Hp → Prop} (I : Inv Y pins (wipe σ vs) H s) {it : Addr} {fp : List Addr} {tn : Nat → Heap → Prop} {J : It}
    (T : TurnH Y.prog Y.w Y.K tg J fp it tn) (st : tn 0 s.heap) (hf : ∀ b ∈ fp, FpOk Y pins H b) (h : JLoop J g tt vs ti σ H Nx) :
    codeAny (model Y.prog Y.w) Y.A (.compLoop e d (.ref it) acc Y.env) (fun r s' => r = .ok .next ∧ ∃ H', Inv Y pins (wipe σ vs) H' s' ∧ Nx H') s := by
  obtain ⟨W, ⟨m0, w0⟩, turn⟩ := h
  refine codeAny_loop (hq _) (fun n s' => ∃ i H', Inv Y pins (wipe σ vs) H' s' ∧ tn i s'.heap ∧ (∀ b ∈ fp, H' b = none) ∧ W i n H') ?_ m0
    ⟨0, H, I, st, fun b hb => (hf b hb).1, w0⟩
  rintro n s1 ⟨i, H1, I1, st1, n1, w1⟩
  have fpo : ∀ {H' : Hp}, (∀ b ∈ fp, H' b = none) → ∀ b ∈ fp, FpOk Y pins H' b := fun hn b hb => ⟨hn b hb, (hf b hb).2⟩
  refine wpAny_mono (ht (.ref it) (fun s' => ∃ H', Inv Y pins (wipe σ vs) H' s' ∧ Nx H') (fun s' => ∃ m, m < n ∧ ∃ i H', Inv Y pins (wipe σ vs) H' s' ∧ tn i s'.heap ∧ (∀ b ∈ fp, H' b = none) ∧ W i m H') s1 ?_) (fun fin s' q => ?_) fun _ _ z => False.elim z
  case refine_2 =>
    cases fin with
    | done f => exact ⟨by rw [q.1], q.2⟩
    | again c => exact q
  rcases turn i n H1 w1 with ⟨stop, nx⟩ | ⟨go, N1, hN1, step⟩
  · refine thnF (T.done Y rfl rfl rfl hc i pins s1 _ H1 noX I1 (fpo n1) st1 stop) fun r s2 q => ?_
    obtain ⟨rfl, I2⟩ := q
    exact ⟨H1, I2, nx⟩
  refine thnF (T.item Y rfl rfl rfl hc i pins s1 _ H1 noX I1 (fpo n1) st1 go) fun r s2 q => ?_
  obtain ⟨u, rfl, q⟩ := q
  refine thnF q fun _ s3 z => ?_
  obtain ⟨x, H3, I3, r3, y3, st3, n3⟩ := z
  have P3 := I3.pinned (fpo n3) (T.obj _ _ st3)
  refine thnY hxe (pg.run _ s3 _ H3 x u _ P3 r3 (step x H3 y3)) fun _ s4 z => ?_
  obtain ⟨σ4, H4, I4, hw, q4⟩ := z
  refine thnY hxe (pt.run _ s4 σ4 H4 _ I4 q4) fun b s5 z => ?_
  obtain ⟨H5, I5, q5⟩ := z
  have fin : ∀ {σ' : L2.St} {s' : Shared} {H' : Hp}, Inv Y (pins ++ pinsAt fp s3.heap) σ' H' s' → Kn vs σ4 σ' → N1 H' →
      ∃ m, m < n ∧ ∃ i H', Inv Y pins (wipe σ vs) H' s' ∧ tn i s'.heap ∧ (∀ b ∈ fp, H' b = none) ∧ W i m H' := fun {σ' s' H'} I' kn nx => by
    obtain ⟨m', hm, w'⟩ := hN1 H' nx
    have held : ∀ b ∈ fp, ∀ o, s3.heap.get? b = some o → s'.heap.get? b = some o ∧ H' b = none := fun b hb o z =>
      ⟨(I'.pin (b, o) (List.mem_append_right _ (List.mem_append_right _ (mem_pinsAt hb z)))).1, (I'.pin (b, o) (List.mem_append_right _ (List.mem_append_right _ (mem_pinsAt hb z)))).2.1⟩
    refine ⟨m', hm, i + 1, H', I'.unpinned.weak ?_ (fun j v z => ?_), T.keep _ _ _ st3 (fun b hb o z => (held b hb o z).1), fun b hb => ?_, w'⟩
    · rw [kn.1, ← hw, wipe_length]
    · rw [← hw] at z
      exact kn.2 j v z
    · obtain ⟨o, z, _⟩ := T.obj _ _ st3 b hb
      exact (held b hb o z).2
  cases b with
  | false => exact fin I5 ⟨rfl, fun j v z => (wipe_some z).1⟩ q5
  | true =>
    refine hin _ s5 σ4 H5 N1 _ I5 q5 fun s' σ' H' I' kn nx => fin I' ⟨kn.1, fun j v z => ?_⟩ nx
    obtain ⟨z1, z2⟩ := wipe_some z
    refine kn.2 j v ?_
    rw [wipe_out fun y => z2 (hvi j y)]
    exact z1
end
section
variable {P : Program} {w : World} {A : Around} {elt t0 i0 : Expr} {f0 : List Expr} {scope : Scope} {pos : Pos} {it acc : Value} {env : Env}
theorem turn1_0 : compTurn (.ListComp elt [⟨t0, i0, f0, 0⟩] scope pos) 0 it acc env = (do
    standAt i0.pos
    match ← pyNext it with
    | none => pure (.done .next)
    | some v =>
      letOwnedTupleGo t0 it v
      assign t0 env v
      let mut go := true
      for q in f0 do
        if go then go ← isTrue q env (eval q env)
      if go then
        (do let _ ← call (.builtin "list.append") [acc, ← eval elt env])
      again (.compLoop (.ListComp elt [⟨t0, i0, f0, 0⟩] scope pos) 0 it acc env)) := by rfl
theorem so1_0 : TurnsSo (model P w) A env (.ListComp elt [⟨t0, i0, f0, 0⟩] scope pos) 0 acc t0 f0 (inList (model P w) A env elt acc) := by
  intro it k1 k2 s h
  show wpAny _ A ((compTurn (.ListComp elt [⟨t0, i0, f0, 0⟩] scope pos) 0 it acc env).onRaise (fun x => do noteFrame x env; theTreesLotGoes x)) _ _ s
  refine wpAny_noted ?_
  rw [turn1_0]
  refine wpAny_bind (wpAny_standAt (wpAny_bind (thnF h fun r s1 h1 => ?_)))
  cases r with
  | none => exact wpAny_pure ⟨rfl, h1⟩
  | some v =>
    refine wpAny_bind (thnF h1 fun _ s2 h2 => wpAny_bind (thnF h2 fun _ s3 h3 => wpAny_bind (thnF h3 fun go s4 h4 => ?_)))
    cases go with
    | false => exact wpAny_pure ⟨rfl, h4⟩
    | true => exact wpAny_bind (wpAny_bind (thnF h4 fun y s5 h5 => wpAny_bind (thnF h5 fun _ s6 h6 => wpAny_pure (wpAny_pure ⟨rfl, h6⟩))))
end
section
variable {X : Cx} {pins : List (Addr × Obj)} {s : Shared} {σ : L2.St} {H : Hp}
theorem hblk_start {scope : Scope} {own : List (Str × Nat)} {fp : List Addr} (I : Inv X pins σ H s) (ok : BlkOk X.N X.env.scope scope own) (hN : X.N.Nodup) (hfp : ∀ b ∈ fp, FpOk X pins H b ∧ b < s.heap.objs.size) :
    Inv (hblk X s H scope (compEnvC scope (cellsFrom (s.heap.objs.size + 1) scope.names (cloFrom X.env.cells scope.names [])) s.heap.objs.size X.env) fp) [] (wipe σ (own.map (·.2))) H { s with heap := pushCells (s.heap.push { cls := .type "dict", data := .dict #[] }) scope.names } := by
  have J := block_start I ok hN hfp
  refine ⟨J.ok.toTry X.pn noX, J.os, J.bare, J.base, J.loc, J.cell, J.free, J.freeC, fun p hp => ?_, J.hok, J.len⟩
  have hp : p ∈ X.pn := by rw [List.append_nil] at hp; exact hp
  obtain ⟨a1, a2, a3, a4, a5⟩ := I.pin p (List.mem_append_left _ hp)
  refine ⟨pushCells_keeps _ _ _ _ (Heap.get?_push_of_some _ a1), a2, Nat.ne_of_lt (Heap.lt_size a1), fun z => ?_, a5⟩
  rcases List.mem_cons.mp (I.stkSub _ z) with y | y
  · exact a3 y
  · exact a4 y
theorem pe_lcH {elt tg iter : Expr} {ifs : List Expr} {scope : Scope} {own : List (Str × Nat)} {pos : Pos} {wi : TI} {g : TG} {tt : TT} {te : TE} (hc : HotC X) (hN : X.N.Nodup) (hi : PIH X tg iter wi) (ok : BlkOk X.N X.env.scope scope own)
    (b1 : ∀ (s : Shared) (H : Hp) (C : Addr) (cl : List (Str × Addr)) (fp : List Addr), PG (hblk X s H scope (compEnvC scope cl C X.env) fp) tg g) (b2 : ∀ (s : Shared) (H : Hp) (C : Addr) (cl : List (Str × Addr)) (fp : List Addr), PTs (hblk X s H scope (compEnvC scope cl C X.env) fp) ifs tt)
    (b3 : ∀ (s : Shared) (H : Hp) (C : Addr) (cl : List (Str × Addr)) (fp : List Addr), PE (hblk X s H scope (compEnvC scope cl C X.env) fp) elt te)
    (hs : ∀ x, foldedSetIterable iter X.env x = pure x := by intro _; rfl) :
    PE X (.ListComp elt [⟨tg, iter, ifs, 0⟩] scope pos) (tLc wi g tt te (own.map (·.2))) := by
  refine ⟨fun pins s σ H Q I h => ?_⟩
  rw [eval_ListComp]
  have held : ∀ y ∈ scope.names, y.2 = .free → ∃ c, X.env.cells.lookup y.1 = some c := fun y hy z => (ok.free y hy z).elim (fun k => I.ok.has _ (.inl k)) fun k => I.ok.has _ (.inr k)
  refine wpAny_comprehension_free (use := none) rfl hs (closure_ok held) ok.kind (fun y hy z => (ok.uniq y hy).trans (congrArg some z)) (thn (hi.run pins s σ H _ I h) fun xv s1 hx => thn hx fun itv s2 z => ?_)
  obtain ⟨it, fp, tn, J, H2, rfl, I2, T, st2, f2, q⟩ := z
  refine wpAny_newObj_type (newEnv_comp ?_) (by show 0 ≤ sizeLine; decide)
  have hDn : H2 s2.heap.objs.size = none := I2.hok.fresh (Nat.le_refl _)
  have loops := q _ hDn
  generalize hO : ({ cls := .type "list", data := .seq ([] : List Value).toArray } : Obj) = O
  have I3 : Inv X pins σ (upd H2 s2.heap.objs.size (.lst [])) { s2 with heap := s2.heap.push O } := by
    subst hO
    exact I2.laid (t' := s2.toks) (fun b o z => Heap.get?_push_of_some _ z) (Nat.le_refl _) ⟨Nat.zero_le _, [], 0, .nil, Heap.get?_push_size _ rfl⟩
  have low : ∀ b ∈ fp, b < s2.heap.objs.size := fun b hb => by
    obtain ⟨o, z, _⟩ := T.obj _ _ st2 b hb
    exact Heap.lt_size z
  have f3 : ∀ b ∈ fp, FpOk X pins (upd H2 s2.heap.objs.size (.lst [])) b ∧ b < (s2.heap.push O).objs.size := fun b hb =>
    ⟨⟨by rw [upd_ne (Nat.ne_of_lt (low b hb))]; exact (f2 b hb).1, (f2 b hb).2⟩, by rw [Heap.size_push]; exact Nat.lt_succ_of_lt (low b hb)⟩
  have st3 : tn 0 (s2.heap.push O) := T.keep _ _ _ st2 fun b _ o z => Heap.get?_push_of_some _ z
  generalize hs3 : ({ s2 with heap := s2.heap.push O } : Shared) = s3 at I3 ⊢
  have h3 : s3.heap = s2.heap.push O := by rw [← hs3]
  rw [← h3] at f3 st3
  generalize s2.heap.objs.size = D at I3 f3 loops ⊢
  have I4 := hblk_start I3 ok hN f3
  have pg := b1 s3 (upd H2 D (.lst [])) s3.heap.objs.size (cellsFrom (s3.heap.objs.size + 1) scope.names (cloFrom X.env.cells scope.names [])) fp
  have pt := b2 s3 (upd H2 D (.lst [])) s3.heap.objs.size (cellsFrom (s3.heap.objs.size + 1) scope.names (cloFrom X.env.cells scope.names [])) fp
  have pe := b3 s3 (upd H2 D (.lst [])) s3.heap.objs.size (cellsFrom (s3.heap.objs.size + 1) scope.names (cloFrom X.env.cells scope.names [])) fp
  generalize hY : hblk X s3 (upd H2 D (.lst [])) scope (compEnvC scope (cellsFrom (s3.heap.objs.size + 1) scope.names (cloFrom X.env.cells scope.names [])) s3.heap.objs.size X.env) fp = Y at I4 pg pt pe
  have hin := keeps_list (Y := Y) (D := D) (vs := []) (by subst hY; rfl) pe
  have st4 : tn 0 (pushCells (s3.heap.push { cls := .type "dict", data := .dict #[] }) scope.names) := T.keep _ _ _ st3 fun b _ o z => pushCells_keeps _ _ _ _ (Heap.get?_push_of_some _ z)
  have f4 : ∀ b ∈ fp, FpOk Y [] (upd H2 D (.lst [])) b := fun b hb => by
    subst hY
    exact ⟨(f3 b hb).1.1, (I4.ok.exf b hb).1, I4.ok.exfs b hb, .inl hb, fun x c z => (I4.ok.exf b hb).2 x c z, fun p hp => (f3 b hb).1.2.2.2.2.2 p (List.mem_append_left _ (by rw [List.append_nil] at hp; exact hp))⟩
  have hotY : HotC Y := by
    subst hY
    exact hc
  have hl : codeAny (model Y.prog Y.w) Y.A (.compLoop (.ListComp elt [⟨tg, iter, ifs, 0⟩] scope pos) 0 (.ref it) (.ref D) Y.env) (fun r s' => r = .ok .next ∧ ∃ H', Inv Y [] (wipe σ (own.map (·.2))) H' s' ∧ Q (.ref D) H') _ :=
    levH hotY (by subst hY; rfl) (fun it => rfl) so1_0 pg pt hin (fun _ z => nomatch z) I4 (by subst hY; exact T) st4 f4 loops
  subst hY
  have run := codeAny_mono hl (R' := compPost (model X.prog X.w) X.A X.xe none (EP X pins σ Q) (.ref D) s3.heap.objs.size) fun r s6 z => by
    obtain ⟨rfl, H6, I6, q6⟩ := z
    have I7 : Inv X pins σ H6 s6 := I3.call' (ch := fp) I6.os I6.base I6.hok I6.bare fun b hb => ⟨(f3 b hb).1.2.2.2.1, (f3 b hb).1.2.1, (f3 b hb).1.2.2.2.2.1, (f3 b hb).1.2.2.2.2.2⟩
    obtain ⟨m, hn, _⟩ := I6.loc
    obtain ⟨a0, a1, a2, a3, a4, a5⟩ := I3.fpOk (Nat.le_refl _) (show H6 s3.heap.objs.size = none from I6.free)
    exact ⟨m, hn, fun h'' sb => ⟨.ref D, H6, I7.turned (t' := s6.toks) (fun b o hb z => (sb.2 b hb).trans z) a0 a1 a3 a4 a5, rfl, q6⟩⟩
  exact codeAny_compStart_list run (T.self X.A 0 _ _ _ st4 run)
end
end Sq
namespace Sq
open PySem L2 PySem.Spec PyProof.Rows
/-! ### except (C1, C2, C3) as n, the error's context None -/
theorem fly_keeps {B h h' : Heap} {l : List Env} {a : Addr} {Z : Obj → Prop} (x : HandSPX.FlyingZ B l a Z h) (k : ∀ b o, h.get? b = some o → h'.get? b = some o) : HandSPX.FlyingZ B l a Z h' := by
  obtain ⟨x1, x2, x3, oe, vs, T, oT, ts, e1, e2, e3, e4, e5, e6, e7, e8, e9⟩ := x
  exact ⟨fun b o z => k b o (x1 b o z), x2, x3.of_keeps fun b o z _ => ⟨o, k b o z, rfl⟩, oe, vs, T, oT, ts, k _ _ e1, e2, e3, e4, e5, e6, k _ _ e7, e8, e9⟩
/-- what the clause wishes of an exception: that it is caught, and what its suite does -/
def wTup (K : PySem.W.Frag) (i : Nat) (ts : Addr → Value → Option Addr → TS) (cs : List Value) (D : Ends) : WX := fun cls d σ H => PySem.W.exmAny K cls cs = some true ∧
  ∀ a, H a = none → ts a cls d (Clause.ends ⟨.none, some i, ts⟩ D) (σ.set i (some (.ref a))) H
def SuiteN (X : Cx) (sts : List Stmt) (ts : Addr → Value → Option Addr → TS) : Prop :=
  ∀ (a : Addr) (oe : Obj) (cls : Value) (d : Option Addr) (pn : List (Addr × Obj)), L2N.Zn cls d oe → (∃ vs, oe.data = .fields vs) → PSs (X.suite a ((a, oe) :: pn)) sts (ts a cls d)
section
variable {X : Cx}
theorem tup3_ok {a : Addr} {x1 x2 x3 n : Str} {c1 c2 c3 cls : Value} {i : Nat} {ts : Addr → Value → Option Addr → TS} {b₀ : Stmt} {suite : List Stmt} {p1 p2 p3 tpos pos : Pos} {kk : Nat} (hN : X.N.Nodup) (hs : X.stack = X.env :: X.outer) (hf : X.env.frame = some X.env.locals)
    {D : Ends} {pins : List (Addr × Obj)} {σ : L2.St} {H : Hp} {sI s' : Shared} {B h3 : Heap} {d : Option Addr}
    (ok : X.Ok) (J : Inv X pins σ H sI) (nb : ∀ b o, sI.heap.get? b = some o → b ∉ frs X.stack → B.get? b = some o) (up : sI.heap.UpToSlots h3) (na : H a = none) (os : s'.os = sI.os) (ag : AllBare s'.gens)
    (fl : HandSPX.FlyingZ B (X.env :: X.outer) a (L2N.Zn cls d) h3) (n1 : Names X x1 c1) (n2 : Names X x2 c2) (n3 : Names X x3 c3) (hi : X.N[i]? = some n) (hn : X.env.kindOf n = some .local) (hsu : SuiteN X (b₀ :: suite) ts) (w : wTup X.K i ts [c1, c2, c3] D cls d σ H) :
    wpAny (model X.prog X.w) X.A (handleBy (.ref a) X.env [.ExceptHandler (some (.Tuple [.Name x1 p1, .Name x2 p2, .Name x3 p3] kk tpos)) (some n) (b₀ :: suite) pos]) (SP X pins D) X.xe { s' with heap := h3 } := by
  have J3 : Inv X pins σ H { s' with heap := h3 } := J.landed nb fl.1 up os ag
  obtain ⟨o3, v3, e3, z3, d3⟩ := fl.there
  have away : a ∉ frs (X.env :: X.outer) := fun hm => by
    obtain ⟨_, o', e', hnf⟩ := fl.2.2.1.mem hm
    exact hnf _ ((Option.some.inj (e3.symm.trans e')) ▸ d3)
  have nL : a ≠ X.env.locals := fun z => away (List.mem_filterMap.mpr ⟨X.env, List.mem_cons_self, by rw [hf, z]⟩)
  have nF : a ∉ X.fs := fun hm => by
    obtain ⟨y, hy, q⟩ := List.mem_filterMap.mp hm
    exact away (List.mem_filterMap.mpr ⟨y, List.mem_cons_of_mem _ hy, q⟩)
  have S3 := J3.suite e3 d3 na nL nF
  have LT : PySem.W.Looks (model X.prog X.w) h3 (typeOf (.ref a)) cls := fun A Q E s k q => wpAny_typeOf_ref (k _ _ e3) (by rw [z3.1]; exact q)
  have asked : ∀ {x : Str} {c : Value} {np : Pos}, Names X x c → ∀ {Q E : Value → Shared → Prop}, Q c { s' with heap := h3 } → wpAny (model X.prog X.w) (X.A.mark (some (.ref a))) (eval (.Name x np) X.env) Q E { s' with heap := h3 } := fun {x c np} hc {Q E} q => by
    obtain ⟨hg, hd, hm | ⟨hm, hv, hn⟩⟩ := hc
    · exact ld_glob (X := X.suite a ((a, o3) :: (X.pn ++ pins))) S3 hg hm q hd
    · exact ld_blt (X := X.suite a ((a, o3) :: (X.pn ++ pins))) S3 hg hm hv q hn hd
  obtain ⟨hb, yes⟩ := w
  have kp : ∀ b o, h3.get? b = some o → (h3.push { cls := .type "tuple", data := .seq [c1, c2, c3].toArray }).get? b = some o := fun _ _ z => Heap.get?_push_of_some _ z
  refine wpAny_handleBy_cons (codeAny_handlers_test (wpAny_Tuple (wpAny_items_cons (asked n1 (wpAny_items_cons (asked n2 (wpAny_items_cons (asked n3 (wpAny_items_nil ⟨by size_fits, ?_⟩))))))))) (fun q => nomatch q)
  refine ((PySem.W.exm_tup3 (M := model X.prog X.w) (J3.kIn.keeps kp) (LT.keeps kp) (Heap.get?_push_size h3 rfl) hb).here ?_)
  refine codeAny_handlers_suite_as (HandSPX.lands_againZ (s := ({ s' with heap := h3.push { cls := .type "tuple", data := .seq [c1, c2, c3].toArray } } : Shared)) (fly_keeps fl kp) fun h4 fl4 up4 => ?_)
  obtain ⟨o4, v4, e4, z4, d4⟩ := fl4.there
  have S4 := (J.landed (s' := { s' with heap := h4 }) nb fl4.1 ((up.trans (Heap.UpToSlots.of_keeps kp)).trans up4) os ag).suite e4 d4 na nL nF
  refine store_ok (X := X.suite a ((a, o4) :: (X.pn ++ pins))) (v := .ref a) S4 hN hi (.inl hn) rfl (fun s5 S5 => ?_) (.inr hn)
  refine wpAny_mono ((hsu a o4 cls d (X.pn ++ pins) z4 ⟨_, d4⟩).run [] s5 _ H _ S5 (yes a na)) (fun f s6 q => ?_) (fun _ _ z => False.elim z)
  match f, q with
  | .next, ⟨σ6, H6, S6, q6⟩ => exact gone_ok (S6.unsuite ok) hN hi hn fun s7 J7 => ⟨_, _, J7, q6⟩
  | .brk, ⟨σ6, H6, S6, q6⟩ => exact gone_ok (S6.unsuite ok) hN hi hn fun s7 J7 => ⟨_, _, J7, q6⟩
  | .cont, ⟨σ6, H6, S6, q6⟩ => exact gone_ok (S6.unsuite ok) hN hi hn fun s7 J7 => ⟨_, _, J7, q6⟩
  | .ret u, ⟨v6, σ6, H6, S6, r6, q6⟩ => exact gone_ok (S6.unsuite ok) hN hi hn fun s7 J7 => ⟨_, _, _, J7, r6, q6⟩
/-- try: body, except (C1, C2, C3) as n: suite -/
theorem ps_try3 {x1 x2 x3 n : Str} {c1 c2 c3 : Value} {i : Nat} {ts : Addr → Value → Option Addr → TS} {body suite : List Stmt} {b₀ : Stmt} {p1 p2 p3 tpos pos' pos : Pos} {kk : Nat} {tb : WX → TS} (hN : X.N.Nodup) (hs : X.stack = X.env :: X.outer) (hf : X.env.frame = some X.env.locals)
    (n1 : Names X x1 c1) (n2 : Names X x2 c2) (n3 : Names X x3 c3) (hi : X.N[i]? = some n) (hn : X.env.kindOf n = some .local)
    (hb : ∀ (W : WX) (pn : List (Addr × Obj)) (xe : Value → Shared → Prop), L2N.Takes (X.tr pn xe) W → PassesOwn (model X.prog X.w) X.A X.env xe → PSs (X.tr pn xe) body (tb W)) (hsu : SuiteN X (b₀ :: suite) ts) :
    PS X (.Try body [.ExceptHandler (some (.Tuple [.Name x1 p1, .Name x2 p2, .Name x3 p3] kk tpos)) (some n) (b₀ :: suite) pos'] [] [] pos) (fun D σ H => tb (wTup X.K i ts [c1, c2, c3] D) D σ H) := by
  refine ⟨fun pins s σ H D I h => wpAny_Try_except ?_⟩
  have ok := I.ok
  have hfr : X.A.frames = some (X.env :: X.outer) := by rw [ok.frames, hs]
  have run := (hb (wTup X.K i ts [c1, c2, c3] D) (X.pn ++ pins) (fun e s₁ => wpAny (model X.prog X.w) X.A (noteFrame e X.env) (fun _ s₂ => wpAny (model X.prog X.w) X.A (setFlight e none) (fun _ s₃ => wpAny (model X.prog X.w) X.A (handleBy e X.env [.ExceptHandler (some (.Tuple [.Name x1 p1, .Name x2 p2, .Name x3 p3] kk tpos)) (some n) (b₀ :: suite) pos']) (SP X pins D) X.xe s₃) X.xe s₂) X.xe s₁)
    (fun u s' x => by
      obtain ⟨a, B, sI, pins', σ', H', cls, d, rfl, J', nb, up, sky, na, os, ag, w⟩ := x
      have sky' : Sky B (X.env :: X.outer) a (L2N.Zn cls d) X.env.locals s'.heap := by rw [← hs]; exact sky
      show wpAny (model X.prog X.w) X.A (noteFrame (.ref a) X.env) _ _ _
      exact L2N.Sky.land L2N.Zn.steady hfr hf sky' fun h3 fl3 up3 => tup3_ok hN hs hf ok (J'.ofTry ok) nb (up.trans up3) na os ag fl3 n1 n2 n3 hi hn hsu w) PassesOwn.looking).run [] s σ H D (I.toTry _) h
  refine wpAny_mono run (fun f s1 q => ?_) (fun _ _ z => z)
  match f, q with
  | .next, ⟨σ', H', J', q⟩ => exact wpAny_execs_nil ⟨σ', H', J'.ofTry ok, q⟩
  | .brk, ⟨σ', H', J', q⟩ => exact ⟨σ', H', J'.ofTry ok, q⟩
  | .cont, ⟨σ', H', J', q⟩ => exact ⟨σ', H', J'.ofTry ok, q⟩
  | .ret u, ⟨v, σ', H', J', r, q⟩ => exact ⟨v, σ', H', J'.ofTry ok, r, q⟩
end
end Sq
namespace Sq
open PySem L2 PySem.Spec PyProof.Rows L2H
/-! ### a function called while the error p is handled; its promise may speak of p -/
def FnP (P : Program) (w : World) (K : PySem.W.Frag) (mg : Str → Option Value) (base : Heap) (k : Nat) (f : Addr) (sp : Addr × Obj → Sp) : Prop :=
  ∀ (p : Addr × Obj) (A : Around) (fr : List Env) (s : Shared) (H : Hp) (us : List Value) (vs : List V) (Q : VK), RoomH k A → Hot1 A p → PinOk fr H s p → Env0 P w K mg base A fr s H → Vals vs us → sp p vs H Q E0 →
    codeAny (model P w) A (.call (.ref f) ⟨us, []⟩) (CR CX0 fr P w H s Q E0) s
section
variable {P : Program} {w : World} {K : PySem.W.Frag} {mg : Str → Option Value} {base : Heap} {k : Nat} {f : Addr} {fd : FuncData} {sp : Addr × Obj → Sp} {x qual : Str} {st : Stmt} {N ps : List Str}
theorem FnP.of (F : Fun K x qual st f fd) (S : FnScope N ps (defScope st)) (b : Binds K fd ps []) (len : ∀ p vs H Q, sp p vs H Q E0 → vs.length = ps.length)
    (hbody : ∀ (p : Addr × Obj) (cdv : Value) (A : Around) (fr : List Env) (s : Shared) (H : Hp) (vs : List V) (Q : VK), Hot1 A p → RoomH k (A.deeper (envOfC qual (defScope st) s.heap.objs.size f cdv)) → sp p vs H Q E0 →
      ∃ t, PSs (cxH CX0 P w K mg base N qual (defScope st) f cdv A fr s H E0 p).nox (defBody st) t ∧ t { nx := fun _ H' => Q .non H', rt := Q } (L2.start N vs) H) : FnP P w K mg base (k + 1) f sp := by
  intro p A fr s H us vs Q hr hot hpin e0 r hsp
  obtain ⟨oc, od, kV, doc, pm, an, cdv, ct, osl, rfl, lk, hcd⟩ := F.ex
  have hl : vs.length = ps.length := len p vs H Q hsp
  have kin : K.In s.heap := e0.mod.kin.keeps fun b o e => (e0.bs b o e).1
  have lim : s.heap.NoLimit := e0.mod.nolimit.keeps fun b o e => (e0.bs b o e).1
  have kinds : ∀ y ∈ ps.zip us, (defScope st).names.lookup y.1 = some .local ∨ ((defScope st).names.lookup y.1 = some .cell ∧ ((cellsFrom (s.heap.objs.size + 1) (defScope st).names []).lookup y.1).isSome = true) := fun ⟨n, v⟩ hy =>
    (S.par n (List.of_mem_zip hy).1).elim .inl fun q => .inr ⟨q, PySem.W.cellsFrom_some _ _ _ (.inl q)⟩
  have bt := b s us kin (by rw [List.append_nil, ← r.length]; exact hl)
  rw [List.append_nil] at bt
  refine codeAny_call_function hr.depth (kin _ _ lk) rfl S.co S.gen rfl (PySem.W.codeRec_of kin hcd) (bt _ _ _ _ (wpAny_newFunctionEnv_cells S.kind kinds fun env he s1 y => ?_))
  subst he
  obtain ⟨t, ht, q⟩ := hbody p cdv A fr s H vs Q hot (hr.deeper _) hsp
  have I := inv_startH (CX := CX0) (E := E0) S hpin e0 hl r y
  refine ⟨lim.keeps y.toInCall.keep, codeAny_func (wpAny_mono (ht.nox.run [] s1 _ H _ I q) (fun fl s' hs => ?_) fun e s' hs => hs)⟩
  match fl, hs with
  | .ret u, ⟨v, σ', H', J, rv, z⟩ => exact ⟨v, H', J.os, J.bare, J.base, J.hok, rv, z⟩
  | .next, ⟨σ', H', J, z⟩ => exact ⟨.non, H', J.os, J.bare, J.base, J.hok, rfl, z⟩
  | .brk, ⟨_, _, _, z⟩ => exact z.elim
  | .cont, ⟨_, _, _, z⟩ => exact z.elim
end
/-- with all that a call asks -/
structure FBP (P : Program) (w : World) (K : PySem.W.Frag) (mg : Str → Option Value) (base : Heap) (x : Str) (k : Nat) (sp : Addr × Obj → Sp) : Prop where
  ex : ∃ f : Addr, FnP P w K mg base k f sp ∧ mg x = some (.ref f) ∧ PySem.W.keepIn K (.ref f) = true
section
variable {X : Cx} {j k : Nat} {x : Str} {p pos : Pos} {e : Expr} {es : List Expr} {t : TA} {sp : Addr × Obj → Sp} {pe : Addr × Obj}
theorem pe_fbP (F : FBP X.prog X.w X.K X.mg X.base x k sp) (hr : RoomH j X.A) (hk : k ≤ j) (hot : Hot1 X.A pe) (hp : pe ∈ X.pn) (hg : Gl X x) (ha : PA X (e :: es) t) (hdb : (x == ("__debug__" : Str)) = false := by decide)
    (he : starEach (e :: es) X.env = (false, eval e X.env) :: starEach es X.env := by rfl) (hpl : (backTo pos (starEach es X.env)).any (·.1) = false := by rfl) :
    PE X (.Call (.Name x p) (e :: es) [] pos) (tCallG (sp pe) t) := by
  obtain ⟨f, G, hm, kk⟩ := F.ex
  constructor
  intro pins s σ H Q I h
  refine wpAny_Call_Name_kw (ld_glob I hg hm (PySem.W.callWith_K (h₀ := X.base) I.ok.mod.kin kk ?_ he hpl) hdb)
  refine thn (ha.run pos pins s σ H _ I h) ?_
  rintro us s1 ⟨vs, H1, I1, r, q⟩
  obtain ⟨a1, a2, a3, a4, a5⟩ := I1.pin pe (List.mem_append_left _ hp)
  have pin : PinOk X.stack H1 s1 pe := ⟨a1, a2, fun hm => (List.mem_cons.mp (I1.stkSub _ hm)).elim a3 a4, a5⟩
  refine ⟨I1.kIn, wpAny_call (codeAny_mono (G pe X.A X.stack s1 H1 us vs Q (hr.mono hk) hot pin I1.env0 r q) fun z s' hz => ?_)⟩
  match z, hz with
  | .error _, hz => exact False.elim hz
  | .ok (.ret _), hz => exact I1.after hz
  | .ok .next, hz => exact False.elim hz
  | .ok .brk, hz => exact False.elim hz
  | .ok .cont, hz => exact False.elim hz
end
/-! ### isinstance(e, C) and e.f of the handled error, wherever it is pinned -/
section
variable {X : Cx} {pe : Addr × Obj} {cls : Value} {d : Option Addr}
theorem call_isP (hp : pe ∈ X.pn) (hz : L2N.Zn cls d pe.2) (hf : ∃ vs, pe.2.data = .fields vs) : CallR X (.builtin "isinstance") (rIsX X.K pe.1 cls d) := by
  intro pins s σ H xs us Q I r h
  obtain ⟨D, dd, fs, c, cv, b, rfl, C, rfl, ea, rfl, hcv, e, q⟩ := h
  obtain ⟨u1, u2, rfl, r1, r2⟩ := vals2 r
  cases (show u1 = Value.ref pe.1 from r1)
  have ec := hcv _ r2
  subst ec
  have hget := (I.pin pe (List.mem_append_left _ hp)).1
  obtain ⟨vs, hv⟩ := hf
  have hx : ObjOk X.prog X.w H s.heap dd (.xd fs) := I.hok dd _ ea
  obtain ⟨mA, hns, hr⟩ := hx
  obtain ⟨od, ho, hl⟩ := lookIn_ns hns
  have J : PySem.W.InstAt s.heap pe.1 pe.2 D (some od) := ⟨hget, hz.1, by unfold PySem.W.notCls; rw [hv] <;> rfl, by rw [hz.2.1]; exact ho⟩
  obtain ⟨cd, hcd, _⟩ := PySem.W.any_some C.hd
  exact PySem.W.kia_one (PySem.W.kitx_exc (by rw [hcd]; rfl) C.hg C.hk C.hs C.ha C.hn C.ht C.hm) I.kIn J e (fun z => nomatch z) fun tk => ⟨.bl b, H, I.kept (t' := tk) fun _ _ z => z, rfl, q⟩
theorem pe_xfP {C : Addr} {e : Expr} {te : TE} {pos : Pos} {n : Str} (T : XfC X.K C) (hno : PySem.W.findIn X.K (.ref C) n = some none) (hp : pe ∈ X.pn) (hz : L2N.Zn cls d pe.2) (hf : ∃ vs, pe.2.data = .fields vs) (he : PE X e te)
    (hb : attributeBase e n X.env (eval e X.env) = eval e X.env := by rfl) : PE X (.Attribute e n pos) (tXf pe.1 cls d C n te) := by
  refine ⟨fun pins s σ H Q I h => attr_of hb (thn (he.run pins s σ H _ I h) fun u s1 hh => ?_)⟩
  obtain ⟨x, H1, I1, rx, rfl, rfl, dd, fs, v, rfl, ea, l, q⟩ := hh
  cases (show u = Value.ref pe.1 from rx)
  have ha := (I1.pin pe (List.mem_append_left _ hp)).1
  obtain ⟨vs, hd⟩ := hf
  have hx : ObjOk X.prog X.w H1 s1.heap dd (.xd fs) := I1.hok dd _ ea
  obtain ⟨mA, hns, hr⟩ := hx
  obtain ⟨od, ho, hl⟩ := lookIn_ns hns
  obtain ⟨u, hu, ru⟩ := RelO.some_of (v := v) (o := mA n) (by rw [← l]; exact hr n)
  have J : PySem.W.InstAt s1.heap pe.1 pe.2 C (some od) := ⟨ha, hz.1, by unfold PySem.W.notCls; rw [hd] <;> rfl, by rw [hz.2.1]; exact ho⟩
  exact HandSPX.exc_get I1.kIn J T.ga T.gg T.exC (PySem.W.findObj_own T.hdC hno rfl (by rw [hl, hu])) (handed_of ru) ⟨v, H1, I1.tok _, ru, q⟩
end
end Sq
namespace Sq
open PySem L2 PySem.Spec PyProof.Rows L2H LamX
/-! ### raise C(e), C an own class with an __init__, the error's context None -/
section
variable {X : Cx} {e : Expr} {es : List Expr} {ta : TA} {p pos : Pos}
theorem pmk_oexN {CX : CXT} {x : Str} {C fI : Addr} {k : Nat} {fd : FuncData} {ps : List Str} {sp : Sp} (T : OexC X.K C) (iC : PySem.W.findIn X.K (.ref C) "__init__" = some (some (.ref fI))) (tI : PySem.W.typeIn X.K (.ref fI) = some (.type "function"))
    (F1 : FnOk X.prog X.w X.K X.mg X.base CX k fI fd ps sp) (hr : Room (k + 1) X.A) (hb : Binds X.K fd ps []) (hx : Passes CX X (fun _ _ _ => False)) (hg : Gl X x) (hm : X.mg x = some (.ref C)) (ha : PA X (e :: es) ta)
    (hdb : (x == ("__debug__" : Str)) = false := by decide) (he : starEach (e :: es) X.env = (false, eval e X.env) :: starEach es X.env := by rfl) (hpl : (backTo pos (starEach es X.env)).any (·.1) = false := by rfl) :
    L2N.PMk X (.Call (.Name x p) (e :: es) [] pos) (tMkO C sp [] ta) := by
  intro pins s σ H Q I h
  obtain ⟨nm, q, N, bs, bm, sn, sub, ab, col, dd, k0, k1, k2, k3, k5, hC, hbm⟩ := T.cls
  refine wpAny_Call_Name_kw (ld_glob I hg hm (PySem.W.callWith_K (h₀ := X.base) I.ok.mod.kin T.kC (thn (ha.run pos pins s σ H _ I h) fun us s1 z => ?_) he hpl) hdb)
  obtain ⟨vs, H1, I1, r1, _, q1⟩ := z
  refine ⟨I1.kIn, ?_⟩
  show wpAny _ _ (call (.ref C) us) _ _ _
  obtain ⟨hp, g, dr, tk, os⟩ := s1
  have new : H1 (hp.objs.size + 1) = none := I1.hok.fresh (Nat.le_succ _)
  have asked := q1 (hp.objs.size + 1) new
  have old : ∀ b o, hp.get? b = some o → ((hp.push (PySem.W.kdv_tup us)).push (PySem.HandSPX.excO C hp.objs.size)).get? b = some o := fun b o e => Heap.get?_push_of_some _ (Heap.get?_push_of_some _ e)
  have there : ((hp.push (PySem.W.kdv_tup us)).push (PySem.HandSPX.excO C hp.objs.size)).get? (hp.objs.size + 1) = some (PySem.HandSPX.excO C hp.objs.size) := by heap_get
  have I2 : Inv X pins σ (upd H1 (hp.objs.size + 1) (exo (hp.objs.size + 1) C none)) ⟨(hp.push (PySem.W.kdv_tup us)).push (PySem.HandSPX.excO C hp.objs.size), g, dr, tk, os⟩ :=
    I1.laid (t' := tk) (a := hp.objs.size + 1) (o := exo (hp.objs.size + 1) C none) (h' := (hp.push (PySem.W.kdv_tup us)).push (PySem.HandSPX.excO C hp.objs.size)) old (Nat.le_succ _) (exo_ok there)
  have r2 : Vals (V.ref (hp.objs.size + 1) :: (vs ++ [])) (Value.ref (hp.objs.size + 1) :: (us ++ [])) := .cons rfl (r1.append .nil)
  have many : (Value.ref (hp.objs.size + 1) :: us ++ []).length = ps.length := by
    have z := r2.length
    rw [F1.len _ _ _ _ asked] at z
    exact z.symm
  have bt := hb _ (Value.ref (hp.objs.size + 1) :: us) I2.kIn many
  rw [List.cons_append] at bt
  have few : us.length ≤ sizeLine := by
    rw [← Paired.length r1, sizeLine_eq]
    omega
  refine wpAny_call (PySem.HandSPX.call_own PySem.F.excBase_ValueError (fun Y => PySem.HandSPX.refsVE_contains Y bm hbm) (I1.kIn _ _ hC) (PySem.W.looks_findIn I1.kIn iC) (fun self => PySem.W.bind_fn I1.kIn self tI) few
    (codeAny_mono (F1.run _ X.stack _ _ ⟨Value.ref (hp.objs.size + 1) :: us, []⟩ (Value.ref (hp.objs.size + 1) :: (us ++ [])) _ _ (fun _ _ _ => False) (hr.make C us []) (I2.env0.make C us []) bt r2 asked) fun r s' z => ?_))
  match r, z with
  | .error er, z => exact hx pins σ _ _ er s' I2 z
  | .ok (.ret u), ⟨v, H2, os2, bare2, un2, hok2, rv, ev, d, fs, ea, ed, hd1, q2⟩ =>
    subst ev
    obtain ⟨h2, g2, d2, t2, os'⟩ := s'
    obtain ⟨t0, G, J, kG, ge, hoe, na⟩ := mk_end0 (d2 := d2) (t2 := t2) I1 (Nat.le_succ _) old un2 hok2 os2 bare2 ea ed hd1
    exact ⟨rv, _, _, _, ⟨G, g2, d2, t2, os'⟩, _, .ref C, some d, rfl, J, kG, ge, hoe, ⟨rfl, rfl, fun vs' e' => by cases e'; rfl⟩, rfl, rfl, na, rfl, bare2, raises_own T.exC T.tyC, q2⟩
  | .ok .next, z => exact z.elim
  | .ok .brk, z => exact z.elim
  | .ok .cont, z => exact z.elim
theorem ps_errN {W : WX} {x f : Str} {C : Addr} {te : TE} {k : Nat} {pos2 : Pos} (T : ErrC X.prog X.w X.K X.mg X.base x f C) (hc : X.calm = true) (tk : L2N.Takes X W) (hr : Room k X.A) (hk : 2 ≤ k) (hg : Gl X x) (he : PE X e te)
    (hdb : (x == ("__debug__" : Str)) = false := by decide) (hst : starEach (e :: []) X.env = (false, eval e X.env) :: starEach [] X.env := by rfl) (hpl : (backTo pos (starEach [] X.env)).any (·.1) = false := by rfl) :
    PS X (.Raise (some (.Call (.Name x p) [e] [] pos)) none pos2) (fun _ σ H => tMkO C (spErrInit C f) [] (tCons te tNil) σ H fun cls d H' => W cls d σ H') := by
  obtain ⟨fI, fd, ps, iC, tI, F, b⟩ := T.ex
  exact L2N.ps_raise (pos := pos2) hc tk (pmk_oexN (p := p) (pos := pos) T.oex iC tI F (hr.mono hk) b pass0 hg T.m (pa_cons he pa_nil (hs := hst)) hdb hst hpl)
end
/-! ### a def that may raise, the errors' context None -/
theorem Fun.okN {P : Program} {w : World} {K : PySem.W.Frag} {mg : Str → Option Value} {base : Heap} {x qual : Str} {st : Stmt} {f : Addr} {fd : FuncData} {N ps : List Str} {k : Nat} {sp : Sp} (F : Fun K x qual st f fd) (S : FnScope N ps (defScope st)) (len : ∀ vs H Q E, sp vs H Q E → vs.length = ps.length)
    (hbody : ∀ (cdv : Value) (A : Around) (outer : List Env) (s : Shared) (H : Hp) (vs : List V) (Q : VK) (E : XK), Room k (A.deeper (envOfC qual (defScope st) s.heap.objs.size f cdv)) → sp vs H Q E →
      ∃ t, PSs (cxOf (L2N.CX P w) P w K mg base N qual (defScope st) f cdv A outer s H E) (defBody st) t ∧ t { nx := fun _ H' => Q .non H', rt := Q } (L2.start N vs) H) : FnOk P w K mg base (L2N.CX P w) (k + 1) f fd ps sp := by
  obtain ⟨oc, od, kV, doc, pm, an, cdv, ct, osl, rfl, lk, hcd⟩ := F.ex
  exact fn_of lk hcd S len fun A outer s H vs Q E hr hsp => hbody cdv A outer s H vs Q E hr hsp
/-! ### f(lambda: body), the lambda's errors caught within f -/
abbrev lamX (X : Cx) (A : Around) (outer : List Env) (s : Shared) (H : Hp) (E : XK) (scope : Scope) (f c' : Addr) : Cx :=
  (lamCx X A outer s H E scope f c').tr [] (fun e s' => wpAny (model X.prog X.w) (A.deeper (lamEnv X scope s.heap.objs.size f c')) (leaving (lamEnv X scope s.heap.objs.size f c') e) (fun _ s'' => L2N.CX X.prog X.w outer H s E e s'') (fun e' s'' => L2N.CX X.prog X.w outer H s E e' s'') s')
/-- around the lambda's body its errors are taken -/
theorem lam_takes {X : Cx} {A : Around} {outer : List Env} {s : Shared} {H : Hp} {E : XK} {scope : Scope} {f c' : Addr} : L2N.Takes (lamX X A outer s H E scope f c') (fun cls d _ H => E cls d H) := L2N.takes_of rfl rfl rfl rfl
section
variable {X : Cx} {pins : List (Addr × Obj)} {σ : L2.St} {H HZ : Hp} {s s1 : Shared}
/-- a(), a the parameter that holds the lambda -/
theorem pe_actN {Ng : List Str} {qg : Str} {sg : Scope} {g f c' : Addr} {cdg pm ctv : Value} {params : Arguments} {body : Expr} {scope : Scope} {k i : Nat} {a : Str} {pn : List (Addr × Obj)} {xe : Value → Shared → Prop} {W : WX} {E : XK} {tb : TE} {p1 p2 : Pos}
    (I : Inv X pins σ H s) (L : LamS X.env.scope scope) (hf : s.heap.get? f = some (PySem.W.kla_obj "<lambda>" (X.env.qual ++ "<lambda>") params body scope (cloFrom X.env.cells scope.names []) pm c' ctv)) (hfn : H f = none) (hfr : f ∉ frs X.stack)
    (hbind : bindArgs (PySem.W.kla_fn "<lambda>" (X.env.qual ++ "<lambda>") params body scope (cloFrom X.env.cells scope.names []) pm (.ref c') ctv) ⟨[], []⟩ = pure [])
    (tk : L2N.Takes ((cxOf CX0 X.prog X.w X.K X.mg X.base Ng qg sg g cdg X.A X.stack s H E0).tr pn xe) W) (hW : ∀ cls d σ' H', E cls d H' → W cls d σ' H') (hr : Room (k + 1) (X.A.deeper (envOfC qg sg s.heap.objs.size g cdg)))
    (hbody : ∀ (A : Around) (outer : List Env) (s : Shared) (H : Hp), Room k (A.deeper (lamEnv X scope s.heap.objs.size f c')) → PE (lamX X A outer s H E scope f c') body tb)
    (hN : Ng[i]? = some a) (hv : Vis sg a) (hd : (a == ("__debug__" : Str)) = false := by decide) (hcd : (a == ("__classdict__" : Str)) = false := by decide) :
    PE ((cxOf CX0 X.prog X.w X.K X.mg X.base Ng qg sg g cdg X.A X.stack s H E0).tr pn xe) (.Call (.Name a p1) [] [] p2)
      (fun σZ HZ Q => σZ[i]? = some (some (.ref f)) ∧ HZ c' = some (CodeO c' (X.env.qual ++ "<lambda>")) ∧ tb σ HZ Q) := by
  refine ⟨fun pinsZ sZ σZ HZ Q IZ ⟨hs, hc, ht⟩ => ?_⟩
  refine wpAny_Call_Name_kw (thn ((pe_var (pos := p1) (i := i) hN hv hd hcd).run pinsZ sZ σZ HZ (fun v H1 => v = .ref f ∧ H1 = HZ) IZ ⟨.ref f, hs, rfl, rfl⟩) fun u s1 z => ?_)
  obtain ⟨v, H1, I1, r1, rfl, rfl⟩ := z
  cases (show u = Value.ref f from r1)
  have there : s1.heap.get? f = some (PySem.W.kla_obj "<lambda>" (X.env.qual ++ "<lambda>") params body scope (cloFrom X.env.cells scope.names []) pm c' ctv) := I1.base.keep f _ hf hfn hfr (fun z => nomatch (show f ∈ ([] : List Addr) from z))
  have un : Un (frs X.stack) [] H H1 s.heap s1.heap := I1.base
  obtain ⟨⟨oc, vs, t, hoc, hdc, hvc⟩, _, _⟩ := I1.hok c' _ hc
  have rc : codeAny (model X.prog X.w) (X.A.deeper (envOfC qg sg s.heap.objs.size g cdg)) (.call (.ref f) ⟨[], []⟩) (CR (L2N.CX X.prog X.w) (envOfC qg sg s.heap.objs.size g cdg :: X.stack) X.prog X.w H1 s1 Q E) s1 := by
    refine PySem.W.kla_callFunE hr.depth there rfl L.co L.gen rfl ⟨c', oc, vs, t, rfl, hoc, hdc, hvc⟩ ?_
    rw [hbind]
    refine wpAny_pure (wpAny_newFunctionEnv (fun y hy => (L.own y hy).2) (fun y hy => absurd hy (by simp)) (fun h₁ hns hsb => ⟨I1.nolimit.fresh _ hsb, ?_⟩) L.kind)
    have kp : ∀ b o, s1.heap.get? b = some o → h₁.get? b = some o := fun b o e => hsb.extBut b o (Nat.ne_of_lt (Heap.lt_size e)) (Heap.get?_push_of_some _ e)
    have J0 : Inv (lamCx X (X.A.deeper (envOfC qg sg s.heap.objs.size g cdg)) (envOfC qg sg s.heap.objs.size g cdg :: X.stack) s1 H1 E scope f c') [] σ H1 { s1 with heap := h₁, toks := s1.toks + ([] : List (Str × Value)).length } := lam_start2 I L I1.env0 hr.hd un hns kp
    have J := J0.toTry (fun e s' => wpAny (model X.prog X.w) ((X.A.deeper (envOfC qg sg s.heap.objs.size g cdg)).deeper (lamEnv X scope s1.heap.objs.size f c')) (leaving (lamEnv X scope s1.heap.objs.size f c') e) (fun _ s'' => L2N.CX X.prog X.w (envOfC qg sg s.heap.objs.size g cdg :: X.stack) H1 s1 E e s'') (fun e' s'' => L2N.CX X.prog X.w (envOfC qg sg s.heap.objs.size g cdg :: X.stack) H1 s1 E e' s'') s')
    refine PySem.W.kla_codeExpr (wpAny_mono ((hbody _ _ s1 H1 (hr.deeper _)).run [] _ _ H1 Q J ht) (fun v s' hq => ?_) fun e s' hq => hq)
    obtain ⟨w', H', J', rv, q⟩ := hq
    exact ⟨w', H', J'.os, J'.bare, J'.base, J'.hok, rv, q⟩
  refine PySem.W.callWith_F0 ⟨_, _, _, _, there⟩ (wpAny_call (codeAny_mono rc fun r s' hq => ?_))
  match r, hq with
  | .error e, hq => exact L2N.passes_call tk hW pinsZ σZ H1 s1 e s' I1 hq
  | .ok (.ret u), hq => exact I1.after hq
  | .ok .next, hq => exact hq.elim
  | .ok .brk, hq => exact hq.elim
  | .ok .cont, hq => exact hq.elim
end
/-- the def that calls the lambda which it got: TT is what it makes of the lambda's reading -/
def AskN (X : Cx) (Ng : List Str) (x : Str) (sg : Scope) (g : Addr) (cdg : Value) (bg : List Stmt) (a : Str) (q : Str) (k : Nat) (TT : Addr → (XK → Hp → VK → Prop) → Hp → VK → Prop) : Prop :=
  ∀ (f c' : Addr) (s : Shared) (H : Hp) (Q : VK) (tl : XK → Hp → VK → Prop), Room (k + 1) (X.A.deeper (envOfC x sg s.heap.objs.size g cdg)) →
    (∀ (W : WX) (pn : List (Addr × Obj)) (xe : Value → Shared → Prop) (E : XK) (p1 p2 : Pos), L2N.Takes ((cxOf CX0 X.prog X.w X.K X.mg X.base Ng x sg g cdg X.A X.stack s H E0).tr pn xe) W → (∀ cls d σ' H', E cls d H' → W cls d σ' H') →
      PE ((cxOf CX0 X.prog X.w X.K X.mg X.base Ng x sg g cdg X.A X.stack s H E0).tr pn xe) (.Call (.Name a p1) [] [] p2) (fun σZ HZ Q => σZ[0]? = some (some (.ref f)) ∧ HZ c' = some (CodeO c' q) ∧ tl E HZ Q)) →
    H c' = some (CodeO c' q) → TT f tl H Q →
    ∃ t, PSs (cxOf CX0 X.prog X.w X.K X.mg X.base Ng x sg g cdg X.A X.stack s H E0).nox bg t ∧ t { nx := fun _ H' => Q .non H', rt := Q } (L2.start Ng [.ref f]) H
def tLamN (T : List (Addr × Str)) (TT : Addr → (XK → Hp → VK → Prop) → Hp → VK → Prop) (t : XK → TE) : TE := fun σ H Q => Tabs T H ∧ ∀ f H1, ExtN H H1 → Tabs T H1 → TT f (fun E H' Q' => t E σ H' Q') H1 Q
section
variable {X : Cx}
theorem pe_lamN {T : List (Addr × Str)} {TT : Addr → (XK → Hp → VK → Prop) → Hp → VK → Prop} {x a : Str} {g c P : Addr} {k : Nat} {pg : Arguments} {bg : List Stmt} {sg : Scope} {dV kV doc pm cdv ct oc : Value} {an od : Option Addr} {osl : Array (Option Value)} {Ng : List Str}
    {params : Arguments} {body : Expr} {scope : Scope} {t : XK → TE} {p lpos pos : Pos} (hg : Gl X x) (hm : X.mg x = some (.ref g)) (hk : PySem.W.keepIn X.K (.ref g) = true)
    (lk : X.K.lookup g = some ⟨oc, od, .func (PySem.W.fnOf x x pg bg sg dV kV doc pm an cdv ct), osl⟩) (hcg : PySem.W.codeIn X.K cdv x = true) (hb : L2.Binds X.K (PySem.W.fnOf x x pg bg sg dV kV doc pm an cdv ct) [a] []) (Sg : FnScope Ng [a] sg) (hNg : Ng[0]? = some a) (hva : Vis sg a)
    (hG : AskN X Ng x sg g cdv bg a (X.env.qual ++ "<lambda>") k TT)
    (TB : TabB X.base X.mg c P) (hcode : X.env.code = .ref c) (hmT : (P, X.env.qual ++ "<lambda>") ∈ T) (hu : ∀ p ∈ T, p.1 = P → p.2 = X.env.qual ++ "<lambda>") (hr : Room (k + 2) X.A) (L : LamS X.env.scope scope) (hdef : defaultsOf params X.env = ([], []))
    (hbind : ∀ (q : Str) (cl : List (Str × Addr)) (pm cv ctv : Value), bindArgs (PySem.W.kla_fn "<lambda>" q params body scope cl pm cv ctv) ⟨[], []⟩ = pure [])
    (hbody : ∀ (A : Around) (outer : List Env) (s : Shared) (H : Hp) (E : XK) (f c' : Addr), Room k (A.deeper (lamEnv X scope s.heap.objs.size f c')) → PE (lamX X A outer s H E scope f c') body (t E))
    (hdb : (x == ("__debug__" : Str)) = false := by decide) (hd : (a == ("__debug__" : Str)) = false := by decide) (hcd : (a == ("__classdict__" : Str)) = false := by decide) :
    PE X (.Call (.Name x p) [.Lambda params body scope lpos] [] pos) (tLamN T TT t) := by
  refine ⟨fun pins s σ H Q I ⟨hT, h⟩ => ?_⟩
  refine wpAny_Call_Name_kw (ld_glob I hg hm (PySem.W.callWith_K (h₀ := X.base) I.ok.mod.kin hk ?_ (by rfl) (by rfl)) hdb)
  show wpAny _ _ (spliced ((false, eval (.Lambda params body scope lpos) X.env) :: backTo pos (starEach [] X.env))) _ _ s
  refine Calls.spliced_cons (lam_make2 I TB hcode hmT hu hT hdef (L.has I.ok) fun f c' pm' ctv H1 s' I1 eN T1 hf hfn hfr hco => Calls.spliced_nil ⟨I1.kIn, ?_⟩)
  have rc : codeAny (model X.prog X.w) X.A (.call (.ref g) ⟨[.ref f], []⟩) (CR CX0 X.stack X.prog X.w H1 s' Q E0) s' := by
    refine run_ofS (N := Ng) (ps := [a]) (us := [.ref f]) (vs := [.ref f]) lk hcg Sg hr I1.env0 (hb s' [.ref f] I1.kIn rfl) (.cons rfl .nil) rfl fun hr' => ?_
    obtain ⟨t', ht', hq'⟩ := hG f c' s' H1 Q (fun E H' Q' => t E σ H' Q') hr' (fun W pn xe E p1 p2 tk hW => pe_actN (i := 0) I1 L hf hfn hfr (hbind _ _ _ _ _) tk hW hr' (fun A outer s H hr2 => hbody A outer s H E f c' hr2) hNg hva hd hcd) hco (h f H1 eN T1)
    exact ⟨t', ht'.nox, hq'⟩
  refine wpAny_call (codeAny_mono rc fun r s2 hq => ?_)
  match r, hq with
  | .error e, hq => exact (show False from hq).elim
  | .ok (.ret u), hq => exact I1.after hq
  | .ok .next, hq => exact hq.elim
  | .ok .brk, hq => exact hq.elim
  | .ok .cont, hq => exact hq.elim
end
end Sq
namespace Sq
open PySem L2 PySem.Spec PyProof.Rows LamX
/-! ### defs that make lambdas: their code object is known -/
structure FunT (K : PySem.W.Frag) (x qual : Str) (st : Stmt) (f : Addr) (fd : FuncData) (c : Addr) : Prop where
  ex : ∃ (oc : Value) (od : Option Addr) (kV doc pm : Value) (an : Option Addr) (ct : Value) (osl : Array (Option Value)),
    fd = PySem.W.fnOf x qual (defArgs st) (defBody st) (defScope st) .none kV doc pm an (.ref c) ct ∧ K.lookup f = some ⟨oc, od, .func fd, osl⟩ ∧ PySem.W.codeIn K (.ref c) qual = true
  kp : PySem.W.keepIn K (.ref f) = true
theorem FnG.ofT {P : Program} {w : World} {K : PySem.W.Frag} {mg : Str → Option Value} {base : Heap} {k : Nat} {f c : Addr} {fd : FuncData} {sp : Sp} {x qual : Str} {st : Stmt} {N ps : List Str} (F : FunT K x qual st f fd c) (S : FnScope N ps (defScope st)) (b : Binds K fd ps [])
    (len : ∀ vs H Q, sp vs H Q E0 → vs.length = ps.length)
    (hbody : ∀ (A : Around) (fr : List Env) (s : Shared) (H : Hp) (vs : List V) (Q : VK),
      (A.deeper (envOfC qual (defScope st) s.heap.objs.size f (.ref c))).guards = some [] →
      Room k (A.deeper (envOfC qual (defScope st) s.heap.objs.size f (.ref c))) → sp vs H Q E0 →
      ∃ t, PSs (cxOf CX0 P w K mg base N qual (defScope st) f (.ref c) A fr s H E0).nox (defBody st) t ∧
        t { nx := fun _ H' => Q .non H', rt := Q } (L2.start N vs) H) : FnG P w K mg base (k + 1) f sp := by
  intro A fr s H us vs Q hg hr e0 r hs
  obtain ⟨oc, od, kV, doc, pm, an, ct, osl, rfl, lk, hcd⟩ := F.ex
  have hin : K.In s.heap := e0.mod.kin.keeps fun b o e => (e0.bs b o e).1
  have hl : vs.length = ps.length := len vs H Q hs
  have hu : (us ++ []).length = ps.length := by
    rw [List.append_nil, ← r.length]
    exact hl
  refine StX.run_bnd lk hcd S hr e0 (G := fun vs' H2 => vs' = vs ∧ H2 = H) (fun A' Ex Q' h => ?_) fun s2 H2 vs' hv hr' => ?_
  · have z := b s us hin hu
    rw [List.append_nil] at z
    exact z (model P w) A' Ex Q' (h s H vs us e0 Un.refl rfl (fun _ _ q => q) r hl ⟨rfl, rfl⟩)
  · obtain ⟨e1, e2⟩ := hv
    subst e1 e2
    obtain ⟨t, ht, q⟩ := hbody A fr s2 _ _ Q hg hr' hs
    exact ⟨t, ht.nox, q⟩
end Sq
namespace Sq
open PySem L2 PySem.Spec PyProof.Rows LamX
/-! ### the law's end where it makes lambdas: the tables of their code objects grow -/
/-- what the top leaves of the tables: each is empty, and no part of the written heap -/
structure TabAt (K : PySem.W.Frag) (h : Heap) (p : Addr × Addr) : Prop where
  tab : h.get? p.2 = some { cls := .none, data := .fields #[] }
  out : K.lookup p.2 = none
  code : PySem.W.codeHdIn K p.1 p.2 = true
/-- what a law's heap holds at first: the tables, and at most the script -/
structure Start (cs : List (Addr × Addr)) (a : Addr) (H : Hp) : Prop where
  tab : ∀ p ∈ cs, H p.2 = some (.tbl #[])
  few : ∀ b, b ≠ a → b ∉ cs.map (·.2) → H b = none
  frz : H a = none ∨ ∃ o xs, H a = some (.frz o (.lst xs))
section
variable {P : Program} {w : World} {K : PySem.W.Frag} {mg mb : Str → Option Value} {k : Nat} {fa a : Addr} {sp : Sp} {s1 : Shared} {vs : List Value} {ns : List Int} {cs : List (Addr × Addr)}
theorem tab_code {h : Heap} {p : Addr × Addr} (X : K.In h) (T : TabAt K h p) : h.TableAt p.1 p.2 #[] := (PySem.W.codeHd_of_K X T.code).tab T.tab
theorem end_coreT (KX : K.In s1.heap) (hns : s1.heap.Ns mainGlobals mg) (hb : s1.heap.Ns builtinsNs mb) (hbb : ∀ x : Str, x ≠ "__name__" → mb x = bootBuiltins x)
    (hlim : s1.heap.NoLimit) (hg : s1.gens = #[]) (hbm : ∃ bm ob, mg "__builtins__" = some (.ref bm) ∧ bm ≠ builtinsNs ∧ s1.heap.get? bm = some ob ∧ ob.cls = .type "module" ∧ ob.dict = some builtinsNs ∧ ob.data = .plain)
    (ha : s1.heap.get? a = some { cls := .type "list", data := .seq vs.toArray }) (hr : Room k callerA) (ht : ∀ p ∈ cs, TabAt K s1.heap p)
    (F : ∀ base : Heap, K.In base → base.Ns mainGlobals mg → (∀ p ∈ cs, TabB base mg p.1 p.2) → FnG P w K mg base k fa sp)
    (H : Hp) (hS : Start cs a H) (hsp : sp [.ref a] H (fun v _ => v = .bl true) E0) (hok : HOk P w H s1.heap) (hK : H a ≠ none → K.lookup a = none) :
    codeAny (model P w) callerA (.call (.ref fa) ⟨[.ref a], []⟩) (fun r s' => r = .ok (.ret (.bool true)) ∧ OldK s1.heap s'.heap ∧ s'.os = s1.os ∧ AllBare s'.gens) s1 := by
  have tabs : ∀ b, b ∈ cs.map (·.2) → ∃ p ∈ cs, p.2 = b := fun b hb => let ⟨p, hp, e⟩ := List.mem_map.mp hb; ⟨p, hp, e⟩
  have free : ∀ {b : Addr} {o : Obj}, s1.heap.get? b = some o → o ≠ { cls := .type "list", data := .seq vs.toArray } → o ≠ { cls := .none, data := .fields #[] } → H b = none := by
    intro b o e n1 n2
    refine hS.few b (fun z => n1 ?_) fun z => ?_
    · rw [z, ha] at e
      exact (Option.some.inj e).symm
    · obtain ⟨p, hp, rfl⟩ := tabs b z
      rw [(ht p hp).tab] at e
      exact n2 (Option.some.inj e).symm
  have ns1 : ∀ {b : Addr} {m : Str → Option Value}, s1.heap.Ns b m → (hidT s1.heap H).Ns b m := by
    rintro b m ⟨o, es, ep, e, d, r⟩
    refine ⟨o, es, ep, hidT_get e (free e (fun q => ?_) fun q => ?_), d, r⟩
    · rw [q] at d
      cases d
    · rw [q] at d
      cases d
  have kin : K.In (hidT s1.heap H) := by
    intro b o e
    refine hidT_get (KX b o e) ?_
    by_cases h1 : b = a
    · subst h1
      refine Classical.byContradiction fun q => ?_
      rw [hK q] at e
      cases e
    · refine hS.few b h1 fun z => ?_
      obtain ⟨p, hp, rfl⟩ := tabs b z
      rw [(ht p hp).out] at e
      cases e
  have md : Mod K mg (hidT s1.heap H) := by
    obtain ⟨mc, h1, h2⟩ := hlim
    exact ⟨kin, ns1 hns, ⟨mb, ns1 hb, hbb⟩, ⟨mc, ns1 h1, h2⟩⟩
  have tb : ∀ p ∈ cs, TabB (hidT s1.heap H) mg p.1 p.2 := by
    intro p hp
    have tp := (ht p hp).tab
    have gP : mainGlobals ≠ p.2 := fun z => by
      obtain ⟨o, es, ep, e, d, r⟩ := hns
      rw [z, tp] at e
      rw [← Option.some.inj e] at d
      cases d
    obtain ⟨bm, ob, b1, b2, b3, b4, b5, b6⟩ := hbm
    have f1 : bm ≠ mainGlobals := fun z => by
      obtain ⟨o, es, ep, e, d, r⟩ := hns
      rw [← z, b3] at e
      rw [← Option.some.inj e, b6] at d
      cases d
    have f2 : bm ≠ p.2 := fun z => by
      rw [z, tp] at b3
      rw [← Option.some.inj b3] at b6
      cases b6
    refine NdefX.tabB_of_K kin (ht p hp).code ⟨bm, ob, b1, b2, f1, f2, hidT_get b3 (free b3 (fun q => ?_) fun q => ?_), b4, b5, b6⟩ gP
    · rw [q] at b6
      cases b6
    · rw [q] at b6
      cases b6
  have e0 : Env0 P w K mg (hidT s1.heap H) callerA [] s1 H :=
    { frames := rfl, mod := md, bs := fun b o e => of_hidT e, bsz := Nat.le_of_eq (hidT_size _ _), funs := trivial, frf := fun b hb => (by cases hb), hok := hok, bare := .of_eq hg }
  have run := F _ kin (ns1 hns) tb callerA [] s1 H [.ref a] [.ref a] (fun v _ => v = .bl true) rfl hr e0 (.cons rfl .nil) hsp
  refine codeAny_mono run fun r s' h => ?_
  match r, h with
  | .error _, h => exact False.elim h
  | .ok .next, h => exact False.elim h
  | .ok .brk, h => exact False.elim h
  | .ok .cont, h => exact False.elim h
  | .ok (.ret u), h =>
    obtain ⟨v, H', os, bare, un, hok', r', q⟩ := h
    cases (show v = .bl true from q)
    cases (show u = Value.bool true from r')
    have stay : ∀ b o, b ∉ cs.map (·.2) → s1.heap.get? b = some o → s'.heap.get? b = some o := fun b o nb e => by
      by_cases h1 : b = a
      · subst h1
        rcases hS.frz with z | ⟨ob, xs, z⟩
        · exact un.keep b o e z (fun q => by cases q) (fun q => by cases q)
        · have e1 := (hok b _ z).1
          have e2 := (hok' b _ (un.frzs b ob _ z)).1
          exact e2.trans (e1.symm.trans e)
      · exact un.keep b o e (hS.few b h1 nb) (fun q => by cases q) (fun q => by cases q)
    have grown : ∀ p ∈ cs, ∃ m : Array Value, s'.heap.get? p.2 = some { cls := .none, data := .fields (#[] ++ m) } := fun p hp => by
      obtain ⟨m, z⟩ := un.tbls p.2 #[] (hS.tab p hp)
      exact ⟨m, hok' p.2 _ z⟩
    refine ⟨rfl, ⟨fun b o e => ?_, fun b o e => ?_⟩, os, bare⟩
    · by_cases hbt : b ∈ cs.map (·.2)
      · obtain ⟨p, hp, rfl⟩ := tabs b hbt
        obtain ⟨m, hm⟩ := grown p hp
        have eo := Option.some.inj (e.symm.trans (ht p hp).tab)
        subst eo
        exact .inr (.inl ⟨(tab_code KX (ht p hp)).isCodeTable, rfl, #[], m, rfl, hm⟩)
      · exact .inl (stay b o hbt e)
    · by_cases hbt : b ∈ cs.map (·.2)
      · obtain ⟨p, hp, rfl⟩ := tabs b hbt
        obtain ⟨m, hm⟩ := grown p hp
        exact ⟨_, hm⟩
      · exact ⟨o, stay b o hbt e⟩
theorem end_callT (KX : K.In s1.heap) (hns : s1.heap.Ns mainGlobals mg) (hb : s1.heap.Ns builtinsNs mb) (hbb : ∀ x : Str, x ≠ "__name__" → mb x = bootBuiltins x)
    (hlim : s1.heap.NoLimit) (hg : s1.gens = #[]) (hbm : ∃ bm ob, mg "__builtins__" = some (.ref bm) ∧ bm ≠ builtinsNs ∧ s1.heap.get? bm = some ob ∧ ob.cls = .type "module" ∧ ob.dict = some builtinsNs ∧ ob.data = .plain)
    (ha : s1.heap.get? a = some { cls := .type "list", data := .seq vs.toArray }) (hi : IntsAre vs ns) (hl : ns.length ≤ sizeLine) (hr : Room k callerA) (ht : ∀ p ∈ cs, TabAt K s1.heap p)
    (F : ∀ base : Heap, K.In base → base.Ns mainGlobals mg → (∀ p ∈ cs, TabB base mg p.1 p.2) → FnG P w K mg base k fa sp)
    (hsp : ∀ H : Hp, (∀ p ∈ cs, H p.2 = some (.tbl #[])) → SqL K H a (ns.map V.int) → sp [.ref a] H (fun v _ => v = .bl true) E0) :
    codeAny (model P w) callerA (.call (.ref fa) ⟨[.ref a], []⟩) (fun r s' => r = .ok (.ret (.bool true)) ∧ OldK s1.heap s'.heap ∧ s'.os = s1.os ∧ AllBare s'.gens) s1 := by
  have rv := vals_ints hi
  have ez : vs.toArray.size ≤ sizeLine := by
    rw [List.size_toArray, hi.length]
    exact hl
  have an : a ∉ cs.map (·.2) := fun z => by
    obtain ⟨p, hp, rfl⟩ := List.mem_map.mp z
    have e := Option.some.inj ((ht p hp).tab.symm.trans ha)
    have e2 : Value.none = .type "list" := congrArg Obj.cls e
    cases e2
  have mem : ∀ p ∈ cs, p.2 ∈ cs.map (·.2) := fun p hp => List.mem_map_of_mem hp
  by_cases hk : K.lookup a = none
  · let H : Hp := fun b => if b = a then some (.frz { cls := .type "list", data := .seq vs.toArray } (.lst (ns.map V.int))) else if b ∈ cs.map (·.2) then some (.tbl #[]) else none
    have at_a : H a = some (.frz { cls := .type "list", data := .seq vs.toArray } (.lst (ns.map V.int))) := if_pos rfl
    have at_t : ∀ b, b ∈ cs.map (·.2) → H b = some (.tbl #[]) := fun b hb => (if_neg (show ¬ b = a from fun z => an (z ▸ hb))).trans (if_pos hb)
    have off : ∀ b, b ≠ a → b ∉ cs.map (·.2) → H b = none := fun b h1 h2 => (if_neg h1).trans (if_neg h2)
    have st : Start cs a H := ⟨fun p hp => at_t _ (mem p hp), off, .inr ⟨_, _, at_a⟩⟩
    refine end_coreT KX hns hb hbb hlim hg hbm ha hr ht F H st (hsp H st.tab (.inl (.inr ⟨_, at_a⟩))) (fun b u z => ?_) fun _ => hk
    by_cases q : b = a
    · subst q
      cases at_a.symm.trans z
      exact ⟨ha, by rw [List.length_map]; exact hl, vs, _, rv, ha⟩
    · by_cases q2 : b ∈ cs.map (·.2)
      · obtain ⟨p, hp, rfl⟩ := List.mem_map.mp q2
        cases (at_t _ q2).symm.trans z
        exact (ht p hp).tab
      · cases (off b q q2).symm.trans z
  · obtain ⟨o, ho⟩ := Option.ne_none_iff_exists'.mp hk
    have e := (KX a o ho).symm.trans ha
    cases e
    let H : Hp := fun b => if b ∈ cs.map (·.2) then some (.tbl #[]) else none
    have at_t : ∀ b, b ∈ cs.map (·.2) → H b = some (.tbl #[]) := fun b hb => if_pos hb
    have off : ∀ b, b ∉ cs.map (·.2) → H b = none := fun b h2 => if_neg h2
    have st : Start cs a H := ⟨fun p hp => at_t _ (mem p hp), fun b _ h2 => off b h2, .inl (off a an)⟩
    refine end_coreT KX hns hb hbb hlim hg hbm ha hr ht F H st (hsp H st.tab (.inr ⟨_, vs.toArray, _, ho, rfl, rfl, rfl, ez, by simpa using rv⟩)) (fun b u z => ?_) fun z => absurd (off a an) z
    by_cases q2 : b ∈ cs.map (·.2)
    · obtain ⟨p, hp, rfl⟩ := List.mem_map.mp q2
      cases (at_t _ q2).symm.trans z
      exact (ht p hp).tab
    · cases (off b q2).symm.trans z
end
/-- what is known of such a law at the heap that the top leaves -/
structure LawT (P : Program) (w : World) (K : PySem.W.Frag) (mg : Str → Option Value) (k n : Nat) (fa : Addr) (h : Heap) : Prop where
  ex : ∃ (cs : List (Addr × Addr)) (sp : Sp), (∀ p ∈ cs, TabAt K h p) ∧ (∀ (H : Hp) (a : Addr) (ns : List Int), ns.length ≤ n → (∀ p ∈ cs, H p.2 = some (.tbl #[])) → SqL K H a (ns.map V.int) → sp [.ref a] H (fun v _ => v = .bl true) E0) ∧
    ∀ base : Heap, K.In base → base.Ns mainGlobals mg → (∀ p ∈ cs, TabB base mg p.1 p.2) → FnG P w K mg base k fa sp
theorem walkGT {l : PySem.W.OpenLaw} {n k : Nat} {q : Program} {loose : List Str} {XP : (Str → Option Value) → Heap → Prop} {YP : World → Heap → Prop} {d : DefRec} {K : Params → PySem.W.Frag}
    (hn : l.most = some n) (hn2 : n ≤ sizeLine) (hdf : d.params.defaults = []) (hr : Room k callerA) (hY : ∀ (w : World) (h : Heap), YP w h → (K w.params).In h)
    (F : ∀ (w : World) (mean : ExcName → Option Value) (mg mb : Str → Option Value) (fa : Addr) (h : Heap), (K w.params).In h → YP w h → Top q (PySem.W.looseW q loose) mean mg mb h → mg d.name = some (.ref fa) → LawT l.prog w (K w.params) mg k n fa h) :
    PySem.W.WalkO q loose XP YP l.row.toRowW d [] (fun f vs => PySem.call f vs) := by
  refine Att.attach_call hn hdf ?_
  intro w s0 s1 mg mb fa o pm cd doc a vs ns G Y _ _ _ hmg hobj hints hlen hg
  have KX := hY w _ Y
  obtain ⟨cs, sp, ht, hsp, hF⟩ := (F w _ mg mb fa _ KX Y G.T hmg).ex
  exact end_callT KX G.T.g G.T.b G.T.builtins G.T.nolimit hg G.T.bmain hobj hints (Nat.le_trans hlen hn2) hr ht hF fun H hO hS => hsp H a ns hlen hO hS
end Sq
namespace Sq
open PySem L2 PySem.Spec PyProof.Rows LamX
/-! ### the head by one run: what a hook of one's own looks at, at known addresses -/
/-- a def of the text: where it stands, its name, its qualified name, its row -/
structure DefA where
  a : Addr
  x : Str
  q : Str
  st : Stmt
abbrev FnT : Type := Option (Str × Str × Arguments × FuncBody × Scope × Addr × List (Str × Addr) × Value × Addr)
def seenF (K : PySem.W.Frag) (a : Addr) : FnT := match K.lookup a with
  | some ⟨_, _, .func fd, _⟩ => some (fd.name, fd.qualname, fd.params, fd.body, fd.scope, fd.globals, fd.closure, fd.defaults, fd.builtins)
  | _ => none
def DefA.want (d : DefA) : FnT := some (d.x, d.q, defArgs d.st, .stmts (defBody d.st), defScope d.st, mainGlobals, [], .none, builtinsNs)
def DefA.ok (K : PySem.W.Frag) (d : DefA) : Bool := PySem.W.keepIn K (.ref d.a) && (match K.lookup d.a with
  | some ⟨_, _, .func fd, _⟩ => PySem.W.codeIn K fd.code d.q
  | _ => false)
theorem DefA.fun_ {K : PySem.W.Frag} {d : DefA} (e : seenF K d.a = d.want) (c : d.ok K = true) : ∃ fd, Fun K d.x d.q d.st d.a fd := by
  obtain ⟨kp, c2⟩ := Bool.and_eq_true_iff.mp c
  unfold seenF at e
  cases hl : K.lookup d.a with
  | none =>
    rw [hl] at c2
    cases c2
  | some o =>
    obtain ⟨oc, od, dt, osl⟩ := o
    rw [hl] at c2 e
    cases dt with
    | func fd =>
      obtain ⟨n1, n2, n3, n4, n5, n6, n7, n8, n9, n10, n11, n12, n13, n14, n15⟩ := fd
      have e2 : (some (n1, n2, n3, n4, n5, n6, n7, n8, n15) : FnT) = some (d.x, d.q, defArgs d.st, .stmts (defBody d.st), defScope d.st, mainGlobals, [], .none, builtinsNs) := e
      simp only [Option.some.injEq, Prod.mk.injEq] at e2
      obtain ⟨h1, h2, h3, h4, h5, h6, h7, h8, h9⟩ := e2
      subst h1 h2 h3 h4 h5 h6 h7 h8 h9
      exact ⟨_, ⟨oc, od, n9, n10, n11, n12, n13, n14, osl, rfl, hl, c2⟩, kp⟩
    | _ => cases c2
/-- a def that makes lambdas: where it stands, its code object, the table of that -/
abbrev TabA : Type := Addr × Addr × Addr
def tabA (g : Addr → Option Obj) (K : PySem.W.Frag) (t : TabA) : Bool := (match K.lookup t.1 with
  | some ⟨_, _, .func fd, _⟩ => decide (fd.code = .ref t.2.1)
  | _ => false) && (PySem.W.codeHdIn K t.2.1 t.2.2 && (match g t.2.2 with
  | some o => He.emptyTab o
  | none => false))
theorem codeA_of {K : PySem.W.Frag} {f c : Addr} {x q : Str} {st : Stmt} {fd : FuncData} (F : Fun K x q st f fd) (h : (match K.lookup f with
  | some ⟨_, _, .func fd, _⟩ => decide (fd.code = .ref c)
  | _ => false) = true) : FunT K x q st f fd c := by
  obtain ⟨⟨oc, od, kV, doc, pm, an, cdv, ct, osl, rfl, lk, hcd⟩, kp⟩ := F
  rw [lk] at h
  have e : cdv = .ref c := of_decide_eq_true h
  subst e
  exact ⟨⟨oc, od, kV, doc, pm, an, ct, osl, rfl, lk, hcd⟩, kp⟩
/-- a tuple at an address -/
def tupA (K : PySem.W.Frag) (a : Addr) (vs : List He.Dv) : Bool := match K.lookup a with
  | some ⟨.type c, _, .seq its _, _⟩ => decide (c = "tuple") && (decide (its.size ≤ sizeLine) && He.relAll (vs.map (He.Dv.v K)) its.toList)
  | _ => false
theorem tupA_ok {K : PySem.W.Frag} {a : Addr} {vs : List He.Dv} (h : tupA K a vs = true) (H : Hp) : SqT K H a (vs.map (He.Dv.v K)) := by
  unfold tupA at h
  cases hl : K.lookup a with
  | none =>
    rw [hl] at h
    cases h
  | some o =>
    obtain ⟨oc, od, dt, osl⟩ := o
    rw [hl] at h
    cases oc with
    | type c =>
      cases dt with
      | seq its n =>
        have h : (decide (c = "tuple") && (decide (its.size ≤ sizeLine) && He.relAll (vs.map (He.Dv.v K)) its.toList)) = true := h
        obtain ⟨h1, h2⟩ := Bool.and_eq_true_iff.mp h
        obtain ⟨h3, h4⟩ := Bool.and_eq_true_iff.mp h2
        exact .inr ⟨_, its, n, hl, congrArg Value.type (of_decide_eq_true h1), rfl, of_decide_eq_true h3, He.relAll_ok h4⟩
      | _ => cases h
    | _ => cases dt <;> cases h
/-- an int, a text, under a name of the module -/
def intA (K : PySem.W.Frag) (x : Str) (i : Int) : Bool := match PySem.W.nsIn K mainGlobals x with
  | some (some (.int j _)) => decide (j = i)
  | _ => false
theorem intA_ok {K : PySem.W.Frag} {x : Str} {i : Int} (h : intA K x i = true) : ∃ t, PySem.W.nsIn K mainGlobals x = some (some (.int i t)) := by
  unfold intA at h
  split at h
  · rename_i j t e
    rw [of_decide_eq_true h] at e
    exact ⟨t, e⟩
  · cases h
/-- the property at p is made of the getter g -/
def propA (K : PySem.W.Frag) (p g : Addr) : Bool := match PySem.W.recIn K p "property" with
  | some (.ref f :: _) => decide (f = g)
  | _ => false
theorem propA_ok {K : PySem.W.Frag} {p g : Addr} (h : propA K p g = true) : ∃ rest, PySem.W.recIn K p "property" = some (.ref g :: rest) := by
  unfold propA at h
  split at h
  · rename_i f r e
    rw [of_decide_eq_true h] at e
    exact ⟨r, e⟩
  · cases h
/-- a class of errors, own, below ValueError -/
def oexA (K : PySem.W.Frag) (C : Addr) : Bool := match K.lookup C with
  | some ⟨.type "type", _, .cls cd, sl⟩ => (match cd.mro, sl.toList with
    | .ref D :: bm, [_, _, _, _, some (.builtin n), _] => (D == C && (n == "ValueError.__new__" && (!cd.hasDel && (cd.hasDict && PySem.HandSPX.refsVE bm)))) && (decide (PySem.W.findIn K (.ref C) "__setattr__" = some (some (.builtin "object.__setattr__"))) && (decide (PySem.W.subIn K (.ref C) (.type "BaseException") = some true) &&
        (decide (PySem.W.typeIn K (.ref C) = some (.type "type")) && PySem.W.keepIn K (.ref C))))
    | _, _ => false)
  | _ => false
theorem oexA_ok {K : PySem.W.Frag} {C : Addr} (h : oexA K C = true) : OexC K C := by
  unfold oexA at h
  split at h
  · rename_i dd cd sl ho
    split at h
    · rename_i D bm k0 k1 k2 k3 n k5 hm hs
      simp only [Bool.and_eq_true, beq_iff_eq, Bool.not_eq_true', decide_eq_true_eq] at h
      obtain ⟨⟨rfl, rfl, hdel, hdict, hve⟩, h1, h2, h3, h4⟩ := h
      obtain ⟨nm, bs, mro, ns, qn, hd, sn, sub, ab, col, del⟩ := cd
      dsimp only at hm hdel hdict
      subst hm hdel hdict
      have hsl : sl = #[k0, k1, k2, k3, some (.builtin "ValueError.__new__"), k5] := by
        obtain ⟨l⟩ := sl
        simp only at hs
        rw [hs]
      subst hsl
      exact ⟨⟨nm, qn, ns, bs, bm, sn, sub, ab, col, dd, k0, k1, k2, k3, k5, ho, hve⟩, h1, h2, h3, h4⟩
    · cases h
  · cases h
/-- no such key in a dict with text keys -/
theorem dic_none {K : PySem.W.Frag} {P : Params} {a : Addr} {ks : List Str} {z : Str} (h : He.dicW K a = some (He.keysIn P ks)) (hz : z ∉ ks) : PySem.W.nsIn K a z = some none := by
  unfold He.dicW at h
  unfold PySem.W.nsIn
  split at h
  · rename_i c es n sl ho
    rw [ho]
    dsimp only
    split at h
    · have h := Option.some.inj h
      have key : ∀ (l : List DictEntry) (ks : List Str), l.map He.keyOf = He.keysIn P ks → z ∉ ks → l.find? (fun e => e.key.isStr z) = none := by
        intro l
        induction l with
        | nil => intro ks _ _; rfl
        | cons e r ih =>
          intro ks h hz
          cases ks with
          | nil => cases h
          | cons k kr =>
            have h1 : He.keyOf e :: r.map He.keyOf = some (k, PyData.keyHash P k) :: He.keysIn P kr := h
            injection h1 with h2 h3
            have nk : e.key.isStr z = false := by
              unfold He.keyOf at h2
              split at h2
              · rename_i x t q
                have e1 := (Prod.mk.inj (Option.some.inj h2)).1
                rw [q, e1]
                exact beq_eq_false_iff_ne.mpr fun w => hz (by rw [← w]; exact List.mem_cons_self)
              · cases h2
            rw [List.find?_cons_of_neg (by rw [nk]; decide)]
            exact ih kr h3 fun m => hz (List.mem_cons_of_mem _ m)
      have q := key es.toList ks h hz
      have noref : ∀ (l : List DictEntry) (ks : List Str), l.map He.keyOf = He.keysIn P ks → l.any (·.refKey) = false := by
        intro l
        induction l with
        | nil => intro ks _; rfl
        | cons e r ih =>
          intro ks h
          cases ks with
          | nil => cases h
          | cons k kr =>
            have h1 : He.keyOf e :: r.map He.keyOf = some (k, PyData.keyHash P k) :: He.keysIn P kr := h
            injection h1 with h2 h3
            have nk : e.refKey = false := by
              unfold He.keyOf at h2
              split at h2
              · rename_i x t q
                unfold DictEntry.refKey
                rw [q]
              · cases h2
            rw [List.any_cons, nk, ih kr h3]
            rfl
      rw [q]
      dsimp only
      rw [noref es.toList ks h]
      rfl
    · cases h
  · cases h
/-! ### the hook -/
structure HeadA where
  as : List Addr
  fn : List DefA
  ts : List (Addr × List Str)
  tf : List TabA
  ex : List (PySem.W.Frag → Bool)
abbrev AlA : Type := (List FnT × List (Option (List (Option (Str × Int))))) × Bool
def HeadA.see (A : HeadA) (g : Addr → Option Obj) (K : PySem.W.Frag) : AlA := ((A.fn.map (fun d => seenF K d.a), A.ts.map fun t => He.dicW K t.1), (A.ex.all fun f => f K) && (A.fn.all (fun d => d.ok K) && A.tf.all (tabA g K)))
def HeadA.obs (A : HeadA) (g : Addr → Option Obj) : AlA := A.see g (He.frT g A.as)
def HeadA.val (A : HeadA) (w : World) : AlA := ((A.fn.map DefA.want, A.ts.map fun t => some (He.keysIn w.params t.2)), true)
/-- what such a hook says -/
structure SaysA (A : HeadA) (w : World) (h : Heap) (K : PySem.W.Frag) : Prop where
  fns : ∀ d ∈ A.fn, ∃ fd, Fun K d.x d.q d.st d.a fd
  dic : ∀ t ∈ A.ts, He.dicW K t.1 = some (He.keysIn w.params t.2)
  more : ∀ f ∈ A.ex, f K = true
  cod : ∀ t ∈ A.tf, (match K.lookup t.1 with
    | some ⟨_, _, .func fd, _⟩ => decide (fd.code = .ref t.2.1)
    | _ => false) = true
  tab : ∀ t ∈ A.tf, TabAt K h (t.2.1, t.2.2)
theorem map_at {α β : Type} {f g : α → β} : ∀ {l : List α}, l.map f = l.map g → ∀ x ∈ l, f x = g x
  | [], _, x, hx => by cases hx
  | a :: l, e, x, hx => by
    rw [List.map_cons, List.map_cons] at e
    injection e with e1 e2
    rcases List.mem_cons.mp hx with rfl | hx
    · exact e1
    · exact map_at e2 x hx
theorem says_of {A : HeadA} {w : World} {h : Heap} (e : A.obs h.get? = A.val w) : SaysA A w h (He.frT h.get? A.as) := by
  have e1 := congrArg (fun z : AlA => z.1.1) e
  have e2 := congrArg (fun z : AlA => z.1.2) e
  have e3 : ((A.ex.all fun f => f (He.frT h.get? A.as)) && (A.fn.all (fun d => d.ok (He.frT h.get? A.as)) && A.tf.all (tabA h.get? (He.frT h.get? A.as)))) = true := congrArg (fun z : AlA => z.2) e
  obtain ⟨h1, h2⟩ := Bool.and_eq_true_iff.mp e3
  obtain ⟨h3, h4⟩ := Bool.and_eq_true_iff.mp h2
  have t4 := fun t ht => Bool.and_eq_true_iff.mp (List.all_eq_true.mp h4 t ht)
  refine ⟨fun d hd => ?_, fun t ht => ?_, fun f hf => List.all_eq_true.mp h1 f hf, fun t ht => (t4 t ht).1, fun t ht => ?_⟩
  · exact DefA.fun_ (map_at (f := fun d : DefA => seenF (He.frT h.get? A.as) d.a) (g := DefA.want) e1 d hd) (List.all_eq_true.mp h3 d hd)
  · exact map_at (f := fun t : Addr × List Str => He.dicW (He.frT h.get? A.as) t.1) (g := fun t => some (He.keysIn w.params t.2)) e2 t ht
  · obtain ⟨k1, k2⟩ := Bool.and_eq_true_iff.mp (t4 t ht).2
    cases ho : h.get? t.2.2 with
    | none =>
      rw [ho] at k2
      cases k2
    | some o =>
      rw [ho] at k2
      have k2 : He.emptyTab o = true := k2
      exact ⟨by show h.get? t.2.2 = _; rw [ho, He.emptyTab_eq k2], He.frT_none ho k2, k1⟩
def HeadA.hook (A : HeadA) : PySem.W.Hook where
  α := AlA
  obs := fun s => A.obs s.heap.get?
  val := fun w => A.val w
  says := fun w h => ∃ K : PySem.W.Frag, K.In h ∧ SaysA A w h K
  of := fun _ _ e => ⟨_, He.frT_in, says_of e⟩
  keeps := fun _ _ _ ⟨K, hK, c⟩ k => ⟨K, PySem.W.Frag.In.keeps hK k, ⟨c.fns, c.dic, c.more, c.cod, fun t ht => ⟨k _ _ (c.tab t ht).tab, (c.tab t ht).out, (c.tab t ht).code⟩⟩⟩
theorem HeadA.eq (A : HeadA) (s : PySem.W.SharedT) : A.obs (HandSHeadRun.getT s) = A.hook.obs s.abs := by
  have e : HandSHeadRun.getT s = s.abs.heap.get? := funext fun a => HandSHeadRun.getT_eq s a
  rw [e]
  rfl
theorem SaysA.fact {A : HeadA} {w : World} {h : Heap} {K : PySem.W.Frag} (c : SaysA A w h K) (i : Nat) {f : PySem.W.Frag → Bool} (e : A.ex[i]? = some f) : f K = true := c.more f (List.mem_of_getElem? e)
/-- the law's end over such a head -/
theorem walkGA {l : PySem.W.OpenLaw} {n k : Nat} {q : Program} {loose : List Str} {XP : (Str → Option Value) → Heap → Prop} {d : DefRec} {A : HeadA}
    (hn : l.most = some n) (hn2 : n ≤ sizeLine) (hdf : d.params.defaults = []) (hr : Room k callerA)
    (F : ∀ (w : World) (K : PySem.W.Frag) (mg : Str → Option Value) (fa : Addr) (h : Heap), K.In h → SaysA A w h K → h.Ns mainGlobals mg → mg d.name = some (.ref fa) → LawT l.prog w K mg k n fa h) :
    PySem.W.WalkO q loose XP A.hook.says l.row.toRowW d [] (fun f vs => PySem.call f vs) := by
  refine Att.attach_call hn hdf ?_
  intro w s0 s1 mg mb fa o pm cd doc a vs ns G Y _ _ _ hmg hobj hints hlen hg
  obtain ⟨K, KX, c⟩ := Y
  obtain ⟨cs, sp, ht, hsp, hF⟩ := (F w K mg fa _ KX c G.T.g hmg).ex
  exact end_callT KX G.T.g G.T.b G.T.builtins G.T.nolimit hg G.T.bmain hobj hints (Nat.le_trans hlen hn2) hr ht hF fun H hO hS => hsp H a ns hlen hO hS
end Sq
namespace Sq
open PySem PySem.Spec PyProof.Rows GQ
section
variable {prog : Program} {w : World} {A : Around} {E : Value → Shared → Prop} {s : Shared}
/-- a list == a list of another length -/
theorem list_other {l b : Addr} {p q : Array Value} {n1 n2 : Nat} {Q : Value → Shared → Prop} (hu : A.units < cLine) (hl : s.heap.get? l = some { cls := .type "list", data := .seq p n1 }) (hb : s.heap.get? b = some { cls := .type "list", data := .seq q n2 }) (hz : p.size ≠ q.size)
    (h : Q (.bool false) s) : wpAny (model prog w) A (richCompare .Eq (.ref l) (.ref b)) Q E s := by
  refine wpAny_richCompare_same_room (op := .Eq) ⟨_, hl, rfl⟩ ⟨_, hb, rfl⟩ F.slot_list_eq (call_here F.slot_list_eq ⟨_, hl, rfl⟩ F.entry_list_eq (F.args_list_eq_2 _ _) ?_) hu
  have f3 := AutoSeq1.sub_list_list
  obtain ⟨hp, g, d, tk, os⟩ := s
  have ne : (p.size != q.size) = true := by simpa using hz
  wp_walk using wpAny_loadPart' hl, wpAny_loadPart' hb
  exact ⟨(fun e => nomatch e), h⟩
end
end Sq
namespace Sq
open PySem L2 PySem.Spec PyProof.Rows
/-- xs == [] -/
def rNil (K : PySem.W.Frag) : R2 := fun x y H Q => ∃ (a b : Addr) (xs : List V), x = .ref a ∧ y = .ref b ∧ H a = some (.lst xs) ∧ H b = some (.lst []) ∧ Q (.bl (decide (xs.length = 0))) H
theorem op_eqNil {X : Cx} {k : Nat} (hr : Room k X.A) : OpR X (compareOp .Eq) (rNil X.K) := by
  intro pins s σ H x y v u Q I rx ry h
  obtain ⟨a, b, xs, rfl, rfl, ha, hb, q⟩ := h
  cases rx
  cases ry
  obtain ⟨_, its, n, r, g⟩ := (show ObjOk X.prog X.w H s.heap a (.lst xs) from I.hok a _ ha)
  obtain ⟨_, jts, m, r2, g2⟩ := (show ObjOk X.prog X.w H s.heap b (.lst []) from I.hok b _ hb)
  cases r2
  show wpAny (model X.prog X.w) X.A (richCompare .Eq (.ref a) (.ref b)) (EP X pins σ Q) X.xe s
  by_cases hx : xs = []
  · subst hx
    cases r
    have q : Q (.bl true) H := q
    exact GQ.rc_listG hr.units0 (N := 0) (fun _ s' => s' = s) (fun i s' e => by subst e; exact ⟨_, _, _, _, g, g2, rfl, rfl, fun h1 => absurd h1 (Nat.not_lt_zero _)⟩) (fun s' e => by subst e; exact ⟨.bl true, H, I, rfl, q⟩) rfl
  · have hz : xs.length ≠ 0 := fun e => hx (List.length_eq_zero_iff.mp e)
    rw [decide_eq_false hz] at q
    exact list_other hr.units0 g g2 (by rw [List.size_toArray, ← r.length]; exact hz) ⟨.bl false, H, I, rfl, q⟩
end Sq
namespace Sq
open PySem L2 PySem.Spec PyProof.Rows
/-! ### for k in d, d a dict of the written part, whatever its keys are -/
/-- the dict at d is written, plain, and its keys are those values -/
structure WDict (K : PySem.W.Frag) (d : Addr) (es : Array DictEntry) (ep : Nat) (ks : List V) : Prop where
  lk : ∃ o, K.lookup d = some o ∧ o.ExactDict ∧ o.data = .dict es ep
  sys : (d == sysModules) = false
  keys : Vals ks (es.toList.map (·.key))
/-- its keys, one behind the other -/
def Itw (ks : List V) : It := ⟨fun i _ => i < ks.length, fun i H x H' => H' = H ∧ ks[i]? = some x, fun i _ => ks.length ≤ i⟩
theorem walk_kw {ks : List V} : Walk (Itw ks) ks.length (fun _ => True) (YAt ks) :=
  ⟨fun _ _ hi _ => hi, fun _ _ => Nat.le_refl _, fun _ _ _ _ _ _ y => y⟩
section
variable {K : PySem.W.Frag} {d : Addr} {es : Array DictEntry} {ep : Nat} {ks : List V}
theorem WDict.raw (D : WDict K d es ep ks) {h : Heap} (X : K.In h) : h.DictRaw d es ep := by
  obtain ⟨o, l, e, q⟩ := D.lk
  exact ⟨o, X _ _ l, e, q⟩
theorem WDict.len (D : WDict K d es ep ks) : ks.length = es.size := by
  have z := D.keys.length
  rw [List.length_map, Array.length_toList] at z
  exact z
theorem WDict.key (D : WDict K d es ep ks) {i : Nat} (hi : i < es.size) : ∃ x, ks[i]? = some x ∧ RelV x es[i].key := by
  have hk : i < ks.length := by rw [D.len]; exact hi
  refine ⟨ks[i], List.getElem?_eq_getElem hk, ?_⟩
  obtain ⟨u, hu, ru⟩ := D.keys.get (List.getElem?_eq_getElem hk)
  rw [List.getElem?_map, Array.getElem?_toList, Array.getElem?_eq_getElem hi] at hu
  cases hu
  exact ru
theorem turn_kw {P : Program} {w : World} {tg : Expr} (D : WDict K d es ep ks) (it : Addr) : Turn P w K tg (Itw ks) [it] it (fun i h => h.IsKeyIter it d i es.size ep) where
  mem := by simp
  obj := fun i h st b hb => by
    have e : b = it := by simpa using hb
    subst e
    obtain ⟨oi, e, c, dd⟩ := st
    exact ⟨oi, e, fun v z => by rw [dd] at z; cases z⟩
  keep := fun i h h' st k => by
    obtain ⟨oi, e, c⟩ := st
    exact ⟨oi, k it (by simp) _ e, c⟩
  item := by
    intro X hP hw hK hc i pins s σ H E I hf st hg
    subst hP hw hK
    have hi : i < es.size := by rw [← D.len]; exact hg
    obtain ⟨f0, f1, f2, f3, f4, f5⟩ := hf it (by simp)
    obtain ⟨x, hx, rx⟩ := D.key hi
    refine wpAny_pyNext_keys_item_raw st (D.raw I.kIn) hi fun h' st' sb => ?_
    have I1 : Inv X pins σ H { s with heap := h' } := I.turned (t' := s.toks) (fun b ob hb e => (sb.2 b hb).trans e) f0 f1 f3 f4 f5
    obtain ⟨oi, e, c, dd⟩ := id st'
    exact ⟨_, rfl, go_of (s := { s with heap := h' }) e c dd (by decide) ⟨x, H, I1, rx, ⟨rfl, hx⟩, st', fun b hb => (hf b hb).1⟩⟩
  done := by
    intro X hP hw hK hc i pins s σ H E I hf st hg
    subst hP hw hK
    obtain ⟨f0, f1, f2, f3, f4, f5⟩ := hf it (by simp)
    have hge : es.size ≤ i := by rw [← D.len]; exact hg
    exact wpAny_pyNext_keys_end_raw (I.ok.hd hc) st (D.raw I.kIn) hge fun h' eb => ⟨rfl, I.turned (t' := s.toks) (fun b ob hb e => eb b ob hb e) f0 f1 f3 f4 f5⟩
  self := fun A i s Q E st h => wpAny_pyIter_keyiter st h
def iKeysW (d : Addr) (ks : List V) (td : TE) : TI := fun σ H R => td σ H fun x H1 => x = .ref d ∧ R (Itw ks) H1
theorem pi_keysW {X : Cx} {tg e : Expr} {td : TE} (D : WDict X.K d es ep ks) (he : PE X e td) : PI X tg e (iKeysW d ks td) := by
  refine ⟨fun pins s σ H R I h => ?_⟩
  refine thn (he.run pins s σ H _ I h) fun u s1 ⟨x, H1, I1, rx, ex, q⟩ => ?_
  subst ex
  obtain rfl : u = Value.ref d := rx
  refine wpAny_pyIter_dict_raw D.sys (D.raw I1.kIn) ?_
  have st : (s1.heap.push { cls := .type "dict_keyiterator", data := .fields #[.ref d, .int 0 0, .int es.size 0, .int ep 0] }).IsKeyIter s1.heap.objs.size d 0 es.size ep := ⟨_, Heap.get?_push_size _ rfl, rfl, rfl⟩
  exact pi_one (tk := s1.toks) I1 _ (turn_kw D _) st q
end
/-- a written tuple of numbers, told -/
def tupW (K : PySem.W.Frag) (v : Value) : Option (List Int) := match v with
  | .ref a => match K.lookup a with
    | some ⟨.type "tuple", _, .seq its _, _⟩ => its.toList.mapM fun u => match u with | .int i _ => some i | _ => none
    | _ => none
  | _ => none
theorem vals_mapM : ∀ {us : List Value} {is : List Int}, (us.mapM fun u => match u with | .int i _ => some i | _ => none) = some is → Vals (is.map V.int) us
  | [], is, h => by
    cases h
    exact .nil
  | u :: us, is, h => by
    rw [List.mapM_cons] at h
    cases u with
    | int i t =>
      cases e : (us.mapM fun u => match u with | .int i _ => some i | _ => none) with
      | none =>
        rw [e] at h
        cases h
      | some js =>
        rw [e] at h
        cases h
        exact .cons ⟨t, rfl⟩ (vals_mapM e)
    | _ => cases h
theorem tupW_at {K : PySem.W.Frag} {v : Value} {is : List Int} (h : tupW K v = some is) (hl : is.length ≤ 3) : ∃ a, v = .ref a ∧ ∀ H, SqT K H a (is.map V.int) := by
  unfold tupW at h
  split at h
  case h_2 => cases h
  rename_i a
  split at h
  case h_2 => cases h
  rename_i d its n sl e
  have z := vals_mapM h
  refine ⟨a, rfl, fun H => .inr ⟨_, its, n, e, rfl, rfl, ?_, z⟩⟩
  have y := z.length
  rw [List.length_map] at y
  have y2 : its.toList.length = its.size := Array.length_toList
  have h3 : 3 ≤ sizeLine := by decide
  omega
end Sq
namespace Sq
open PySem L2 PySem.Spec PyProof.Rows
/-! ### a written dict with texts as keys, told by a table -/
structure TDict (K : PySem.W.Frag) (w : World) (d : Addr) (tab : List (Str × V)) : Prop where
  ex : ∃ (es : Array DictEntry) (n : Nat), KDict K w d es n ∧ ∀ z : Str, match tab.lookup z with
    | none => PySem.W.nsIn K d z = some none
    | some v => ∃ u, PySem.W.nsIn K d z = some (some u) ∧ RelV v u
def strW (v : Value) : Option Str := match v with
  | .str x _ => some x
  | _ => none
theorem look_es {z : Str} : ∀ {es : List DictEntry} {tab : List (Str × V)}, es.map (fun e => strW e.key) = tab.map (fun q => some q.1) → Vals (tab.map (·.2)) (es.map (·.val)) →
    (es.any (·.refKey) = false) ∧ match tab.lookup z with
    | none => es.find? (fun e => e.key.isStr z) = none
    | some v => ∃ e, es.find? (fun e => e.key.isStr z) = some e ∧ RelV v e.val
  | [], [], _, _ => ⟨rfl, rfl⟩
  | [], _ :: _, h, _ => by cases h
  | _ :: _, [], h, _ => by cases h
  | e :: es, (x, v) :: tab, h, hv => by
    obtain ⟨h1, h2⟩ := List.cons.inj h
    cases hv with
    | cons r1 rr =>
      obtain ⟨i1, i2⟩ := look_es (z := z) h2 rr
      have hk : ∃ t, e.key = .str x t := by
        have h1 : strW e.key = some x := h1
        unfold strW at h1
        split at h1
        · rename_i y t e1
          cases h1
          exact ⟨t, e1⟩
        · cases h1
      obtain ⟨t, hk⟩ := hk
      refine ⟨?_, ?_⟩
      · rw [List.any_cons, i1]
        unfold DictEntry.refKey
        rw [hk]
        rfl
      · by_cases hz : z = x
        · subst hz
          have l : ((z, v) :: tab).lookup z = some v := by simp [List.lookup]
          rw [l]
          have f : (e :: es).find? (fun e => e.key.isStr z) = some e := List.find?_cons_of_pos (by rw [hk]; simp [Value.isStr])
          exact ⟨e, f, r1⟩
        · have zx : (z == x) = false := by simpa using hz
          have l : ((x, v) :: tab).lookup z = tab.lookup z := by simp [List.lookup, zx]
          have f : (e :: es).find? (fun e => e.key.isStr z) = es.find? (fun e => e.key.isStr z) := List.find?_cons_of_neg (by rw [hk]; simp [Value.isStr]; exact fun q => hz q.symm)
          rw [l, f]
          exact i2
theorem TDict.of {K : PySem.W.Frag} {w : World} {d : Addr} {es : Array DictEntry} {n : Nat} {tab : List (Str × V)} (lk : K.lookup d = some ⟨.type "dict", none, .dict es n, #[]⟩) (lit : PySem.W.KeysLit w.params es.toList) (hs : (d == sysModules) = false)
    (hk : es.toList.map (fun e => strW e.key) = tab.map (fun q => some q.1)) (hv : Vals (tab.map (·.2)) (es.toList.map (·.val))) : TDict K w d tab := by
  refine ⟨es, n, ⟨lk, lit, hs⟩, fun z => ?_⟩
  obtain ⟨h1, h2⟩ := look_es (z := z) hk hv
  unfold PySem.W.nsIn
  rw [lk]
  dsimp only
  cases hl : tab.lookup z with
  | none =>
    rw [hl] at h2
    dsimp only at h2 ⊢
    rw [h2, h1]
    rfl
  | some v =>
    rw [hl] at h2
    obtain ⟨e, h3, r⟩ := h2
    dsimp only
    rw [h3]
    exact ⟨_, rfl, r⟩
section
variable {X : Cx} {d : Addr} {tab : List (Str × V)}
def rInT (d : Addr) (tab : List (Str × V)) (g : Bool → Bool) : R2 := fun x y H Q => ∃ z : Str, x = .str z ∧ y = .ref d ∧ Q (.bl (g (tab.lookup z).isSome)) H
theorem op_inT (D : TDict X.K X.w d tab) : OpR X (compareOp .In) (rInT d tab id) := by
  intro pins s σ H x y v u Q I rx ry h
  obtain ⟨z, rfl, rfl, q⟩ := h
  obtain ⟨es, n, kd, hz⟩ := D.ex
  have hz := hz z
  cases hl : tab.lookup z with
  | none =>
    rw [hl] at hz q
    exact op_in_kd kd pins s σ H _ _ v u Q I rx ry ⟨z, none, rfl, rfl, hz, q⟩
  | some v0 =>
    rw [hl] at hz q
    obtain ⟨u0, e, _⟩ := hz
    exact op_in_kd kd pins s σ H _ _ v u Q I rx ry ⟨z, some u0, rfl, rfl, e, q⟩
theorem op_notInT (D : TDict X.K X.w d tab) : OpR X (compareOp .NotIn) (rInT d tab (!·)) := by
  intro pins s σ H x y v u Q I rx ry h
  obtain ⟨z, rfl, rfl, q⟩ := h
  obtain ⟨es, n, kd, hz⟩ := D.ex
  have hz := hz z
  cases hl : tab.lookup z with
  | none =>
    rw [hl] at hz q
    exact op_notIn_kd kd pins s σ H _ _ v u Q I rx ry ⟨z, none, rfl, rfl, hz, q⟩
  | some v0 =>
    rw [hl] at hz q
    obtain ⟨u0, e, _⟩ := hz
    exact op_notIn_kd kd pins s σ H _ _ v u Q I rx ry ⟨z, some u0, rfl, rfl, e, q⟩
def rIxT (d : Addr) (tab : List (Str × V)) : R2 := fun x y H Q => ∃ (z : Str) (v : V), x = .ref d ∧ y = .str z ∧ tab.lookup z = some v ∧ Q v H
theorem ix_T (D : TDict X.K X.w d tab) : IxR X (rIxT d tab) := by
  intro value slice pins s σ H x y v u Q I rx ry h hs
  obtain ⟨z, v0, rfl, rfl, hl, q⟩ := h
  obtain ⟨es, n, kd, hz⟩ := D.ex
  have hz := hz z
  rw [hl] at hz
  obtain ⟨u0, e, r⟩ := hz
  exact ix_kdict value slice pins s σ H _ _ v u Q I rx ry ⟨d, z, v0, rfl, rfl, ⟨es, n, u0, kd.at_, kd.lit, e, r⟩, q⟩ hs
end
/-! ### xs == [x], a list of texts -/
def rOne : R2 := fun x y H Q => ∃ (a b : Addr) (ws : List Str) (z : Str), x = .ref a ∧ y = .ref b ∧ H a = some (.lst (ws.map V.str)) ∧ H b = some (.lst [.str z]) ∧ Q (.bl (decide (ws = [z]))) H
theorem op_eqOne {X : Cx} {k : Nat} (hr : Room k X.A) : OpR X (compareOp .Eq) rOne := by
  intro pins s σ H x y v u Q I rx ry h
  obtain ⟨a, b, ws, z, rfl, rfl, ha, hb, q⟩ := h
  cases rx
  cases ry
  obtain ⟨_, its, n, r, g⟩ := (show ObjOk X.prog X.w H s.heap a (.lst (ws.map V.str)) from I.hok a _ ha)
  obtain ⟨_, jts, m, r2, g2⟩ := (show ObjOk X.prog X.w H s.heap b (.lst [.str z]) from I.hok b _ hb)
  show wpAny (model X.prog X.w) X.A (richCompare .Eq (.ref a) (.ref b)) (EP X pins σ Q) X.xe s
  have lj : jts.length = 1 := r2.length.symm
  by_cases hx : ws.length = 1
  · obtain ⟨y, rfl⟩ : ∃ y, ws = [y] := by
      match ws, hx with
      | [y], _ => exact ⟨y, rfl⟩
    cases r with
    | cons r1 rr =>
      cases rr
      cases r2 with
      | cons r3 rr3 =>
        cases rr3
        refine PySem.SeqAt.rcP_lists (e := fun _ => decide (y = z)) ⟨_, g, rfl, n, rfl⟩ ⟨_, g2, rfl, m, rfl⟩ rfl hr.units0 (fun j h1 h2 => ?_) _ _ ?_
        · have hj : j = 0 := by
            have : j < 1 := h1
            omega
          subst hj
          have e := eqAt_V (A := X.A.in1) (s := s) r1 r3 rfl rfl
          have ev : eqV (.str y) (.str z) = decide (y = z) := by
            show (y == z) = decide (y = z)
            by_cases h : y = z
            · simp [h]
            · simp [h]
          rw [ev] at e
          exact fun E Q q => e _ _ E Q q
        · have : decide ([y] = [z]) = decide (y = z) := by
            by_cases h : y = z
            · simp [h]
            · simp [h]
          rw [this] at q
          refine ⟨_, H, I, ?_, q⟩
          show Value.bool _ = Value.bool _
          simp [List.range_succ]
  · rw [decide_eq_false (fun e => hx (by rw [e]; rfl))] at q
    exact list_other hr.units0 g g2 (by rw [List.size_toArray, List.size_toArray, ← r.length, lj, List.length_map]; exact hx) ⟨.bl false, H, I, rfl, q⟩
end Sq
namespace Sq
open PySem L2 PySem.Spec PyProof.Rows
/-! ### d.get(key, x), d a written dict with texts as keys -/
def tGetT (d : Addr) (tab : List (Str × V)) (ty tx : TE) : TE := fun σ H Q => ty σ H fun y H1 => tx σ H1 fun z H2 => ∃ k : Str, y = .str k ∧ Q ((tab.lookup k).getD z) H2
theorem pe_getT {X : Cx} {d : Addr} {tab : List (Str × V)} {e f : Expr} {x : Str} {p apos cpos : Pos} {ty tx : TE} (D : TDict X.K X.w d tab) (hg : Gl X x) (hm : X.mg x = some (.ref d)) (he : PE X e ty) (hf : PE X f tx) (m : M2 X (.Name x p) "get" apos e f cpos) (hdb : (x == ("__debug__" : Str)) = false := by decide) :
    PE X (.Call (.Attribute (.Name x p) "get" apos) [e, f] [] cpos) (tGetT d tab ty tx) := by
  refine ⟨fun pins s σ H Q I h => ?_⟩
  obtain ⟨es, n, kd, hz⟩ := D.ex
  have ho : PE X (.Name x p) (tC (.ref d)) := pe_glob hg hm rfl hdb
  refine wpAny_Call_method m.base m.few m.line PySem.F.plainAttrs_dict PySem.F.slot_dict_get PySem.F.type_dict_get (thn (ho.run pins s σ H (fun v H1 => v = .ref d ∧ H1 = H) I ⟨rfl, rfl⟩) fun u s1 ⟨v, H1, I1, rx, ev, eH⟩ => ?_)
  subst ev eH
  obtain rfl : u = Value.ref d := rx
  have mp := PySem.W.mapOf_K (prog := X.prog) (w := X.w) I1.kIn kd.at_ kd.lit
  refine ⟨mp.typeIs, mp.noDict, ?_⟩
  rw [m.trees]
  refine Calls.callWith_builtin rfl (Calls.evalArgs_plain (Calls.spliced_cons (thn (he.run pins s1 σ _ _ I1 h) fun iv s2 ⟨y, H2, I2, ry, q2⟩ =>
    Calls.spliced_cons (thn (hf.run pins s2 σ H2 _ I2 q2) fun fv s3 ⟨z, H3, I3, rz, k, ey, q3⟩ => Calls.spliced_nil ?_))))
  subst ey
  obtain ⟨t, rfl⟩ := ry
  have hk := hz k
  have mp3 := PySem.W.mapOf_K (prog := X.prog) (w := X.w) I3.kIn kd.at_ kd.lit
  refine call_meetsIn PySem.F.slot_dict_get mp3.typeIs PySem.F.entry_dict_get (PySem.F.args_dict_get_3 _ _ _) (meets_dict_get_default (strKind X.prog X.w) d (strKind_is X.prog X.w k t) kd.low fv) ⟨_, mp3, ?_⟩
  cases hl : tab.lookup k with
  | none =>
    rw [hl] at hk q3
    rw [PySem.W.find_K kd.at_ hk]
    exact ⟨z, H3, I3.tok _, rz, q3⟩
  | some v0 =>
    rw [hl] at hk q3
    obtain ⟨u0, e0, r0⟩ := hk
    rw [PySem.W.find_K kd.at_ e0]
    exact ⟨v0, H3, I3.tok _, r0, q3⟩
/-! ### len(set(xs)), a list of numbers -/
theorem met_len (ns : List Int) : ∀ i, i ≤ ns.length → (∀ x, x ∈ PyProof.Rows.firstMet (fun i => ns.getD i 0) i ↔ x ∈ ns.take i) ∧ ((PyProof.Rows.firstMet (fun i => ns.getD i 0) i).length = i ↔ (ns.take i).Nodup) ∧ (PyProof.Rows.firstMet (fun i => ns.getD i 0) i).length ≤ i
  | 0, _ => ⟨fun x => by rw [PyProof.Rows.firstMet_zero, List.take_zero], by rw [PyProof.Rows.firstMet_zero, List.take_zero]; simp, Nat.le_refl _⟩
  | i + 1, hi => by
    have hlt : i < ns.length := hi
    have e1 : ns.getD i 0 = ns[i] := by rw [List.getD_eq_getElem?_getD, List.getElem?_eq_getElem hlt] <;> rfl
    have e2 : ns.take (i + 1) = ns.take i ++ [ns[i]] := by rw [List.take_add_one, List.getElem?_eq_getElem hlt] <;> rfl
    obtain ⟨m1, m2, m3⟩ := met_len ns i (Nat.le_of_lt hlt)
    have st : PyProof.Rows.firstMet (fun i => ns.getD i 0) (i + 1) = if ns[i] ∈ ns.take i then PyProof.Rows.firstMet (fun i => ns.getD i 0) i else PyProof.Rows.firstMet (fun i => ns.getD i 0) i ++ [ns[i]] := by
      rw [PyProof.Rows.firstMet_succ]
      unfold PyProof.Rows.step_dedup
      rw [e1]
      by_cases h : ns[i] ∈ ns.take i
      · have h' := (m1 _).mpr h
        rw [if_pos h, if_pos (by simpa using h')]
      · have h' : ¬ ns[i] ∈ PyProof.Rows.firstMet (fun i => ns.getD i 0) i := fun z => h ((m1 _).mp z)
        rw [if_neg h, if_neg (by simpa using h')]
    rw [st, e2]
    by_cases h : ns[i] ∈ ns.take i
    · rw [if_pos h]
      refine ⟨fun x => ?_, ?_, by omega⟩
      · rw [m1, List.mem_append, List.mem_singleton]
        exact ⟨.inl, fun z => z.elim id fun e => e ▸ h⟩
      · constructor
        · intro z
          omega
        · intro z
          rw [List.nodup_append] at z
          exact absurd rfl (z.2.2 _ h _ (List.mem_singleton.mpr rfl))
    · rw [if_neg h]
      refine ⟨fun x => ?_, ?_, by rw [List.length_append, List.length_singleton]; omega⟩
      · rw [List.mem_append, List.mem_append, m1]
      · rw [List.length_append, List.length_singleton, List.nodup_append]
        constructor
        · intro z
          refine ⟨m2.mp (by omega), by simp, fun a ha b hb => ?_⟩
          rw [List.mem_singleton.mp hb]
          exact fun e => h (e ▸ ha)
        · rintro ⟨z, _⟩
          rw [m2.mpr z]
def cntI (ns : List Int) : Nat := (PyProof.Rows.firstMet (fun i => ns.getD i 0) ns.length).length
theorem cnt_le (ns : List Int) : cntI ns ≤ ns.length := (met_len ns _ (Nat.le_refl _)).2.2
theorem cnt_nodup (ns : List Int) : cntI ns = ns.length ↔ ns.Nodup := by
  have z := (met_len ns _ (Nat.le_refl _)).2.1
  rw [List.take_length] at z
  exact z
def tLenSetN (K : PySem.W.Frag) (ta : TE) : TE := fun σ H Q => ta σ H fun x H1 => ∃ (l : Addr) (ns : List Int), x = .ref l ∧ SqL K H1 l (ns.map V.int) ∧ ns.length ≤ 4000 ∧ Q (.int (cntI ns : Nat)) H1
theorem pe_lenSetN {X : Cx} {a : Expr} {ta : TE} {p p2 q pos : Pos} (hg : Gl X "len") (hm : X.mg "len" = none) (hg2 : Gl X "set") (hm2 : X.mg "set" = none) (ha : PE X a ta) (hc : X.calm = true := by rfl)
    (na : starEach [a] X.env = (false, eval a X.env) :: starEach [] X.env := by rfl) : PE X (.Call (.Name "len" p) [.Call (.Name "set" p2) [a] [] q] [] pos) (tLenSetN X.K ta) := by
  refine ⟨fun pins s σ H Q I h => ?_⟩
  refine Call_ (ld_blt I hg hm boot_len ?_)
  refine PyProof.Rows.callWith_builtin1 (PyProof.Rows.args_cons ?_ rfl) rfl rfl
  refine Call_ (ld_blt I hg2 hm2 boot_set ?_)
  refine PyProof.Rows.callWith_type1 (PyProof.Rows.args_cons (thn (ha.run pins s σ H _ I h) fun v s1 ⟨x, H1, I1, r1, q1⟩ => PyProof.Rows.args_nil ?_) na) na rfl
  obtain ⟨l, ns, rfl, hq, hl, q1⟩ := q1
  cases r1
  obtain ⟨its, r, pl, hz⟩ := I1.list hq
  have hlen : its.toArray.size = ns.length := by rw [List.size_toArray, ← r.length, List.length_map]
  refine call_set_list (I1.ok.hd hc) pl.isList (by simpa using RZ.intsAre_vals r) (by rw [hlen]; unfold scanBound; omega) fun h' tk hS hk => ?_
  refine PyProof.Rows.args_nil ?_
  rw [hlen] at hS
  obtain ⟨o, es, ep, t, ho, hex, hd, _, _, _, hf, hn⟩ := hS
  have I2 : Inv X pins σ H1 { s1 with heap := h', toks := tk } := I1.kept fun b o e => hk b o (Heap.lt_size e) e
  have hc := cnt_le ns
  unfold cntI at hc
  exact call_len_set ho hex hd hf (by rw [hn] <;> omega) ⟨.int (cntI ns : Nat), H1, I2.tok _, ⟨_, by rw [hn]; rfl⟩, q1⟩
end Sq
namespace Sq
open PySem L2 TL
def obs : List Str := ["-1", "0", "1", "n-1", "n", "n+1", "n//2-1", "n//2", "n//2+1", "(n+1)//2-1", "(n+1)//2", "(n+1)//2+1"]
def ibs : List Str := ["i-1", "i", "i+1", "n-i-1", "n-i", "n-i+1"]
def memB (bs : List Str) (a : Str) : Bool := bs.any fun b => b == a
theorem inV_str (a : Str) (bs : List Str) : inV (.str a) (bs.map V.str) = memB bs a := by
  unfold inV memB
  rw [List.any_map]
  rfl
theorem flat_strs (bs : List Str) : (bs.map V.str).all flatV = true := by
  rw [List.all_map, List.all_eq_true]
  intro x _
  rfl
def cutDown (ws : List Str) : List Str := if ws.getLast? = some ("down" : Str) then ws.dropLast else ws
def loopW (bs ws : List Str) : Bool := match ws with
  | [a, b, c] => memB bs a && (decide (b = "to") && memB bs c)
  | _ => false
def loopB (bs : List Str) (z : Str) : Bool := loopW bs (cutDown (Txt.split z " "))
def okLoop (bs : List Str) : V → Bool
  | .str z => loopB bs z
  | _ => false
/-- a value that may be passed where a text is asked for: a text of some length, or no text at all -/
def Any (K : PySem.W.Frag) (H : Hp) (v : V) : Prop := (∃ z : Str, v = .str z ∧ z.length + 2 ≤ sizeLine) ∨ ((∀ z, v ≠ .str z) ∧ ∃ t, TyX K H v t ∧ PySem.W.kitOne K t (.type "str") = some false)
theorem okLoop_no {bs : List Str} {v : V} (h : ∀ z, v ≠ .str z) : okLoop bs v = false := by
  cases v with
  | str z => exact absurd rfl (h z)
  | _ => rfl
theorem spl_ne (S : List Nat) : ∀ (l : List Nat) (k : Nat) (acc : List Nat), spl S k acc l ≠ []
  | [], k, acc => by rw [spl_nil]; exact List.cons_ne_nil _ _
  | c :: r, 0, acc => by
    unfold spl
    split
    · exact List.cons_ne_nil _ _
    · exact spl_ne S r 0 _
  | _ :: r, k + 1, acc => spl_ne S r k acc
theorem kind_one (z y : Str) (h : y.cps.all (· < 256) = true) : ¬ Builtin.Str.strKind z < Builtin.Str.strKind y := by
  have h1 : Builtin.Str.strKind y = 1 := by
    unfold Builtin.Str.strKind
    rw [if_pos h]
  have h2 : 1 ≤ Builtin.Str.strKind z := by
    unfold Builtin.Str.strKind
    split
    · omega
    · split <;> omega
  omega
theorem split_ne (z : Str) : Txt.split z " " ≠ [] := by
  intro e
  have h := split_spl z " " (by decide +kernel) (kind_one z " " (by decide +kernel))
  rw [e] at h
  exact spl_ne _ _ _ _ h.symm
theorem last_of {ws : List Str} (h : ws ≠ []) : ∃ as z, ws = as ++ [z] := ⟨ws.dropLast, ws.getLast h, (List.dropLast_concat_getLast h).symm⟩
theorem sIx_last (n : Nat) (d : Nat) : HT.sIx (n + 1) d (some (-1)) = n := by
  show (if (-1 : Int) < 0 then ((-1 : Int) + ((n + 1 : Nat) : Int)).toNat else min (-1 : Int).toNat (n + 1)) = n
  rw [if_pos (by decide)]
  omega
theorem cut_last (as : List Str) (z : Str) : cutV ((as ++ [z]).map V.str) none (some (-1)) = as.map V.str := by
  unfold cutV
  have e : ((as ++ [z]).map V.str).length = as.length + 1 := by simp
  rw [e, sIx_last, HT.sIx_none, Nat.sub_zero, List.drop_zero, List.map_append, List.take_append_of_le_length (by simp), List.take_of_length_le (by simp)]
/-- the names that the program's checks use -/
structure Ck (K : PySem.W.Frag) (mg : Str → Option Value) : Prop where
  isinstance : mg "isinstance" = none
  str : mg "str" = none
theorem loopW_len (bs : List Str) : ∀ ws : List Str, ws.length ≠ 3 → loopW bs ws = false
  | [], _ => rfl
  | [_], _ => rfl
  | [_, _], _ => rfl
  | [_, _, _], h => absurd rfl h
  | _ :: _ :: _ :: _ :: _, _ => rfl
theorem three_of : ∀ ws : List Str, ws.length = 3 → ∃ a b c, ws = [a, b, c]
  | [a, b, c], _ => ⟨a, b, c, rfl⟩
theorem tyOf_ext {K : PySem.W.Frag} {H H' : Hp} {x : V} {t : Value} (e : Same H H') (h : TyOf K H x t) : TyOf K H' x t := by
  cases h with
  | non => exact .non
  | bl x => exact .bl x
  | int i => exact .int i
  | str x => exact .str x
  | flt x => exact .flt x
  | lst h => exact .lst (e _ _ h)
  | frz h => exact .frz (e _ _ h)
  | tup h => exact .tup (e _ _ h)
  | dK h => exact .dK (e _ _ h)
  | dT h => exact .dT (e _ _ h)
  | ins h c a n k m => exact .ins (e _ _ h) c a n k m
theorem tyX_ext {K : PySem.W.Frag} {H H' : Hp} {x : V} {t : Value} (e : Same H H') (h : TyX K H x t) : TyX K H' x t := by
  cases h
  case base h => exact .base (tyOf_ext e h)
  case byt => exact .byt _
  case set h => exact .set (e _ _ h)
  case kList h c => exact .kList h c
  case kTuple h c => exact .kTuple h c
  case kDict h c => exact .kDict h c
  case fTuple h => exact .fTuple (e _ _ h)
  case fDict h => exact .fDict (e _ _ h)
theorem Any.ext {K : PySem.W.Frag} {H H' : Hp} {v : V} (e : Same H H') (h : Any K H v) : Any K H' v := by
  rcases h with h | ⟨h1, t, h2, h3⟩
  · exact .inl h
  · exact .inr ⟨h1, t, tyX_ext e h2, h3⟩
def fw (i m : Nat) : List Bool → Option Nat
  | [] => none
  | b :: r => if i = m ∨ b = false then some i else fw (i + 1) m r
def optV : Option Nat → V
  | none => .non
  | some i => .int (i : Int)

/-- the bounds: their three numbers -/
def btab : List (Str × Int × Int × Int) := [("-1", 0, 0, -1), ("0", 0, 0, 0), ("1", 0, 0, 1), ("n-1", 1, 0, -1), ("n", 1, 0, 0), ("n+1", 1, 0, 1), ("n//2-1", 2, 0, -1), ("n//2", 2, 0, 0), ("n//2+1", 2, 0, 1), ("(n+1)//2-1", 3, 0, -1), ("(n+1)//2", 3, 0, 0), ("(n+1)//2+1", 3, 0, 1),
  ("i-1", 0, 1, -1), ("i", 0, 1, 0), ("i+1", 0, 1, 1), ("n-i-1", 1, -1, -1), ("n-i", 1, -1, 0), ("n-i+1", 1, -1, 1)]
theorem btab_names : btab.map (·.1) = obs ++ ibs := by decide +kernel
theorem btab_step : ∀ q ∈ btab, decide (q.2.2.1 = 0) = memB obs q.1 := by decide +kernel
/-- the three numbers stand at a -/
def Bd (K : PySem.W.Frag) (a : Addr) (t : Int × Int × Int) : Prop := ∀ H, SqT K H a [.int t.1, .int t.2.1, .int t.2.2]
/-- the written dict of the bounds -/
structure BndD (K : PySem.W.Frag) (w : World) (d : Addr) : Prop where
  ex : ∃ L : List (Str × Addr × Int × Int × Int), TDict K w d (L.map fun q => (q.1, V.ref q.2.1)) ∧ (∀ q ∈ L, Bd K q.2.1 q.2.2) ∧ L.map (fun q => (q.1, q.2.2)) = btab
theorem look_map (L : List (Str × Addr × Int × Int × Int)) (z : Str) : match (L.map fun q => (q.1, V.ref q.2.1)).lookup z with
    | none => ∀ q ∈ L, q.1 ≠ z
    | some v => ∃ q ∈ L, q.1 = z ∧ v = .ref q.2.1 := by
  induction L with
  | nil => exact fun q hq => by cases hq
  | cons q L ih =>
    by_cases h : z = q.1
    · subst h
      have l : ((q :: L).map fun q => (q.1, V.ref q.2.1)).lookup q.1 = some (.ref q.2.1) := by simp [List.lookup]
      rw [l]
      exact ⟨q, List.mem_cons_self .., rfl, rfl⟩
    · have hz : (z == q.1) = false := by simpa using h
      have l : ((q :: L).map fun q => (q.1, V.ref q.2.1)).lookup z = (L.map fun q => (q.1, V.ref q.2.1)).lookup z := by simp [List.lookup, hz]
      rw [l]
      cases e : (L.map fun q => (q.1, V.ref q.2.1)).lookup z with
      | none =>
        rw [e] at ih
        intro r hr
        rcases List.mem_cons.mp hr with rfl | hr
        · exact fun e => h e.symm
        · exact ih r hr
      | some v =>
        rw [e] at ih
        obtain ⟨r, hr, e1, e2⟩ := ih
        exact ⟨r, List.mem_cons_of_mem _ hr, e1, e2⟩
theorem memB_iff {bs : List Str} {a : Str} : memB bs a = true ↔ a ∈ bs := by
  unfold memB
  rw [List.any_eq_true]
  constructor
  · rintro ⟨x, hx, e⟩
    rw [beq_iff_eq] at e
    exact e ▸ hx
  · exact fun h => ⟨a, h, by simp⟩
theorem bnd_none {L : List (Str × Addr × Int × Int × Int)} (h : L.map (fun q => (q.1, q.2.2)) = btab) (z : Str) : ((L.map fun q => (q.1, V.ref q.2.1)).lookup z).isSome = memB (obs ++ ibs) z := by
  have nm : L.map (·.1) = obs ++ ibs := by
    rw [← btab_names, ← h, List.map_map]
    rfl
  have lm := look_map L z
  cases e : (L.map fun q => (q.1, V.ref q.2.1)).lookup z with
  | none =>
    rw [e] at lm
    cases hm : memB (obs ++ ibs) z with
    | false => rfl
    | true =>
      have := memB_iff.mp hm
      rw [← nm] at this
      obtain ⟨q, hq, e2⟩ := List.mem_map.mp this
      exact absurd e2 (lm q hq)
  | some v =>
    rw [e] at lm
    obtain ⟨q, hq, e1, _⟩ := lm
    have : z ∈ obs ++ ibs := by
      rw [← nm, ← e1]
      exact List.mem_map_of_mem hq
    rw [memB_iff.mpr this]
    rfl
theorem bnd_some {K : PySem.W.Frag} {L : List (Str × Addr × Int × Int × Int)} (hb : ∀ q ∈ L, Bd K q.2.1 q.2.2) (h : L.map (fun q => (q.1, q.2.2)) = btab) {z : Str} (m : memB (obs ++ ibs) z = true) :
    ∃ a t, (L.map fun q => (q.1, V.ref q.2.1)).lookup z = some (.ref a) ∧ Bd K a t ∧ (z, t) ∈ btab := by
  have z1 := bnd_none h z
  rw [m] at z1
  have lm := look_map L z
  cases e : (L.map fun q => (q.1, V.ref q.2.1)).lookup z with
  | none =>
    rw [e] at z1
    cases z1
  | some v =>
    rw [e] at lm
    obtain ⟨q, hq, e1, rfl⟩ := lm
    refine ⟨q.2.1, q.2.2, rfl, hb q hq, ?_⟩
    rw [← h, ← e1]
    exact List.mem_map_of_mem (f := fun q : Str × Addr × Int × Int × Int => (q.1, q.2.2)) hq
theorem BndD.of {K : PySem.W.Frag} {w : World} {d : Addr} {es : Array DictEntry} {n : Nat} (lk : K.lookup d = some ⟨.type "dict", none, .dict es n, #[]⟩) (lit : PySem.W.KeysLit w.params es.toList) (hs : (d == sysModules) = false)
    (hk : es.toList.map (fun e => (strW e.key, tupW K e.val)) = btab.map (fun q => (some q.1, some [q.2.1, q.2.2.1, q.2.2.2]))) : BndD K w d := by
  have go : ∀ {es : List DictEntry} {tb : List (Str × Int × Int × Int)}, es.map (fun e => (strW e.key, tupW K e.val)) = tb.map (fun q => (some q.1, some [q.2.1, q.2.2.1, q.2.2.2])) →
      ∃ L : List (Str × Addr × Int × Int × Int), es.map (fun e => strW e.key) = L.map (fun q => some q.1) ∧ Vals (L.map fun q => V.ref q.2.1) (es.map (·.val)) ∧ (∀ q ∈ L, Bd K q.2.1 q.2.2) ∧ L.map (fun q => (q.1, q.2.2)) = tb := by
    intro es
    induction es with
    | nil =>
      intro tb h
      cases tb with
      | nil => exact ⟨[], rfl, .nil, (fun q hq => by cases hq), rfl⟩
      | cons _ _ => cases h
    | cons e es ih =>
      intro tb h
      cases tb with
      | nil => cases h
      | cons q tb =>
        obtain ⟨h1, h2⟩ := List.cons.inj h
        obtain ⟨L, a1, a2, a3, a4⟩ := ih h2
        obtain ⟨k1, k2⟩ := Prod.mk.inj h1
        obtain ⟨a, ea, ha⟩ := tupW_at k2 (Nat.le_refl _)
        refine ⟨(q.1, a, q.2) :: L, ?_, ?_, ?_, ?_⟩
        · rw [List.map_cons, List.map_cons, a1]
          exact congrArg (fun x => x :: _) k1
        · exact .cons (by show RelV (V.ref a) e.val; rw [ea]; rfl) a2
        · intro r hr
          rcases List.mem_cons.mp hr with e2 | hr
          · rw [e2]
            exact ha
          · exact a3 r hr
        · rw [List.map_cons, a4]
  obtain ⟨L, a1, a2, a3, a4⟩ := go hk
  refine ⟨L, TDict.of lk lit hs ?_ ?_, a3, a4⟩
  · rw [a1, List.map_map]
    rfl
  · rw [List.map_map]
    exact a2
theorem cut_drop (l : List Str) (k : Nat) : cutV (l.map V.str) (some (k : Int)) none = (l.drop k).map V.str := by
  unfold cutV
  rw [HT.sIx_none, HT.sIx_nat, List.length_map]
  by_cases h : k ≤ l.length
  · rw [Nat.min_eq_left h, List.take_of_length_le (by rw [List.length_drop, List.length_map]; exact Nat.le_refl _), List.map_drop]
  · rw [Nat.min_eq_right (by omega), Nat.sub_self, List.take_zero, List.drop_eq_nil_of_le (by omega)]
    rfl
end Sq
namespace Sq
open PySem L2 TL
/-- a loop's words, its two bounds as numbers, and whether it descends -/
structure LoopR (z : Str) (t1 t2 : Int × Int × Int) (d : Bool) : Prop where
  words : ∃ w0 w2 : Str, (w0, t1) ∈ btab ∧ (w2, t2) ∈ btab ∧ Txt.split z " " = [w0, "to", w2] ++ (if d = true then [("down" : Str)] else [])
/-- what was read in a loop stands at p -/
def LoopAt (K : PySem.W.Frag) (H : Hp) (p : Addr) (z : Str) : Prop := ∃ a1 a2 t1 t2 d, H p = some (.tup [.ref a1, .ref a2, .int (if d = true then 1 else 0)]) ∧ Bd K a1 t1 ∧ Bd K a2 t2 ∧ LoopR z t1 t2 d
def spReadL (K : PySem.W.Frag) (bs : List Str) : Sp := fun vs H Q _ => ∃ v : V, vs = [v] ∧ Any K H v ∧ (okLoop bs v = false → ∀ H', Same H H' → Q .non H') ∧
  (okLoop bs v = true → ∀ z p H', v = .str z → H p = none → Same H H' → LoopAt K H' p z → Q (.ref p) H')
theorem cut_yes (as : List Str) : cutDown (as ++ [("down" : Str)]) = as := by
  unfold cutDown
  rw [List.getLast?_concat, if_pos rfl, List.dropLast_concat]
theorem cut_no (as : List Str) {z : Str} (h : z ≠ "down") : cutDown (as ++ [z]) = as ++ [z] := by
  unfold cutDown
  rw [List.getLast?_concat, if_neg (fun e => h (Option.some.inj e))]
theorem down_no : memB (obs ++ ibs) "down" = false := by decide +kernel
/-- the words that the program takes for a loop's -/
def rdW (ws : List Str) : Bool := decide (ws.length = 3 + (if ws.drop 3 = [("down" : Str)] then 1 else 0)) && (decide (ws.getD 1 "" = "to") && (memB (obs ++ ibs) (ws.getD 0 "") && memB (obs ++ ibs) (ws.getD 2 "")))
theorem rd_loop : ∀ ws : List Str, ws ≠ [] → loopW (obs ++ ibs) (cutDown ws) = rdW ws
  | [], h => absurd rfl h
  | [a], _ => by
    have e : rdW [a] = false := by simp [rdW]
    rw [e]
    unfold cutDown
    split <;> rfl
  | [a, b], _ => by
    have e : rdW [a, b] = false := by simp [rdW]
    rw [e]
    unfold cutDown
    split <;> rfl
  | [a, b, c], _ => by
    by_cases h : c = "down"
    · subst h
      have e : rdW [a, b, "down"] = false := by simp [rdW, down_no]
      rw [e, show [a, b, ("down" : Str)] = [a, b] ++ [("down" : Str)] from rfl, cut_yes]
      rfl
    · rw [show cutDown [a, b, c] = [a, b, c] from cut_no [a, b] h]
      unfold rdW loopW
      simp
      cases memB (obs ++ ibs) a <;> cases memB (obs ++ ibs) c <;> simp
  | [a, b, c, d], _ => by
    by_cases h : d = "down"
    · subst h
      rw [show cutDown [a, b, c, ("down" : Str)] = [a, b, c] from cut_yes [a, b, c]]
      unfold rdW
      simp [loopW]
      cases memB (obs ++ ibs) a <;> cases memB (obs ++ ibs) c <;> simp
    · rw [show cutDown [a, b, c, d] = [a, b, c, d] from cut_no [a, b, c] h]
      have e : rdW [a, b, c, d] = false := by simp [rdW, h]
      rw [e]
      rfl
  | a :: b :: c :: d :: e :: r, _ => by
    have e1 : rdW (a :: b :: c :: d :: e :: r) = false := by simp [rdW]
    rw [e1]
    refine loopW_len _ _ ?_
    unfold cutDown
    split
    · rw [List.length_dropLast]
      simp
    · simp
theorem ok_rd (z : Str) : okLoop (obs ++ ibs) (.str z) = rdW (Txt.split z " ") := rd_loop _ (split_ne z)
/-- what the words are then -/
theorem rd_words {ws : List Str} (h : rdW ws = true) : ∃ a c : Str, ws = [a, ("to" : Str), c] ++ (if ws.drop 3 = [("down" : Str)] then [("down" : Str)] else []) ∧ memB (obs ++ ibs) a = true ∧ memB (obs ++ ibs) c = true := by
  unfold rdW at h
  simp only [Bool.and_eq_true, decide_eq_true_eq] at h
  obtain ⟨h1, h2, h3, h4⟩ := h
  by_cases hd : ws.drop 3 = [("down" : Str)]
  · rw [if_pos hd] at h1 ⊢
    match ws, h1, hd, h2, h3, h4 with
    | [a, b, c, d], _, hd, h2, h3, h4 =>
      have hd : [d] = [("down" : Str)] := hd
      have h2 : b = "to" := h2
      cases hd
      subst h2
      exact ⟨a, c, rfl, h3, h4⟩
  · rw [if_neg hd] at h1 ⊢
    match ws, h1, hd, h2, h3, h4 with
    | [a, b, c], _, hd, h2, h3, h4 =>
      have h2 : b = "to" := h2
      subst h2
      exact ⟨a, c, rfl, h3, h4⟩
/-- the bounds of an outer loop: those without i -/
theorem outer_step {z : Str} {t1 t2 : Int × Int × Int} {d : Bool} (h : LoopR z t1 t2 d) : okLoop obs (.str z) = (decide (t1.2.1 = 0) && decide (t2.2.1 = 0)) := by
  obtain ⟨w0, w2, m0, m2, hs⟩ := h.words
  have e0 := btab_step _ m0
  have e2 := btab_step _ m2
  simp only at e0 e2
  rw [e0, e2]
  have n2 : w2 ≠ "down" := fun e => by
    have : memB (obs ++ ibs) "down" = true := memB_iff.mpr (by rw [← btab_names, ← e]; exact List.mem_map_of_mem (f := fun q : Str × Int × Int × Int => q.1) m2)
    rw [down_no] at this
    cases this
  show loopW obs (cutDown (Txt.split z " ")) = _
  rw [hs]
  cases d with
  | true =>
    rw [show cutDown ([w0, "to", w2] ++ (if true = true then [("down" : Str)] else [])) = [w0, "to", w2] from cut_yes [w0, "to", w2]]
    show (memB obs w0 && (decide (("to" : Str) = "to") && memB obs w2)) = _
    simp
  | false =>
    rw [show cutDown ([w0, "to", w2] ++ (if false = true then [("down" : Str)] else [])) = [w0, "to", w2] from cut_no [w0, "to"] n2]
    show (memB obs w0 && (decide (("to" : Str) = "to") && memB obs w2)) = _
    simp
theorem outer_inner {v : V} (h : okLoop obs v = true) : okLoop (obs ++ ibs) v = true := by
  cases v with
  | str z =>
    have h : loopW obs (cutDown (Txt.split z " ")) = true := h
    show loopW (obs ++ ibs) (cutDown (Txt.split z " ")) = true
    have up : ∀ a, memB obs a = true → memB (obs ++ ibs) a = true := fun a m => memB_iff.mpr (List.mem_append_left _ (memB_iff.mp m))
    revert h
    generalize cutDown (Txt.split z " ") = ws
    intro h
    match ws, h with
    | [a, b, c], h =>
      have h : (memB obs a && (decide (b = "to") && memB obs c)) = true := h
      show (memB (obs ++ ibs) a && (decide (b = "to") && memB (obs ++ ibs) c)) = true
      simp only [Bool.and_eq_true] at h ⊢
      exact ⟨up _ h.1, h.2.1, up _ h.2.2⟩
  | _ => cases h
theorem set_ {te : TE} {i : Nat} {D : Ends} {σ : L2.St} {H : Hp} (h : te σ H fun x H1 => D.nx (σ.set i (some x)) H1) : tAsg te (gName i) D σ H := h
theorem LoopAt.same {K : PySem.W.Frag} {H H' : Hp} {p : Addr} {z : Str} (h : LoopAt K H p z) (s : Same H H') : LoopAt K H' p z := by
  obtain ⟨a1, a2, t1, t2, d, h1, h2, h3, h4⟩ := h
  exact ⟨a1, a2, t1, t2, d, s _ _ h1, h2, h3, h4⟩
end Sq
namespace Sq
open PySem L2 PySem.Spec PyProof.Rows
/-- how many different texts -/
def dcount : List Str → Nat
  | [] => 0
  | x :: r => if r.any (· == x) = true then dcount r else dcount r + 1
theorem dcount_le : ∀ xs : List Str, dcount xs ≤ xs.length
  | [] => Nat.le_refl _
  | x :: r => by
    have ih := dcount_le r
    unfold dcount
    rw [List.length_cons]
    split <;> omega
/-- of the first i texts, looked at from the last -/
def seen (xs : List Str) (i : Nat) : List Str := (xs.take i).reverse
theorem seen_succ {xs : List Str} {i : Nat} {x : Str} (h : xs[i]? = some x) : seen xs (i + 1) = x :: seen xs i := by
  unfold seen
  rw [List.take_add_one, h]
  simp
section
variable {prog : Program} {w : World} {A : Around} {R : Result → Shared → Prop} {I : Addr} {fp wr : List Addr} {G : Array GenState → Array GenState → Prop} {n : Nat} {P : Nat → Value → Prop} {St : Nat → Shared → Prop}
/-- set.update over any walk of texts -/
theorem grow_set (W : WalksS prog w A.in1 I fp wr G n P St) (S : Addr) (hSf : S ∉ fp) (xs : List Str) (hval : ∀ i v, P i v → ∃ x t, xs[i]? = some x ∧ v = .str x t) (hz : n = xs.length) (hb : n + 1 < scanBound) :
    ∀ (k i : Nat) (s : Shared), n - i = k → i ≤ n → St i s → s.heap.SetOf (PySem.strKind prog w) S (fun k => (seen xs i).any (· == k)) (dcount (seen xs i)) →
      (∀ s', Moved (S :: wr) G s s' → s'.heap.SetOf (PySem.strKind prog w) S (fun k => (seen xs n).any (· == k)) (dcount (seen xs n)) → R (.ok (.ret .none)) s') →
      codeAny (model prog w) A (.builtin "set.update.loop" ⟨[.ref S, .ref I], []⟩) R s := by
  have nSw : S ∉ wr := fun h => hSf (W.sub _ h)
  have more : ∀ b ∈ wr, b ∈ S :: wr := fun b hb => List.mem_cons_of_mem _ hb
  have carry : ∀ {s s' : Shared} {T : Str → Bool} {m : Nat}, Moved wr G s s' → s.heap.SetOf (PySem.strKind prog w) S T m → s'.heap.SetOf (PySem.strKind prog w) S T m := fun {s s' T m} hm hS => by
    obtain ⟨o, es, ep, tb, ho, rest⟩ := hS
    exact ⟨o, es, ep, tb, hm.heap S _ nSw ho, rest⟩
  intro k
  induction k with
  | zero =>
    intro i s hk hi hst hS hR
    obtain rfl : i = n := by omega
    apply codeAny_builtin PyProof.Rows.F.entry_set_update_loop
    rw [Around.under_plainId PyProof.Rows.F.plain_set_update_loop _]
    show wpAny _ A.in1 (pyNext (.ref I) >>= _) _ _ s
    exact wpAny_bind (W.done s _ _ hst fun s' hm => wpAny_pure (hR s' (hm.mono more) (carry hm hS)))
  | succ k ih =>
    intro i s hk hi hst hS hR
    have hlt : i < n := by omega
    apply codeAny_builtin PyProof.Rows.F.entry_set_update_loop
    rw [Around.under_plainId PyProof.Rows.F.plain_set_update_loop _]
    show wpAny _ A.in1 (pyNext (.ref I) >>= _) _ _ s
    refine wpAny_bind (W.item i s _ _ hlt hst fun v s' hP hst' hm => ?_)
    obtain ⟨x, t, hx, rfl⟩ := hval i v hP
    have hS1 := carry hm hS
    have room : dcount (seen xs i) + 1 < scanBound := by
      have h1 := dcount_le (seen xs i)
      have h2 : (seen xs i).length ≤ i := by
        unfold seen
        rw [List.length_reverse, List.length_take]
        omega
      omega
    show wpAny _ A.in1 (holding [Value.str x t] (setAdd S (.str x t)) >>= _) _ _ s'
    apply wpAny_bind
    apply wpAny_holding
    unfold setAdd
    apply wpAny_holding
    refine wpAny_bind ((PySem.strKind prog w).pyHash (k := x) (strKind_is _ _ _ _) ?_)
    refine wpAny_setAddHashed_of (knd := PySem.strKind prog w) (s := { s' with toks := s'.toks + 1 }) (strKind_is _ _ _ _) rfl hS1 room fun h' same hS2 => ?_
    have next : h'.SetOf (PySem.strKind prog w) S (fun k => (seen xs (i + 1)).any (· == k)) (dcount (seen xs (i + 1))) := by
      rw [seen_succ hx]
      refine SetOf_congr hS2 (fun k' => ?_) ?_
      · rw [List.any_cons, Bool.or_comm]
        by_cases e : k' = x
        · subst e
          simp
        · have e2 : ¬ x = k' := fun q => e q.symm
          simp [e, e2]
      · show (if (seen xs i).any (· == x) = true then dcount (seen xs i) else dcount (seen xs i) + 1) = _
        rfl
    refine wpAny_pure ⟨plainId_quiet PyProof.Rows.F.plain_set_update_loop _, ih (i + 1) _ (by omega) hlt (W.frame _ s' _ _ hst' (Nat.le_succ _) fun b hb o e => ?_) next fun s'' hm2 hS3 => hR s'' ?_ hS3⟩
    · rw [same.2 b fun q => hSf (q ▸ hb)]
      exact e
    · refine Moved.trans W.gtrans ((hm.mono more).then_heap (Nat.le_succ _) fun b o hb e => ?_) hm2
      rw [same.2 b fun q => hb (q ▸ List.mem_cons_self)]
      exact e
end
section
variable {prog : Program} {w : World} {A : Around} {E : Value → Shared → Prop} {s : Shared}
theorem strs_get : ∀ {us : List Value} {xs : List Str}, Vals (xs.map V.str) us → ∀ (i : Nat) (v : Value), us[i]? = some v → ∃ x t, xs[i]? = some x ∧ v = .str x t
  | [], [], _, i, v, h => by simp at h
  | u :: us, x :: xs, .cons r q, 0, v, h => by
    obtain ⟨t, e⟩ := r
    refine ⟨x, t, rfl, ?_⟩
    rw [← e]
    simpa using h.symm
  | u :: us, x :: xs, .cons r q, i + 1, v, h => by
    obtain ⟨y, t, h1, h2⟩ := strs_get q i v (by simpa using h)
    exact ⟨y, t, by simpa using h1, h2⟩
  | [], _ :: _, r, _, _, _ => by cases r
  | _ :: _, [], r, _, _, _ => by cases r
set_option maxHeartbeats 16000000 in
/-- set(xs) of a list of texts -/
theorem set_of_list {l : Addr} {items : Array Value} {xs : List Str} {Q : Value → Shared → Prop} (hh : A.handled = none) (hl : s.heap.IsList l items) (hi : Vals (xs.map V.str) items.toList) (hb : items.size + 1 < scanBound)
    (h : ∀ (h' : Heap) (tk : Nat), h'.SetOf (PySem.strKind prog w) s.heap.objs.size (fun k => (seen xs items.size).any (· == k)) (dcount (seen xs items.size)) →
      (∀ b o, b < s.heap.objs.size → s.heap.get? b = some o → h'.get? b = some o) → Q (.ref s.heap.objs.size) { s with heap := h', toks := tk }) :
    wpAny (model prog w) A (call (.type "set") [.ref l]) Q E s := by
  have c0 := PySem.F.called_set
  obtain ⟨c, tl, hmro⟩ := c0.mro
  have hmade := c0.made
  have hsub := c0.sub
  apply wpAny_call
  apply codeAny_of_tree
  show wpAny _ _ (callAny (.type "set") _) _ _ _
  apply wpAny_pure
  refine ⟨Code.quiet_builtin _ (by decide +kernel), codeAny_builtin PySem.F.entry_type_call ?_⟩
  rw [Around.under_plain (weight_type_call_type "set" [.ref l] []) rfl]
  have h1 := c0.notType
  have h2 := c0.canCreate
  have hct := PySem.F.typeCall_set_1 (.ref l)
  repeat (any_goals (first | assumption | wp_step))
  refine codeAny_mono (code_set_new_1 (.ref l) (E := E) (Q₁ := fun obj z => ∃ led : Bool, obj = .ref s.heap.objs.size ∧ z = { s with heap := s.heap.push { cls := .type "set", dict := none, data := .set #[] 0 (.fresh 0 0 led) } })
    fun led => ⟨led, rfl, rfl⟩) ?_
  rintro (er | (obj | _ | _ | _)) z hr
  case error => exact hr
  case ok.next => exact hr.elim
  case ok.brk => exact hr.elim
  case ok.cont => exact hr.elim
  obtain ⟨led, e1, rfl⟩ := hr
  cases e1
  let o0 : Obj := { cls := .type "set", dict := none, data := .set #[] 0 (.fresh 0 0 led) }
  have at0 : (s.heap.push o0).get? s.heap.objs.size = some o0 := Heap.get?_push_size _ rfl
  have hT : Shared.TypeIs { s with heap := s.heap.push o0 } (.ref s.heap.objs.size) "set" := ⟨_, at0, rfl⟩
  have hli := c0.init.lookup
  have hbi := c0.init.bind (.ref s.heap.objs.size)
  repeat (any_goals (first | assumption | wp_step))
  refine codeAny_mono (codeAny_call_builtin (R := wants (fun r z => r = .none ∧ ∃ h' tk, z = { s with heap := h', toks := tk } ∧
      h'.SetOf (PySem.strKind prog w) s.heap.objs.size (fun k => (seen xs items.size).any (· == k)) (dcount (seen xs items.size)) ∧
      (∀ b o, b < s.heap.objs.size → s.heap.get? b = some o → h'.get? b = some o)) E) c0.init.plain PySem.F.entry_set_init (check_set_init_1 hT ?_)) ?_
  · obtain ⟨⟨lc, ld, ldat, ls⟩, hol, hcl, nl, hdl⟩ := hl
    simp only at hcl hdl
    subst hcl hdl
    have lt : l < s.heap.objs.size := Heap.lt_size hol
    have hol1 : (s.heap.push o0).get? l = some { cls := .type "list", dict := ld, data := .seq items nl, slots := ls } := Heap.get?_push_of_some _ hol
    have z1 := PySem.F.sub_list_set
    have z2 := PySem.F.sub_list_frozenset
    have z3 : (Value.type "list" == Value.type "dict") = false := by decide
    have hl1 : (s.heap.push o0).IsList l items := ⟨_, hol1, rfl, nl, rfl⟩
    unfold Builtin.«set.__init__» noKeywords Builtin.Frozenset.updateFrom
    generalize hPI : pyIter = PI
    wp_walk
    subst hPI
    refine wpAny_pyIter_list hl1 (wpAny_bind (wpAny_runValue ?_))
    have sz1 : (s.heap.push o0).objs.size = s.heap.objs.size + 1 := Heap.size_push _ _
    have hh3 : A.in1.in1.in1.handled = none := by simp [hh]
    have neI : l ≠ (s.heap.push o0).objs.size := by rw [sz1]; exact Nat.ne_of_lt (Nat.lt_succ_of_lt lt)
    have nfp : s.heap.objs.size ∉ [(s.heap.push o0).objs.size, l] := by
      rw [sz1]
      simp only [List.mem_cons, List.not_mem_nil, or_false, not_or]
      exact ⟨Nat.ne_of_lt (Nat.lt_succ_self _), Nat.ne_of_gt lt⟩
    have hsz : items.size = xs.length := by
      have e := hi.length
      rw [List.length_map, Array.length_toList] at e
      exact e.symm
    refine grow_set ((Walks.list hh3 _ l neI items).toS) s.heap.objs.size nfp xs (fun i v hv => strs_get hi i v (by rw [Array.getElem?_toList]; exact hv)) hsz hb items.size 0 _ rfl (Nat.zero_le _)
      ⟨⟨_, Heap.get?_push_size _ rfl, rfl, rfl⟩, hl1.push _⟩ ?_ ?_
    · have get2 : ((s.heap.push o0).push { cls := .type "list_iterator", data := .fields #[.ref l, .int 0 0] }).get? s.heap.objs.size = some o0 := Heap.get?_push_of_some _ at0
      exact SetOf_congr ((PyProof.Rows.setObjOf_fresh (knd := PySem.strKind prog w) led).setOf get2 (by unfold scanBound; omega)) (fun _ => rfl) rfl
    · intro s' hm hS'
      obtain ⟨h', g', d', tk', os'⟩ := s'
      obtain rfl : g' = s.gens := hm.gens
      obtain rfl : d' = s.drawn := hm.drawn
      obtain rfl : os' = s.os := hm.os
      show wpAny _ _ _ _ _ _
      apply wpAny_pure
      show wpAny _ _ (ret Value.none) _ _ _
      refine wpAny_pure ⟨rfl, h', tk', rfl, hS', fun b o hb e => ?_⟩
      refine hm.heap b o ?_ (Heap.get?_push_of_some _ (Heap.get?_push_of_some _ e))
      rw [sz1]
      simp only [List.mem_cons, List.not_mem_nil, or_false, not_or]
      exact ⟨Nat.ne_of_lt hb, Nat.ne_of_lt (Nat.lt_succ_of_lt hb)⟩
  · rintro (er | (r | _ | _ | _)) z hr
    case error => exact hr
    case ok.next => exact hr.elim
    case ok.brk => exact hr.elim
    case ok.cont => exact hr.elim
    obtain ⟨rfl, h', tk, rfl, hS', hk'⟩ := hr
    repeat (any_goals (first | assumption | wp_step))
    exact h _ _ hS' hk'
end

/-- len(set(xs)), xs a list of texts -/
def tLenSetS (K : PySem.W.Frag) (ta : TE) : TE := fun σ H Q => ta σ H fun x H1 => ∃ (l : Addr) (xs : List Str), x = .ref l ∧ SqL K H1 l (xs.map V.str) ∧ xs.length ≤ 4000 ∧ Q (.int (dcount xs.reverse : Nat)) H1
theorem pe_lenSetS {X : Cx} {a : Expr} {ta : TE} {p p2 q pos : Pos} (hg : Gl X "len") (hm : X.mg "len" = none) (hg2 : Gl X "set") (hm2 : X.mg "set" = none) (ha : PE X a ta) (hc : X.calm = true := by rfl)
    (na : starEach [a] X.env = (false, eval a X.env) :: starEach [] X.env := by rfl) : PE X (.Call (.Name "len" p) [.Call (.Name "set" p2) [a] [] q] [] pos) (tLenSetS X.K ta) := by
  constructor
  intro pins s σ H Q I h
  refine Call_ (ld_blt I hg hm boot_len (PyProof.Rows.callWith_builtin1 (PyProof.Rows.args_cons ?_ rfl) rfl rfl))
  refine Call_ (ld_blt I hg2 hm2 boot_set (PyProof.Rows.callWith_type1 (PyProof.Rows.args_cons (thn (ha.run pins s σ H _ I h) ?_) na) na rfl))
  rintro v s1 ⟨x, H1, I1, r1, l, xs, rfl, hq, hz, q1⟩
  refine PyProof.Rows.args_nil ?_
  cases r1
  obtain ⟨its, r, pl, _⟩ := I1.list hq
  have hlen : its.toArray.size = xs.length := by rw [List.size_toArray, ← r.length, List.length_map]
  refine set_of_list (I1.ok.hd hc) pl.isList (by simpa using r) (by rw [hlen]; unfold scanBound; omega) fun h' tk hS hk => PyProof.Rows.args_nil ?_
  rw [hlen] at hS
  have e : seen xs xs.length = xs.reverse := by
    unfold seen
    rw [List.take_length]
  rw [e] at hS
  obtain ⟨o, es, ep, t, ho, hex, hd, _, _, _, hf, hn⟩ := hS
  have I2 : Inv X pins σ H1 { s1 with heap := h', toks := tk } := I1.kept fun b o e => hk b o (Heap.lt_size e) e
  have hd := dcount_le xs.reverse
  rw [List.length_reverse] at hd
  exact call_len_set ho hex (by assumption) hf (by rw [hn]; omega) ⟨.int (dcount xs.reverse : Nat), H1, I2.tok _, ⟨_, by rw [hn]⟩, q1⟩
end Sq
namespace Sq
open PySem PySem.Spec PyProof.Rows L2
/-! ### a, b, *c = a list -/
/-- the starred target, the last one -/
theorem pgs_star {X : Cx} {e : Expr} {p : Pos} {t : TG} (h1 : PG X e t) : PGs X [.Starred e p] (gCons t gNil) := by
  refine ⟨fun pins s σ H vs us Q I r h => ?_⟩
  obtain ⟨v, vr, e1, h⟩ := h
  subst e1
  cases r with
  | cons r rr =>
    have hs : (assignEach [.Starred e p] X.env).map (·.2) = assign e X.env :: (assignEach [] X.env).map (·.2) := rfl
    rw [hs]
    refine assignInOrder_cons (thn (h1.run pins s σ H _ _ _ I r h) fun _ s1 ⟨σ1, H1, I1, q1⟩ => ?_)
    exact pgs_nil.run pins s1 σ1 H1 _ _ Q I1 rr q1
def gStar (K : PySem.W.Frag) (i : Nat) (t : TGs) : TG := fun v σ H Q => ∃ a xs, v = .ref a ∧ SqL K H a xs ∧ i ≤ xs.length ∧ ∀ D, H D = none → t (xs.take i ++ [.ref D]) σ (upd H D (.lst (xs.drop i))) Q
theorem pg_starL {X : Cx} {pos : Pos} {es : List Expr} {k : Nat} {t : TGs} {i : Nat} (hc : X.calm = true) (h : PGs X es t)
    (hn : (assignEach es X.env).length = i + 1 := by rfl) (hst : (assignEach es X.env).findIdx? (·.1) = some i := by rfl) : PG X (.Tuple es k pos) (gStar X.K i t) := by
  refine ⟨fun pins s σ H v u Q I r hw => ?_⟩
  obtain ⟨a, xs, e1, hq, hl, hw⟩ := hw
  subst e1
  cases r
  obtain ⟨its, rv, pl, hz⟩ := I.list hq
  have hlen := rv.length
  have hl' : s.heap.IsList a its.toArray := by
    obtain ⟨o, m, e, c, d, q⟩ := pl
    exact ⟨o, e, c, m, q⟩
  rw [PyProof.Rows.assign_Tuple]
  refine wpAny_bind (wpAny_standAt ?_)
  unfold unpack
  rw [hn, hst]
  refine wpAny_bind (wpAny_holding ?_)
  have hh : X.A.handled = none := I.ok.hd hc
  have hlt : a ≠ s.heap.objs.size := by obtain ⟨o, ho, _⟩ := hl'; exact Nat.ne_of_lt (Heap.lt_size ho)
  unfold unpackItems
  refine wpAny_bind ?_
  unfold notIterableAtAll
  refine wpAny_bind (wpAny_specialOf hl'.typeIs slot_list_iter.lookup ?_)
  refine wpAny_pure ?_
  simp only [Bool.false_eq_true, if_false]
  refine wpAny_bind (wpAny_holding (wpAny_pyIter_list hl' ?_))
  refine wpAny_bind (wpAny_holding (PySem.W.kun_draw hlt i 0 _ _ ⟨_, Heap.get?_push_size _ rfl, rfl, rfl⟩ (hl'.push _) (by simp; omega) fun h₁ hit₁ hs₁ => ?_))
  have hl₁ : h₁.IsList a its.toArray := (hl'.push _).extBut hs₁.extBut hlt
  rw [Nat.zero_add] at hit₁
  have hit₁' := hit₁
  obtain ⟨oi, hoi, _⟩ := hit₁'
  have hl₁' := hl₁
  obtain ⟨ol, hol, _⟩ := hl₁'
  rw [List.drop_zero]
  have hfl : (its.toArray.toList.take i).length = i := by rw [List.length_take]; simp; omega
  rw [if_neg (show ¬ ((its.toArray.toList.take i).length < i) by rw [hfl]; omega)]
  refine wpAny_bind (wpAny_holding (PySem.W.kun_collect (s := { s with heap := h₁ }) (T := "list_iterator") (.inr (.inr (.inl rfl))) (Walks.list (A := X.A.in1) hh s.heap.objs.size a hlt its.toArray) (fun j u st => st.1.typeIs) (k := i) (by simp; omega) ⟨hit₁, hl₁⟩ (Heap.lt_size hoi) (Heap.lt_size hol) (fun h₂ tk hk => ?_) (by simp; omega)))
  have e0 : i + 1 - 1 - i = 0 := by omega
  show wpAny _ _ (if (its.toArray.toList.drop i).length < i + 1 - 1 - i then _ else _) _ _ _
  rw [e0, if_neg (by omega)]
  show wpAny _ _ (newList ((its.toArray.toList.drop i).take ((its.toArray.toList.drop i).length - 0)) >>= fun d => pure (its.toArray.toList.take i ++ [d] ++ (its.toArray.toList.drop i).drop ((its.toArray.toList.drop i).length - 0))) _ _ _
  rw [Nat.sub_zero, List.take_length, List.drop_length]
  have kp : ∀ b o, s.heap.get? b = some o → h₂.get? b = some o := fun b o e => hk b o (Nat.ne_of_lt (Heap.lt_size e)) (hs₁.extBut b o (Nat.ne_of_lt (Heap.lt_size e)) (Heap.get?_push_of_some _ e))
  have I1 : Inv X pins σ H { s with heap := h₂, toks := tk } := I.kept kp
  refine wpAny_bind (wpAny_newList (wpAny_pure ?_) (by rw [List.length_drop]; simp; omega))
  have rd : Vals (xs.drop i) (its.drop i) := rv.drop i
  have new : ObjOk X.prog X.w (upd H h₂.objs.size (.lst (xs.drop i))) (h₂.push { cls := .type "list", dict := none, data := .seq (its.toArray.toList.drop i).toArray 0, slots := #[] }) h₂.objs.size (.lst (xs.drop i)) :=
    ⟨by rw [List.length_drop]; omega, its.drop i, 0, rd, Heap.get?_push_size _ rfl⟩
  have I2 := I1.laid (t' := tk) (fun b o e => Heap.get?_push_of_some _ e) (Nat.le_refl _) new
  refine h.run pins _ σ _ (xs.take i ++ [.ref h₂.objs.size]) _ Q I2 ?_ (hw _ (I1.hok.fresh (Nat.le_refl _)))
  rw [List.append_nil]
  exact (rv.take i).append (.cons (show RelV (.ref h₂.objs.size) (.ref h₂.objs.size) from rfl) .nil)
/-! ### C(a, .., *b) and cls(*b), C a class of the text with an __init__ -/
section
variable {X : Cx} {CX : CXT} {k i : Nat} {f C : Addr} {sp : Sp} {E : XK} {x : Str} {e : Expr} {es : List Expr} {te : TE} {t : TA} {p sp_ pos : Pos}
theorem pe_makeS2 (M : Mk X.K C f) (F : FnR X.prog X.w X.K X.mg X.base CX k f sp) (hr : Room (k + 1) X.A) (hg : Gl X x) (hm : X.mg x = some (.ref C)) (hx : Passes CX X E) (ha : PA X (e :: es) t) (hdb : (x == ("__debug__" : Str)) = false := by decide)
    (he : starEach (e :: es) X.env = (false, eval e X.env) :: starEach es X.env := by rfl) (hst : (backTo pos (starEach es X.env)).any (·.1) = true := by rfl) : PE X (.Call (.Name x p) (e :: es) [] pos) (StX.tMakeR C sp E t) := by
  refine ⟨fun pins s σ H Q I h => ?_⟩
  refine wpAny_Call_Name_kw (ld_glob I hg hm ?_ hdb)
  refine PySem.W.callWith_S2 (h₀ := X.base) I.ok.mod.kin M.kp (thn (ha.run pos pins s σ H _ I h) fun us s1 ⟨vs, H1, I1, r, q⟩ => ⟨I1.kIn, ?_⟩) he hst
  exact StX.run_makeR M F hr hx I1 r q
def tMakeL (K : PySem.W.Frag) (C : Addr) (i : Nat) (sp : Sp) (E : XK) (te : TE) : TE := fun σ H Q => σ[i]? = some (some (.ref C)) ∧ te σ H fun y H1 => ∃ a xs, y = V.ref a ∧ (SqT K H1 a xs ∨ SqL K H1 a xs) ∧ ∀ x dx, H1 x = Option.none → H1 dx = Option.none → dx ≠ x →
  sp (V.ref x :: xs) (upd (upd H1 dx (.own x)) x (.ins C dx [])) (fun v H2 => v = .non ∧ Q (.ref x) H2) E
theorem pe_makeSL (M : Mk X.K C f) (F : FnR X.prog X.w X.K X.mg X.base CX k f sp) (hr : Room (k + 1) X.A) (hN : X.N[i]? = some x) (hv : Vis X.env.scope x) (hx : Passes CX X E) (he : PE X e te) (hdb : (x == ("__debug__" : Str)) = false := by decide) (hcd : (x == ("__classdict__" : Str)) = false := by decide)
    (hst : starEach [.Starred e sp_] X.env = [(true, eval e X.env)] := by rfl) : PE X (.Call (.Name x p) [.Starred e sp_] [] pos) (tMakeL X.K C i sp E te) := by
  refine ⟨fun pins s σ H Q I h => ?_⟩
  obtain ⟨hs, h⟩ := h
  refine wpAny_Call_Name_kw (thn ((pe_var (pos := p) hN hv hdb hcd).run pins s σ H (fun v H1 => v = .ref C ∧ H1 = H) I ⟨.ref C, hs, rfl, rfl⟩) fun u s1 ⟨v, H1, I1, r1, q1⟩ => ?_)
  obtain ⟨rfl, rfl⟩ := q1
  cases r1
  refine PySem.W.callWith_S (h₀ := X.base) I.ok.mod.kin M.kp (thn (he.run pins s1 σ _ _ I1 h) fun v s1 ⟨y, H1, I1, ry, a, xs, ey, hxs, q⟩ => ?_) hst
  subst ey
  obtain rfl : v = Value.ref a := ry
  exact StX.star_any I1 hxs fun us s2 I2 rv => ⟨I2.kIn, StX.run_makeR M F hr hx I2 rv q⟩
end
end Sq
namespace Sq
open PySem L2 TL
/-- a deed's word, places and condition -/
structure Deed where
  w : Str
  ps : List Str
  cs : List Str
def deedW (ws : List Str) : Deed :=
  if 4 < ws.length ∧ ws[ws.length - 4]? = some ("if" : Str) then ⟨ws.headD "", (ws.drop 1).take (ws.length - 5), ws.drop (ws.length - 3)⟩ else ⟨ws.headD "", ws.drop 1, []⟩
def deedD (z : Str) : Deed := deedW (Txt.split z " ")
theorem atI_neg {α : Type} (xs : List α) (k : Nat) (h0 : 0 < k) (h : k ≤ xs.length) : atI xs (-(k : Int)) = xs[xs.length - k]? := by
  unfold atI
  have e : ixN xs.length (-(k : Int)) = some (xs.length - k) := by
    unfold ixN
    rw [if_neg (by omega), if_pos (by omega)]
    congr 1
    omega
  rw [e]
  rfl
theorem sIx_neg (n d k : Nat) (h0 : 0 < k) (h : k ≤ n) : HT.sIx n d (some (-(k : Int))) = n - k := by
  show (if (-(k : Int)) < 0 then (-(k : Int) + (n : Int)).toNat else min (-(k : Int)).toNat n) = n - k
  rw [if_pos (by omega)]
  omega
theorem cut_3 (ws : List Str) (h : 3 ≤ ws.length) : cutV (ws.map V.str) (some (-3)) none = (ws.drop (ws.length - 3)).map V.str := by
  unfold cutV
  have e1 : HT.sIx (ws.map V.str).length 0 (some (-3)) = ws.length - 3 := by
    rw [List.length_map]
    exact sIx_neg _ _ 3 (by decide) h
  rw [e1, HT.sIx_none, List.map_drop, List.take_of_length_le (by rw [List.length_drop]; exact Nat.le_refl _)]
theorem cut_1 (ws : List Str) (h : 1 ≤ ws.length) : cutV (ws.map V.str) (some 1) none = (ws.drop 1).map V.str := by
  unfold cutV
  have e1 : HT.sIx (ws.map V.str).length 0 (some 1) = 1 := by
    rw [show (1 : Int) = ((1 : Nat) : Int) from rfl, HT.sIx_nat, List.length_map]
    omega
  rw [e1, HT.sIx_none, List.map_drop, List.take_of_length_le (by rw [List.length_drop]; exact Nat.le_refl _)]
def nmz : List Str := ["i", "j", "~i", "~j"]
def cmps : List Str := ["<", "<=", "==", "!="]
def plcs : List Str := ["i,j", "j,i", "i,~j", "~j,i", "~i,j", "j,~i", "~i,~j", "~j,~i"]
def counts (z : Str) : Option (Nat × Nat) := if z = "swap" then some (2, 2) else if z = "copy" then some (2, 2) else if z = "order" then some (2, 2) else if z = "turn" then some (3, 8) else none
def condB : List Str → Bool
  | [] => true
  | [l, s, r] => memB nmz l && (memB cmps s && (memB nmz r && !decide (l = r)))
  | _ => false
def placesB (wd : Str) (ps : List Str) : Bool := match counts wd with
  | none => false
  | some (lo, hi) => (decide (lo ≤ ps.length) && decide (ps.length ≤ hi)) && (decide (dcount ps.reverse = ps.length) && ps.all (memB plcs))
def deedB (z : Str) : Bool := placesB (deedD z).w (deedD z).ps && condB (deedD z).cs
def okDeed : V → Bool
  | .str z => deedB z
  | _ => false
/-- a value that may be passed where a deed is asked for -/
def DAny (K : PySem.W.Frag) (H : Hp) (v : V) : Prop := (∃ z : Str, v = .str z ∧ z.length ≤ 2000) ∨ ((∀ z, v ≠ .str z) ∧ ∃ t, TyX K H v t ∧ PySem.W.kitOne K t (.type "str") = some false)
theorem DAny.ext {K : PySem.W.Frag} {H H' : Hp} {v : V} (e : Same H H') (h : DAny K H v) : DAny K H' v := by
  rcases h with h | ⟨h1, t, h2, h3⟩
  · exact .inl h
  · exact .inr ⟨h1, t, tyX_ext e h2, h3⟩
theorem spl_len (S : List Nat) : ∀ (l : List Nat) (k : Nat) (acc : List Nat), (spl S k acc l).length ≤ l.length + 1
  | [], k, acc => by rw [spl_nil]; exact Nat.le_refl _
  | c :: r, 0, acc => by
    unfold spl
    split
    · rw [List.length_cons, List.length_cons]
      exact Nat.succ_le_succ (spl_len S r _ _)
    · rw [List.length_cons]
      exact Nat.le_succ_of_le (spl_len S r 0 _)
  | _ :: r, k + 1, acc => by
    rw [List.length_cons]
    exact Nat.le_succ_of_le (spl_len S r k acc)
theorem split_len (z : Str) : (Txt.split z " ").length ≤ z.length + 1 := by
  have h := split_spl z " " (by decide +kernel) (kind_one z " " (by decide +kernel))
  have e := congrArg List.length h
  rw [List.length_map] at e
  rw [e, len_tl]
  exact spl_len _ _ _ _
theorem deed_len (z : Str) : (deedD z).ps.length ≤ z.length + 1 ∧ ((deedD z).cs = [] ∨ (deedD z).cs.length = 3) := by
  have h := split_len z
  unfold deedD deedW
  split
  · rename_i hc
    refine ⟨?_, .inr ?_⟩
    · show (((Txt.split z " ").drop 1).take _).length ≤ _
      rw [List.length_take, List.length_drop]
      omega
    · show ((Txt.split z " ").drop _).length = 3
      rw [List.length_drop]
      omega
  · refine ⟨?_, .inl rfl⟩
    show ((Txt.split z " ").drop 1).length ≤ _
    rw [List.length_drop]
    omega
theorem okDeed_no {v : V} (h : ∀ z, v ≠ .str z) : okDeed v = false := by
  cases v with
  | str z => exact absurd rfl (h z)
  | _ => rfl

/-- the statements up to a point: either a return, or what holds behind them -/
theorem st_or {t : TS} {D : Ends} {σ : L2.St} {H : Hp} (J : L2.St → Hp → Prop) (h : ∀ D' : Ends, D'.rt = D.rt → (∀ σ' H', J σ' H' → D'.nx σ' H') → t D' σ H) (k : ∀ σ' H', J σ' H' → D.nx σ' H') : t D σ H := h D rfl k
theorem asg2_ {te : TE} {i j : Nat} {D : Ends} {σ : L2.St} {H : Hp} (h : te σ H fun x H1 => D.nx ((σ.set i (some x)).set j (some x)) H1) : tAsg2 te (gName i) (gName j) D σ H := h
def ctab : List (Str × Int × Int) := [("swap", 2, 2), ("copy", 2, 2), ("order", 2, 2), ("turn", 3, 8)]
def ptab : List (Str × Int) := [("i,j", 0), ("j,i", 1), ("i,~j", 2), ("~j,i", 3), ("~i,j", 4), ("j,~i", 5), ("~i,~j", 6), ("~j,~i", 7)]
def ntab : List (Str × Int) := [("i", 0), ("j", 1), ("~i", 2), ("~j", 3)]
def tabI (t : List (Str × Int)) : List (Str × V) := t.map fun q => (q.1, V.int q.2)
def placeIx (z : Str) : Int := (ptab.lookup z).getD 0
def numIx (z : Str) : Int := (ntab.lookup z).getD 0
theorem look_I : ∀ (t : List (Str × Int)) (z : Str), (tabI t).lookup z = (t.lookup z).map V.int
  | [], z => rfl
  | q :: t, z => by
    unfold tabI
    rw [List.map_cons, List.lookup_cons, List.lookup_cons]
    cases h : z == q.1 with
    | true => rfl
    | false => exact look_I t z
theorem look_some {α : Type} : ∀ (t : List (Str × α)) (z : Str), (t.lookup z).isSome = memB (t.map (·.1)) z
  | [], z => rfl
  | q :: t, z => by
    rw [List.lookup_cons]
    have ih := look_some t z
    unfold memB at ih ⊢
    rw [List.map_cons, List.any_cons]
    cases h : z == q.1 with
    | true => rw [show (q.1 == z) = true by rw [beq_iff_eq] at h ⊢; exact h.symm]; rfl
    | false => rw [show (q.1 == z) = false by rw [beq_eq_false_iff_ne] at h ⊢; exact h.symm, Bool.false_or]; exact ih
theorem plc_some (z : Str) : (ptab.lookup z).isSome = memB plcs z := (look_some ptab z).trans (by rfl)
theorem num_some (z : Str) : (ntab.lookup z).isSome = memB nmz z := (look_some ntab z).trans (by rfl)
theorem place_of {z : Str} (h : memB plcs z = true) : (tabI ptab).lookup z = some (.int (placeIx z)) := by
  rw [look_I]
  unfold placeIx
  have := plc_some z
  rw [h] at this
  cases e : ptab.lookup z with
  | none => rw [e] at this; cases this
  | some i => rfl
theorem num_of {z : Str} (h : memB nmz z = true) : (tabI ntab).lookup z = some (.int (numIx z)) := by
  rw [look_I]
  unfold numIx
  have := num_some z
  rw [h] at this
  cases e : ntab.lookup z with
  | none => rw [e] at this; cases this
  | some i => rfl
theorem num_in (z : Str) : ((tabI ntab).lookup z).isSome = memB nmz z := by
  rw [look_I, Option.isSome_map, num_some]
theorem place_in (z : Str) : ((tabI ptab).lookup z).isSome = memB plcs z := by
  rw [look_I, Option.isSome_map, plc_some]
theorem place_inj : ∀ a ∈ plcs, ∀ b ∈ plcs, placeIx a = placeIx b → a = b := by decide +kernel
/-- how often texts are met, and their indexes -/
theorem dc_iff : ∀ l : List Str, dcount l = l.length ↔ l.Nodup
  | [] => by simp [dcount]
  | x :: r => by
    have ih := dc_iff r
    have le := dcount_le r
    have e : dcount (x :: r) = if r.any (· == x) = true then dcount r else dcount r + 1 := by rw [dcount]
    have a : r.any (· == x) = true ↔ x ∈ r := by
      rw [List.any_eq_true]
      exact ⟨fun ⟨y, hy, h⟩ => beq_iff_eq.mp h ▸ hy, fun h => ⟨x, h, by simp⟩⟩
    rw [e, List.length_cons, List.nodup_cons]
    by_cases h : x ∈ r
    · rw [if_pos (a.mpr h)]
      constructor
      · intro z
        omega
      · exact fun z => absurd h z.1
    · rw [if_neg (fun z => h (a.mp z))]
      constructor
      · exact fun z => ⟨h, ih.mp (by omega)⟩
      · exact fun z => by rw [ih.mpr z.2]
theorem dc_rev (l : List Str) : dcount l.reverse = l.length ↔ l.Nodup := by
  have := dc_iff l.reverse
  rw [List.length_reverse] at this
  rw [this]
  unfold List.Nodup
  rw [List.pairwise_reverse]
  exact ⟨fun h => h.imp fun e => e.symm, fun h => h.imp fun e => e.symm⟩
theorem nodup_ix : ∀ ps : List Str, (∀ x ∈ ps, memB plcs x = true) → ((ps.map placeIx).Nodup ↔ ps.Nodup)
  | [], _ => by simp
  | a :: ps, h => by
    rw [List.map_cons, List.nodup_cons, List.nodup_cons, nodup_ix ps fun x hx => h x (List.mem_cons_of_mem _ hx)]
    refine and_congr_left fun _ => not_congr ⟨fun m => ?_, fun m => List.mem_map_of_mem m⟩
    obtain ⟨b, hb, e⟩ := List.mem_map.mp m
    have := place_inj b (memB_iff.mp (h b (List.mem_cons_of_mem _ hb))) a (memB_iff.mp (h a (List.mem_cons_self ..))) e
    exact this ▸ hb
/-! ### what stands where a deed was read -/
def CondAt (H : Hp) (c : V) (cs : List Str) : Prop := (cs = [] ∧ c = .non) ∨ ∃ (a : Addr) (l s r : Str), cs = [l, s, r] ∧ c = .ref a ∧ H a = some (.tup [.int (numIx l), .str s, .int (numIx r)])
def ixs (z : Str) : List Int := (deedD z).ps.map placeIx
def startsD (z : Str) : List Int := if (deedD z).w = "copy" then (ixs z).take 1 else ixs z
def endsD (z : Str) : List Int := if (deedD z).w = "copy" then (ixs z).drop 1 else if (deedD z).w = "order" then ixs z else (ixs z).drop 1 ++ (ixs z).take 1
def PlanAt (H : Hp) (p : Addr) (z : Str) : Prop := ∃ (ts te : Addr) (c : V), H p = some (.tup [.ref ts, .ref te, .bl (decide ((deedD z).w = "order")), c]) ∧ H ts = some (.tup ((startsD z).map V.int)) ∧
  H te = some (.tup ((endsD z).map V.int)) ∧ CondAt H c (deedD z).cs
theorem CondAt.same {H H' : Hp} {c : V} {cs : List Str} (h : CondAt H c cs) (s : Same H H') : CondAt H' c cs := by
  rcases h with h | ⟨a, l, x, r, h1, h2, h3⟩
  · exact .inl h
  · exact .inr ⟨a, l, x, r, h1, h2, s _ _ h3⟩
theorem PlanAt.same {H H' : Hp} {p : Addr} {z : Str} (h : PlanAt H p z) (s : Same H H') : PlanAt H' p z := by
  obtain ⟨ts, te, c, h1, h2, h3, h4⟩ := h
  exact ⟨ts, te, c, s _ _ h1, s _ _ h2, s _ _ h3, h4.same s⟩
def spReadC (K : PySem.W.Frag) : Sp := fun vs H Q _ => ∃ (l : Addr) (cs : List Str), vs = [.ref l] ∧ SqL K H l (cs.map V.str) ∧ cs.length = 3 ∧ (condB cs = false → ∀ H', Same H H' → Q .non H') ∧
  (condB cs = true → ∀ p H', H p = none → Same H H' → CondAt H' (.ref p) cs → Q (.ref p) H')
def spReadD (K : PySem.W.Frag) : Sp := fun vs H Q _ => ∃ v : V, vs = [v] ∧ DAny K H v ∧ (okDeed v = false → ∀ H', Same H H' → Q .non H') ∧
  (okDeed v = true → ∀ z p H', v = .str z → H p = none → Same H H' → PlanAt H' p z → Q (.ref p) H')
/-- the written dict of the words -/
structure CntD (K : PySem.W.Frag) (w : World) (d : Addr) : Prop where
  ex : ∃ L : List (Str × Addr × Int × Int), TDict K w d (L.map fun q => (q.1, V.ref q.2.1)) ∧ (∀ q ∈ L, ∀ H, SqT K H q.2.1 [.int q.2.2.1, .int q.2.2.2]) ∧ L.map (fun q => (q.1, q.2.2)) = ctab
def intW (v : Value) : Option Int := match v with
  | .int i _ => some i
  | _ => none
theorem intD_of {K : PySem.W.Frag} {w : World} {d : Addr} {es : Array DictEntry} {n : Nat} {tb : List (Str × Int)} (lk : K.lookup d = some ⟨.type "dict", none, .dict es n, #[]⟩) (lit : PySem.W.KeysLit w.params es.toList) (hs : (d == sysModules) = false)
    (hk : es.toList.map (fun e => (strW e.key, intW e.val)) = tb.map (fun q => (some q.1, some q.2))) : TDict K w d (tabI tb) := by
  have go : ∀ {es : List DictEntry} {tb : List (Str × Int)}, es.map (fun e => (strW e.key, intW e.val)) = tb.map (fun q => (some q.1, some q.2)) →
      es.map (fun e => strW e.key) = (tabI tb).map (fun q => some q.1) ∧ Vals ((tabI tb).map (·.2)) (es.map (·.val)) := by
    intro es
    induction es with
    | nil =>
      intro tb h
      cases tb with
      | nil => exact ⟨rfl, .nil⟩
      | cons _ _ => cases h
    | cons e es ih =>
      intro tb h
      cases tb with
      | nil => cases h
      | cons q tb =>
        obtain ⟨h1, h2⟩ := List.cons.inj h
        obtain ⟨a1, a2⟩ := ih h2
        obtain ⟨k1, k2⟩ := Prod.mk.inj h1
        refine ⟨?_, ?_⟩
        · rw [List.map_cons, a1]
          exact congrArg (fun x => x :: _) k1
        · refine .cons (?_ : RelV (V.int q.2) e.val) a2
          unfold intW at k2
          split at k2
          · rename_i i t e1
            cases k2
            rw [e1]
            exact ⟨t, rfl⟩
          · cases k2
  obtain ⟨a1, a2⟩ := go hk
  exact TDict.of lk lit hs a1 a2
theorem CntD.of {K : PySem.W.Frag} {w : World} {d : Addr} {es : Array DictEntry} {n : Nat} (lk : K.lookup d = some ⟨.type "dict", none, .dict es n, #[]⟩) (lit : PySem.W.KeysLit w.params es.toList) (hs : (d == sysModules) = false)
    (hk : es.toList.map (fun e => (strW e.key, tupW K e.val)) = ctab.map (fun q => (some q.1, some [q.2.1, q.2.2]))) : CntD K w d := by
  have go : ∀ {es : List DictEntry} {tb : List (Str × Int × Int)}, es.map (fun e => (strW e.key, tupW K e.val)) = tb.map (fun q => (some q.1, some [q.2.1, q.2.2])) →
      ∃ L : List (Str × Addr × Int × Int), es.map (fun e => strW e.key) = L.map (fun q => some q.1) ∧ Vals (L.map fun q => V.ref q.2.1) (es.map (·.val)) ∧ (∀ q ∈ L, ∀ H, SqT K H q.2.1 [.int q.2.2.1, .int q.2.2.2]) ∧ L.map (fun q => (q.1, q.2.2)) = tb := by
    intro es
    induction es with
    | nil =>
      intro tb h
      cases tb with
      | nil => exact ⟨[], rfl, .nil, (fun q hq => by cases hq), rfl⟩
      | cons _ _ => cases h
    | cons e es ih =>
      intro tb h
      cases tb with
      | nil => cases h
      | cons q tb =>
        obtain ⟨h1, h2⟩ := List.cons.inj h
        obtain ⟨L, a1, a2, a3, a4⟩ := ih h2
        obtain ⟨k1, k2⟩ := Prod.mk.inj h1
        obtain ⟨a, ea, ha⟩ := tupW_at k2 (show 2 ≤ 3 by decide)
        refine ⟨(q.1, a, q.2) :: L, ?_, ?_, ?_, ?_⟩
        · rw [List.map_cons, List.map_cons, a1]
          exact congrArg (fun x => x :: _) k1
        · exact .cons (by show RelV (V.ref a) e.val; rw [ea]; rfl) a2
        · intro r hr
          rcases List.mem_cons.mp hr with e2 | hr
          · rw [e2]
            exact ha
          · exact a3 r hr
        · rw [List.map_cons, a4]
  obtain ⟨L, a1, a2, a3, a4⟩ := go hk
  refine ⟨L, TDict.of lk lit hs ?_ ?_, a3, a4⟩
  · rw [a1, List.map_map]
    rfl
  · rw [List.map_map]
    exact a2
theorem cnt_look {K : PySem.W.Frag} {L : List (Str × Addr × Int × Int)} (hb : ∀ q ∈ L, ∀ H, SqT K H q.2.1 [.int q.2.2.1, .int q.2.2.2]) (h : L.map (fun q => (q.1, q.2.2)) = ctab) (z : Str) :
    (counts z = none ∧ (L.map fun q => (q.1, V.ref q.2.1)).lookup z = none) ∨ ∃ (lo hi : Nat) (a : Addr), counts z = some (lo, hi) ∧ (L.map fun q => (q.1, V.ref q.2.1)).lookup z = some (.ref a) ∧ ∀ H, SqT K H a [.int (lo : Int), .int (hi : Int)] := by
  have tab : ∀ q ∈ ctab, ∃ lo hi : Nat, counts q.1 = some (lo, hi) ∧ q.2 = ((lo : Int), (hi : Int)) := by
    intro q hq
    unfold ctab at hq
    simp only [List.mem_cons, List.not_mem_nil, or_false] at hq
    rcases hq with rfl | rfl | rfl | rfl
    · exact ⟨2, 2, by rfl, rfl⟩
    · exact ⟨2, 2, by rfl, rfl⟩
    · exact ⟨2, 2, by rfl, rfl⟩
    · exact ⟨3, 8, by rfl, rfl⟩
  have lm : match (L.map fun q => (q.1, V.ref q.2.1)).lookup z with
      | none => ∀ q ∈ L, q.1 ≠ z
      | some v => ∃ q ∈ L, q.1 = z ∧ v = .ref q.2.1 := by
    clear h hb
    induction L with
    | nil => exact fun q hq => by cases hq
    | cons q L ih =>
      by_cases hz : z = q.1
      · subst hz
        have l : ((q :: L).map fun q => (q.1, V.ref q.2.1)).lookup q.1 = some (.ref q.2.1) := by simp [List.lookup]
        rw [l]
        exact ⟨q, List.mem_cons_self .., rfl, rfl⟩
      · have hz2 : (z == q.1) = false := by simpa using hz
        have l : ((q :: L).map fun q => (q.1, V.ref q.2.1)).lookup z = (L.map fun q => (q.1, V.ref q.2.1)).lookup z := by simp [List.lookup, hz2]
        rw [l]
        cases e : (L.map fun q => (q.1, V.ref q.2.1)).lookup z with
        | none =>
          rw [e] at ih
          intro r hr
          rcases List.mem_cons.mp hr with rfl | hr
          · exact fun e => hz e.symm
          · exact ih r hr
        | some v =>
          rw [e] at ih
          obtain ⟨r, hr, e1, e2⟩ := ih
          exact ⟨r, List.mem_cons_of_mem _ hr, e1, e2⟩
  cases e : (L.map fun q => (q.1, V.ref q.2.1)).lookup z with
  | none =>
    rw [e] at lm
    refine .inl ⟨?_, rfl⟩
    have nm : ∀ q ∈ ctab, q.1 ≠ z := by
      intro q hq
      rw [← h] at hq
      obtain ⟨r, hr, e2⟩ := List.mem_map.mp hq
      rw [← e2]
      exact lm r hr
    unfold counts
    rw [if_neg (fun e => nm ("swap", 2, 2) (by decide) e.symm), if_neg (fun e => nm ("copy", 2, 2) (by decide) e.symm), if_neg (fun e => nm ("order", 2, 2) (by decide) e.symm), if_neg (fun e => nm ("turn", 3, 8) (by decide) e.symm)]
  | some v =>
    rw [e] at lm
    obtain ⟨q, hq, e1, e2⟩ := lm
    obtain ⟨lo, hi, c1, c2⟩ := tab (q.1, q.2.2) (by rw [← h]; exact List.mem_map_of_mem (f := fun q : Str × Addr × Int × Int => (q.1, q.2.2)) hq)
    have e3 : q.2.2 = ((lo : Int), (hi : Int)) := c2
    refine .inr ⟨lo, hi, q.2.1, e1 ▸ c1, by rw [e2], fun H => ?_⟩
    have := hb q hq H
    rw [e3] at this
    exact this
theorem cut_t1 (xs : List V) : cutV xs none (some 1) = xs.take 1 := by
  unfold cutV
  rw [HT.sIx_none, Nat.sub_zero, List.drop_zero, show (1 : Int) = ((1 : Nat) : Int) from rfl, HT.sIx_nat]
  cases xs with
  | nil => rfl
  | cons x r =>
    rw [Nat.min_eq_left (by simp)]
theorem cut_d1 (xs : List V) : cutV xs (some 1) none = xs.drop 1 := by
  unfold cutV
  rw [HT.sIx_none, show (1 : Int) = ((1 : Nat) : Int) from rfl, HT.sIx_nat]
  cases xs with
  | nil => rfl
  | cons x r =>
    rw [Nat.min_eq_left (by simp), List.take_of_length_le (by rw [List.length_drop]; exact Nat.le_refl _)]
theorem cut_m4 (ws : List Str) (h : 4 < ws.length) : cutV (ws.map V.str) none (some (-4)) = (ws.take (ws.length - 4)).map V.str := by
  unfold cutV
  have e2 : HT.sIx (ws.map V.str).length (ws.map V.str).length (some (-4)) = ws.length - 4 := by
    rw [List.length_map]
    exact sIx_neg _ _ 4 (by decide) (by omega)
  rw [HT.sIx_none, e2, List.drop_zero, Nat.sub_zero, List.map_take]
/-- what a deed's check asks, by the indexes of its places -/
theorem places_ok {wd : Str} {ps : List Str} {lo hi : Nat} (h : counts wd = some (lo, hi)) (h1 : lo ≤ ps.length) (h2 : ps.length ≤ hi) :
    placesB wd ps = !decide ((cntI ((ps.filter (memB plcs)).map placeIx) : Int) < (ps.length : Int)) := by
  unfold placesB
  rw [h]
  show (decide (lo ≤ ps.length) && decide (ps.length ≤ hi) && (decide (dcount ps.reverse = ps.length) && ps.all (memB plcs))) = _
  rw [decide_eq_true h1, decide_eq_true h2, Bool.and_self, Bool.true_and]
  have le := cnt_le ((ps.filter (memB plcs)).map placeIx)
  have lf := List.length_filter_le (memB plcs) ps
  rw [List.length_map] at le
  by_cases ha : ∀ x ∈ ps, memB plcs x = true
  · have fe : ps.filter (memB plcs) = ps := List.filter_eq_self.mpr ha
    rw [fe, List.all_eq_true.mpr ha, Bool.and_true]
    have cn := cnt_nodup (ps.map placeIx)
    rw [List.length_map, nodup_ix ps ha, ← dc_rev] at cn
    rw [fe] at le
    by_cases hd : dcount ps.reverse = ps.length
    · rw [decide_eq_true hd, decide_eq_false (by have := cn.mpr hd; omega)]
      rfl
    · rw [decide_eq_false hd, decide_eq_true (by have : ¬ cntI (ps.map placeIx) = ps.length := fun e => hd (cn.mp e); omega)]
      rfl
  · have hf : ps.all (memB plcs) = false := by
      cases e : ps.all (memB plcs) with
      | false => rfl
      | true => exact absurd (List.all_eq_true.mp e) ha
    have lt : (ps.filter (memB plcs)).length < ps.length := by
      refine Nat.lt_of_le_of_ne lf fun e => ha ?_
      exact List.filter_eq_self.mp (List.filter_sublist.eq_of_length e)
    rw [hf, Bool.and_false, decide_eq_true (by omega)]
    rfl
end Sq
namespace Sq
open PySem L2 PySem.Spec PyProof.Rows
/-! ### d[i, j], d a written dict whose keys are tuples of numbers -/
structure ODict (P : Program) (w : World) (K : PySem.W.Frag) (d : Addr) (xs : List (List Int × Addr × Value)) : Prop where
  lk : ∃ (es : Array DictEntry) (ep : Nat), K.lookup d = some ⟨.type "dict", none, .dict es ep, #[]⟩ ∧ es.toList = xs.map (entryOfKey (tupleKind (intKind P w)))
  keys : ∀ x ∈ xs, ∀ H, SqT K H x.2.1 (x.1.map V.int)
  nd : (xs.map (·.1)).Nodup
theorem items_ints {P : Program} {w : World} : ∀ {ks : List Int} {vs : List Value}, Vals (ks.map V.int) vs → ItemsAre (intKind P w) ks vs
  | [], vs, h => by cases h; exact .nil
  | k :: ks, vs, h => by
    cases h with
    | cons r rr =>
      obtain ⟨t, rfl⟩ := r
      exact .cons (show Value.isInt k (.int k t) = true by simp [Value.isInt]) (items_ints rr)
def rIxO (K : PySem.W.Frag) (d : Addr) (xs : List (List Int × Addr × Value)) : R2 := fun x y H Q => ∃ (t : Addr) (ks : List Int) (p : Addr × Value) (v : V), x = .ref d ∧ y = .ref t ∧ SqT K H t (ks.map V.int) ∧ atKey xs ks = some p ∧ RelV v p.2 ∧ Q v H
theorem ix_O {X : Cx} {d : Addr} {xs : List (List Int × Addr × Value)} (D : ODict X.prog X.w X.K d xs) (hu : X.A.units + 1 < cLine) : IxR X (rIxO X.K d xs) := by
  intro value slice pins s σ H x y v u Q I rx ry h hs
  obtain ⟨t, ks, p, v0, rfl, rfl, ht, hp, r, q⟩ := h
  cases rx
  cases ry
  obtain ⟨its, rv, e, z⟩ := I.tuple ht
  obtain ⟨es, ep, lk, he⟩ := D.lk
  have hm : s.heap.DictOfH (tupleKind (intKind X.prog X.w)) d xs := ⟨_, es, ep, I.kIn _ _ lk, ⟨rfl, rfl, rfl⟩, rfl, he, fun x hx => by
    obtain ⟨jts, rj, ⟨o, ho, hc, n, hd⟩, _⟩ := I.tuple (D.keys x hx H)
    exact ⟨o, _, n, ho, hc, hd, items_ints rj⟩, D.nd⟩
  have hk : (tupleKind (intKind X.prog X.w)).is s.heap ks t := by
    obtain ⟨o, ho, hc, n, hd⟩ := e
    exact ⟨o, _, n, ho, hc, hd, items_ints rv⟩
  exact tail_any (show s.TypeIs (.ref d) "dict" from ⟨_, I.kIn _ _ lk, rfl⟩) slot_dict_getitem.lookup (wpAny_getItem_heap (show (tupleKind (intKind X.prog X.w)).room X.A.in1 from hu) hk hm hp ⟨v0, H, I.tok _, r, q⟩) hs
end Sq
namespace Sq
open PySem L2 PySem.Spec PyProof.Rows
/-! ### the written dict of the orders: two numbers to a tuple -/
structure OrdD (P : Program) (w : World) (K : PySem.W.Frag) (d : Addr) : Prop where
  ex : ∃ xs, ODict P w K d xs ∧ ∀ a b : Bool, ∃ p q : Addr, atKey xs [if a = true then 1 else 0, if b = true then 1 else 0] = some (p, .ref q)
def okeys : List (List Int) := [[0, 0], [0, 1], [1, 0], [1, 1]]
def thash (ks : List Int) : Int := reduceHash (Builtin.Tuple.tupleHashOf (ks.map hashInt))
theorem thash_eq {P : Program} {w : World} (ks : List Int) : (tupleKind (intKind P w)).hash ks = thash ks := rfl
theorem OrdD.of {P : Program} {w : World} {K : PySem.W.Frag} {d : Addr} {es : Array DictEntry} {n : Nat} (lk : K.lookup d = some ⟨.type "dict", none, .dict es n, #[]⟩)
    (hk : es.toList.map (fun e => tupW K e.key) = okeys.map some) (hh : es.toList.map (·.hash) = okeys.map thash)
    (hv : ∃ q0 q1 q2 q3 : Addr, es.toList.map (·.val) = [.ref q0, .ref q1, .ref q2, .ref q3]) : OrdD P w K d := by
  obtain ⟨q0, q1, q2, q3, hv⟩ := hv
  generalize hes : es.toList = l at *
  have hl : l.length = 4 := by
    have := congrArg List.length hv
    rw [List.length_map] at this
    exact this
  match l, hl with
  | [e0, e1, e2, e3], _ =>
    obtain ⟨k0, hk⟩ := List.cons.inj hk
    obtain ⟨k1, hk⟩ := List.cons.inj hk
    obtain ⟨k2, hk⟩ := List.cons.inj hk
    obtain ⟨k3, hk⟩ := List.cons.inj hk
    obtain ⟨h0, hh⟩ := List.cons.inj hh
    obtain ⟨h1, hh⟩ := List.cons.inj hh
    obtain ⟨h2, hh⟩ := List.cons.inj hh
    obtain ⟨h3, hh⟩ := List.cons.inj hh
    obtain ⟨v0, hv⟩ := List.cons.inj hv
    obtain ⟨v1, hv⟩ := List.cons.inj hv
    obtain ⟨v2, hv⟩ := List.cons.inj hv
    obtain ⟨v3, hv⟩ := List.cons.inj hv
    obtain ⟨a0, f0, g0⟩ := tupW_at k0 (show 2 ≤ 3 by decide)
    obtain ⟨a1, f1, g1⟩ := tupW_at k1 (show 2 ≤ 3 by decide)
    obtain ⟨a2, f2, g2⟩ := tupW_at k2 (show 2 ≤ 3 by decide)
    obtain ⟨a3, f3, g3⟩ := tupW_at k3 (show 2 ≤ 3 by decide)
    refine ⟨[([0, 0], a0, .ref q0), ([0, 1], a1, .ref q1), ([1, 0], a2, .ref q2), ([1, 1], a3, .ref q3)], ⟨⟨es, n, lk, ?_⟩, ?_, ?_⟩, ?_⟩
    · rw [hes]
      have en : ∀ (e : DictEntry) {h : Int} {k v : Value}, e.hash = h → e.key = k → e.val = v → e = ⟨h, k, v⟩ := fun e {h k v} a b c => by
        cases e
        cases a
        cases b
        cases c
        rfl
      rw [en e0 h0 f0 v0, en e1 h1 f1 v1, en e2 h2 f2 v2, en e3 h3 f3 v3]
      simp only [List.map_cons, List.map_nil, entryOfKey, thash_eq]
    · intro x hx H
      simp only [List.mem_cons, List.not_mem_nil, or_false] at hx
      rcases hx with rfl | rfl | rfl | rfl
      · exact g0 H
      · exact g1 H
      · exact g2 H
      · exact g3 H
    · show okeys.Nodup
      decide
    · intro a b
      cases a <;> cases b
      · exact ⟨_, _, rfl⟩
      · exact ⟨_, _, rfl⟩
      · exact ⟨_, _, rfl⟩
      · exact ⟨_, _, rfl⟩
end Sq
namespace Sq
open PySem L2 PySem.Spec PyProof.Rows
/-! ### the program's dicts, as one run of the head sees them -/
def dtI (K : PySem.W.Frag) (a : Addr) (tab : List (Str × Int)) : Bool := match K.lookup a with
  | some ⟨_, _, .dict es _, _⟩ => decide (es.toList.map (fun e => (strW e.key, intW e.val)) = tab.map fun q => (some q.1, some q.2))
  | _ => false
def dtT (K : PySem.W.Frag) (a : Addr) (tab : List (Str × List Int)) : Bool := match K.lookup a with
  | some ⟨_, _, .dict es _, _⟩ => decide (es.toList.map (fun e => (strW e.key, tupW K e.val)) = tab.map fun q => (some q.1, some q.2))
  | _ => false
theorem dtI_ok {K : PySem.W.Frag} {w : World} {a : Addr} {tab : List (Str × Int)} {ks : List Str} (h : dtI K a tab = true) (hd : He.dicW K a = some (He.keysIn w.params ks)) : TDict K w a (tabI tab) := by
  obtain ⟨es, n, kd⟩ := He.dicW_ok hd
  unfold dtI at h
  rw [kd.at_] at h
  exact intD_of kd.at_ kd.lit kd.low (of_decide_eq_true h)
def btabL : List (Str × List Int) := btab.map fun q => (q.1, [q.2.1, q.2.2.1, q.2.2.2])
def ctabL : List (Str × List Int) := ctab.map fun q => (q.1, [q.2.1, q.2.2])
theorem dtB_ok {K : PySem.W.Frag} {w : World} {a : Addr} {ks : List Str} (h : dtT K a btabL = true) (hd : He.dicW K a = some (He.keysIn w.params ks)) : BndD K w a := by
  obtain ⟨es, n, kd⟩ := He.dicW_ok hd
  unfold dtT at h
  rw [kd.at_] at h
  refine BndD.of kd.at_ kd.lit kd.low ((of_decide_eq_true h).trans ?_)
  unfold btabL
  rw [List.map_map]
  rfl
theorem dtC_ok {K : PySem.W.Frag} {w : World} {a : Addr} {ks : List Str} (h : dtT K a ctabL = true) (hd : He.dicW K a = some (He.keysIn w.params ks)) : CntD K w a := by
  obtain ⟨es, n, kd⟩ := He.dicW_ok hd
  unfold dtT at h
  rw [kd.at_] at h
  refine CntD.of kd.at_ kd.lit kd.low ((of_decide_eq_true h).trans ?_)
  unfold ctabL
  rw [List.map_map]
  rfl
def ref4 : List Value → Bool
  | [.ref _, .ref _, .ref _, .ref _] => true
  | _ => false
theorem ref4_ok : ∀ {l : List Value}, ref4 l = true → ∃ q0 q1 q2 q3 : Addr, l = [.ref q0, .ref q1, .ref q2, .ref q3] := by
  intro l h
  unfold ref4 at h
  split at h
  · exact ⟨_, _, _, _, rfl⟩
  · cases h
def ordA (K : PySem.W.Frag) (a : Addr) : Bool := match K.lookup a with
  | some ⟨.type c, none, .dict es _, sl⟩ => decide (c = "dict") && (sl.isEmpty && (decide (es.toList.map (fun e => tupW K e.key) = okeys.map some) && (decide (es.toList.map (·.hash) = okeys.map thash) && ref4 (es.toList.map (·.val)))))
  | _ => false
theorem ordA_ok {P : Program} {w : World} {K : PySem.W.Frag} {a : Addr} (h : ordA K a = true) : OrdD P w K a := by
  unfold ordA at h
  split at h
  · rename_i c es n sl e
    simp only [Bool.and_eq_true, decide_eq_true_eq] at h
    obtain ⟨h1, h2, h3, h4, h5⟩ := h
    subst h1
    have hs : sl = #[] := by
      rw [Array.isEmpty_iff] at h2
      exact h2
    subst hs
    exact OrdD.of e h3 h4 (ref4_ok h5)
  · cases h
end Sq
namespace Sq
open PySem L2 PySem.Spec PyProof.Rows LamX
/-- a text under a name of the module -/
def strA (K : PySem.W.Frag) (x z : Str) : Bool := match PySem.W.nsIn K mainGlobals x with
  | some (some (.str y _)) => decide (y = z)
  | _ => false
theorem strA_ok {K : PySem.W.Frag} {x z : Str} (h : strA K x z = true) : ∃ t, PySem.W.nsIn K mainGlobals x = some (some (.str z t)) := by
  unfold strA at h
  split at h
  · rename_i y t e
    rw [of_decide_eq_true h] at e
    exact ⟨t, e⟩
  · cases h
def eixBody (q1 q2 q3 q4 : Pos) : List Stmt := [.Assign [.Attribute (.Name "self" q1) "index" q2] (.Name "index" q3) q4]
theorem ok_eindex {P : Program} {w : World} {K : PySem.W.Frag} {mg : Str → Option Value} {base : Heap} {f C : Addr} {fd : FuncData} {q : Str} {st : Stmt} {q1 q2 q3 q4 : Pos} (F : Fun K "__init__" q st f fd) (S : FnScope ["self", "index"] ["self", "index"] (defScope st)) (hb : defBody st = eixBody q1 q2 q3 q4) (h0 : (defScope st).names.lookup ("self" : Str) = some .local) (h1 : (defScope st).names.lookup ("index" : Str) = some .local)
    (T : OexC K C) (no : PySem.W.findIn K (.ref C) "index" = some none) : FnOk P w K mg base CX0 1 f fd ["self", "index"] (spErrInit C "index") := by
  refine F.ok S (fun vs H Q E h => ?_) (fun cdv A outer s H vs Q E hr h => ?_)
  · obtain ⟨a, v, rfl, _⟩ := h
    rfl
  · obtain ⟨a, v, rfl, ha, q⟩ := h
    rw [hb]
    refine ⟨_, pss_one (ps_ost (pv 0 (hv := .inl h0)) (pv 1 (hv := .inl h1))), ?_⟩
    refine ⟨_, rfl, _, rfl, a, C, rfl, T, no, .inl ⟨ha, fun dx n ne => q dx n ne⟩⟩
/-- the tables of two defs that make lambdas -/
def Ts2n (x y : Str) (a b : Addr) : List (Addr × Str) := [(a, x), (b, y)]
theorem tabs2n {x y : Str} {a b : Addr} {H : Hp} (h1 : H a = some (.tbl #[])) (h2 : H b = some (.tbl #[])) : Tabs (Ts2n x y a b) H := fun p hp => by
  rcases List.mem_cons.mp hp with rfl | hp
  · exact TabS.nil h1
  · rw [List.mem_singleton.mp hp]
    exact TabS.nil h2
theorem ts2n_1 {x y : Str} {a b : Addr} (n : a ≠ b) : ∀ p ∈ Ts2n x y a b, p.1 = a → p.2 = x := fun p hp e => by
  rcases List.mem_cons.mp hp with rfl | hp
  · rfl
  · rw [List.mem_singleton.mp hp] at e
    exact absurd e.symm n
theorem ts2n_2 {x y : Str} {a b : Addr} (n : a ≠ b) : ∀ p ∈ Ts2n x y a b, p.1 = b → p.2 = y := fun p hp e => by
  rcases List.mem_cons.mp hp with rfl | hp
  · exact absurd e n
  · rw [List.mem_singleton.mp hp]
end Sq
namespace Sq
open PySem L2 PySem.Spec PyProof.Rows TL LamX L2H
def top (i : Nat) : Stmt := PySem.Challenge.pw_squareloops_k06_programs_made_and_joined.main.body.getD i (.Pass ⟨0, 0, 0, 0⟩)
def Cf (i : Nat) : Addr := [144, 170, 196, 222, 248, 274, 300, 326, 352, 378, 404, 430, 456, 482, 508, 534, 560, 586, 612, 638, 684, 710, 756, 782, 794, 820, 117, 657, 729].getD i 0
def D_rl : DefA := ⟨41, "read_loop", "read_loop", (top 2)⟩
def D_ro : DefA := ⟨48, "read_outer_loop", "read_outer_loop", (top 3)⟩
def D_fw : DefA := ⟨55, "first_wrong", "first_wrong", (top 5)⟩
def D_rc : DefA := ⟨100, "read_condition", "read_condition", (top 13)⟩
def D_rd : DefA := ⟨93, "read_deed", "read_deed", (top 12)⟩
def D_m1 : DefA := ⟨834, "__init__", "Nest.__init__", (inClass (top 49) 0)⟩
def D_m2 : DefA := ⟨865, "__len__", "Nest.__len__", (inClass (top 49) 4)⟩
def D_m3 : DefA := ⟨872, "__bool__", "Nest.__bool__", (inClass (top 49) 5)⟩
def D_m4 : DefA := ⟨879, "__eq__", "Nest.__eq__", (inClass (top 49) 6)⟩
def D_g1 : DefA := ⟨841, "outer", "Nest.outer", (inClass (top 49) 1)⟩
def D_g2 : DefA := ⟨849, "inner", "Nest.inner", (inClass (top 49) 2)⟩
def D_g3 : DefA := ⟨857, "deeds", "Nest.deeds", (inClass (top 49) 3)⟩
def D_m5 : DefA := ⟨898, "__init__", "Program.__init__", (inClass (top 50) 0)⟩
def D_g4 : DefA := ⟨913, "nests", "Program.nests", (inClass (top 50) 2)⟩
def D_m6 : DefA := ⟨940, "__str__", "Program.__str__", (inClass (top 50) 6)⟩
def D_m7 : DefA := ⟨921, "__len__", "Program.__len__", (inClass (top 50) 3)⟩
def D_m9 : DefA := ⟨945, "__repr__", "Program.__repr__", (inClass (top 50) 7)⟩
def D_m10 : DefA := ⟨928, "__bool__", "Program.__bool__", (inClass (top 50) 4)⟩
def D_m11 : DefA := ⟨952, "__add__", "Program.__add__", (inClass (top 50) 8)⟩
def D_bh : DefA := ⟨987, "behind", "behind", (top 54)⟩
def D_rb : DefA := ⟨973, "rows_by_nest", "rows_by_nest", (top 52)⟩
def D_nt : DefA := ⟨966, "nest_text", "nest_text", (top 51)⟩
def D_U : DefA := ⟨994, "_law_number", "_law_number", (top 56)⟩
def D_bg : DefA := ⟨1001, "_law_bag", "_law_bag", (top 57)⟩
def D_T : DefA := ⟨1008, "_law_take", "_law_take", (top 58)⟩
def D_E : DefA := ⟨1015, "_law_edge_row", "_law_edge_row", (top 59)⟩
def D_W : DefA := ⟨1022, "_law_walk_row", "_law_walk_row", (top 60)⟩
def D_Q : DefA := ⟨1027, "_law_act_row", "_law_act_row", (top 61)⟩
def D_pg9 : DefA := ⟨1032, "_law_page", "_law_page", (top 62)⟩
def D_V : DefA := ⟨1039, "_law_walk", "_law_walk", (top 63)⟩
def D_Y : DefA := ⟨1046, "_law_act", "_law_act", (top 64)⟩
def D_pr : DefA := ⟨1051, "_law_part", "_law_part", (top 65)⟩
def D_sc9 : DefA := ⟨1056, "_law_scheme", "_law_scheme", (top 66)⟩
def D_M : DefA := ⟨1063, "_law_made_nest", "_law_made_nest", (top 67)⟩
def D_md : DefA := ⟨1070, "_law_made", "_law_made", (top 68)⟩
def D_bu : DefA := ⟨1075, "_law_built", "_law_built", (top 69)⟩
def D_sh : DefA := ⟨1099, "_law_shows", "_law_shows", (top 73)⟩
def D_J : DefA := ⟨1106, "_law_joined_right", "_law_joined_right", (top 74)⟩
def D_X : DefA := ⟨1111, "_law_mixed_right", "_law_mixed_right", (top 75)⟩
def D_L : DefA := ⟨1116, "law", "law", (top 76)⟩
def D_I16 : DefA := ⟨550, "__init__", "InvalidNests.__init__", (inClass (top 32) 0)⟩
def D_ke : DefA := ⟨1080, "_law_kind_of_error", "_law_kind_of_error", (top 70)⟩
def D_kp : DefA := ⟨1087, "_law_kept_of_error", "_law_kept_of_error", (top 71)⟩
def D_an : DefA := ⟨1094, "_law_answer", "_law_answer", (top 72)⟩
def hFn : List DefA := [D_rl, D_ro, D_fw, D_rc, D_rd, D_m1, D_m2, D_m3, D_m4, D_g1, D_g2, D_g3, D_m5, D_g4, D_m6, D_m7, D_m9, D_m10, D_m11, D_bh, D_rb, D_nt, D_U, D_bg, D_T, D_E, D_W, D_Q, D_pg9, D_V, D_Y, D_pr, D_sc9, D_M, D_md, D_bu, D_sh, D_J, D_X, D_L, D_I16, D_ke, D_kp, D_an]
def hAs0 : List Addr := [3, 41, 40, 48, 47, 55, 54, 100, 99, 93, 92, 88, 15, 16, 17, 18, 19, 20, 21, 22, 23, 24, 25, 26, 27, 28, 29, 30, 31, 32, 34, 82, 83, 84, 85, 86, 56, 87, 57, 58]
def hAs1 : List Addr := [64, 70, 76, 882, 881, 955, 954, 834, 833, 865, 864, 872, 871, 879, 878, 842, 841, 840, 850, 849, 848, 858, 857, 856, 898, 897, 914, 913, 912, 940, 939, 921, 920, 945, 944, 928, 927, 952, 951, 987]
def hAs2 : List Addr := [986, 973, 972, 966, 965, 994, 993, 1001, 1000, 1008, 1007, 1015, 1014, 1022, 1021, 1027, 1026, 1032, 1031, 1039, 1038, 1046, 1045, 1051, 1050, 1056, 1055, 1063, 1062, 1070, 1069, 1075, 1074, 1099, 1098, 1106, 1105, 1111, 1110, 1116]
def hAs3 : List Addr := [1115, 144, 143, 170, 169, 196, 195, 222, 221, 248, 247, 274, 273, 300, 299, 326, 325, 352, 351, 378, 377, 404, 403, 430, 429, 456, 455, 482, 481, 508, 507, 534, 533, 560, 559, 586, 585, 612, 611, 638]
def hAs4 : List Addr := [637, 684, 683, 710, 709, 756, 755, 782, 781, 794, 793, 820, 819, 117, 116, 657, 656, 729, 728, 550, 549, 1080, 1079, 1087, 1086, 1094, 1093]
def hAs : List Addr := hAs0 ++ hAs1 ++ hAs2 ++ hAs3 ++ hAs4
def X_arl (K : PySem.W.Frag) : Bool := decide (PySem.W.nsIn K mainGlobals "read_loop" = some (some (.ref 41)))
def X_aro (K : PySem.W.Frag) : Bool := decide (PySem.W.nsIn K mainGlobals "read_outer_loop" = some (some (.ref 48)))
def X_afw (K : PySem.W.Frag) : Bool := decide (PySem.W.nsIn K mainGlobals "first_wrong" = some (some (.ref 55)))
def X_arc (K : PySem.W.Frag) : Bool := decide (PySem.W.nsIn K mainGlobals "read_condition" = some (some (.ref 100)))
def X_ard (K : PySem.W.Frag) : Bool := decide (PySem.W.nsIn K mainGlobals "read_deed" = some (some (.ref 93)))
def X_dS (K : PySem.W.Frag) : Bool := decide (PySem.W.nsIn K mainGlobals "COMPARISONS" = some (some (.ref 88)))
def X_jS (K : PySem.W.Frag) : Bool := tupA K 88 (cmps.map He.Dv.str)
def X_aMD (K : PySem.W.Frag) : Bool := intA K "MOST_DEEDS" 6
def X_dB (K : PySem.W.Frag) : Bool := decide (PySem.W.nsIn K mainGlobals "BOUNDS" = some (some (.ref 15)))
def X_vB (K : PySem.W.Frag) : Bool := dtT K 15 btabL
def X_dC (K : PySem.W.Frag) : Bool := decide (PySem.W.nsIn K mainGlobals "PLACE_COUNTS" = some (some (.ref 82)))
def X_vC (K : PySem.W.Frag) : Bool := dtT K 82 ctabL
def X_dP (K : PySem.W.Frag) : Bool := decide (PySem.W.nsIn K mainGlobals "PLACE_INDEXES" = some (some (.ref 56)))
def X_vP (K : PySem.W.Frag) : Bool := dtI K 56 ptab
def X_dN (K : PySem.W.Frag) : Bool := decide (PySem.W.nsIn K mainGlobals "NUMBERS" = some (some (.ref 87)))
def X_vN (K : PySem.W.Frag) : Bool := dtI K 87 ntab
def X_dR (K : PySem.W.Frag) : Bool := decide (PySem.W.nsIn K mainGlobals "ORDERS" = some (some (.ref 57)))
def X_vR (K : PySem.W.Frag) : Bool := ordA K 57
def X_aC (K : PySem.W.Frag) : Bool := decide (PySem.W.nsIn K mainGlobals "Nest" = some (some (.ref 882)))
def X_aCP (K : PySem.W.Frag) : Bool := decide (PySem.W.nsIn K mainGlobals "Program" = some (some (.ref 955)))
def X_am1 (K : PySem.W.Frag) : Bool := decide (PySem.W.findIn K (.ref 882) "__init__" = some (some (.ref 834)))
def X_im1 (K : PySem.W.Frag) : Bool := PySem.W.isFn K (.ref 834)
def X_am2 (K : PySem.W.Frag) : Bool := decide (PySem.W.findIn K (.ref 882) "__len__" = some (some (.ref 865)))
def X_im2 (K : PySem.W.Frag) : Bool := PySem.W.isFn K (.ref 865)
def X_am3 (K : PySem.W.Frag) : Bool := decide (PySem.W.findIn K (.ref 882) "__bool__" = some (some (.ref 872)))
def X_im3 (K : PySem.W.Frag) : Bool := PySem.W.isFn K (.ref 872)
def X_am4 (K : PySem.W.Frag) : Bool := decide (PySem.W.findIn K (.ref 882) "__eq__" = some (some (.ref 879)))
def X_im4 (K : PySem.W.Frag) : Bool := PySem.W.isFn K (.ref 879)
def X_ag1 (K : PySem.W.Frag) : Bool := decide (PySem.W.findIn K (.ref 882) "outer" = some (some (.ref 842)))
def X_sg1 (K : PySem.W.Frag) : Bool := decide (PySem.W.specialIn K (.ref 842) "__get__" = some (some (.builtin "property.__get__")))
def X_tg1 (K : PySem.W.Frag) : Bool := decide (PySem.W.takesIn K (.ref 842) = some true)
def X_rg1 (K : PySem.W.Frag) : Bool := propA K 842 841
def X_ag2 (K : PySem.W.Frag) : Bool := decide (PySem.W.findIn K (.ref 882) "inner" = some (some (.ref 850)))
def X_sg2 (K : PySem.W.Frag) : Bool := decide (PySem.W.specialIn K (.ref 850) "__get__" = some (some (.builtin "property.__get__")))
def X_tg2 (K : PySem.W.Frag) : Bool := decide (PySem.W.takesIn K (.ref 850) = some true)
def X_rg2 (K : PySem.W.Frag) : Bool := propA K 850 849
def X_ag3 (K : PySem.W.Frag) : Bool := decide (PySem.W.findIn K (.ref 882) "deeds" = some (some (.ref 858)))
def X_sg3 (K : PySem.W.Frag) : Bool := decide (PySem.W.specialIn K (.ref 858) "__get__" = some (some (.builtin "property.__get__")))
def X_tg3 (K : PySem.W.Frag) : Bool := decide (PySem.W.takesIn K (.ref 858) = some true)
def X_rg3 (K : PySem.W.Frag) : Bool := propA K 858 857
def X_n_pg (K : PySem.W.Frag) : Bool := PySem.W.plainGet K 882 Str.empty
def X_n_hd (K : PySem.W.Frag) : Bool := PySem.W.hasDictIn K 882
def X_n_po (K : PySem.W.Frag) : Bool := PySem.W.plainOver K 882
def X_n_sa (K : PySem.W.Frag) : Bool := decide (PySem.W.findIn K (.ref 882) "__setattr__" = some (some (.builtin "object.__setattr__")))
def X_n_mk (K : PySem.W.Frag) : Bool := PySem.W.makesIn K 882
def X_n_kc (K : PySem.W.Frag) : Bool := PySem.W.keepIn K (.ref 882)
def X_n_nO (K : PySem.W.Frag) : Bool := decide (PySem.W.findIn K (.ref 882) "_outer" = some none)
def X_n_nI (K : PySem.W.Frag) : Bool := decide (PySem.W.findIn K (.ref 882) "_inner" = some none)
def X_n_nD (K : PySem.W.Frag) : Bool := decide (PySem.W.findIn K (.ref 882) "_deeds" = some none)
def X_n_nB (K : PySem.W.Frag) : Bool := decide (PySem.W.findIn K (.ref 882) "bounds" = some none)
def X_n_nR (K : PySem.W.Frag) : Bool := decide (PySem.W.findIn K (.ref 882) "orders" = some none)
def X_n_nP (K : PySem.W.Frag) : Bool := decide (PySem.W.findIn K (.ref 882) "plans" = some none)
def X_n_q1 (K : PySem.W.Frag) : Bool := decide (PySem.W.findIn K (.ref 882) "__class__" = some (some (.builtin "object.__class__")))
def X_n_q4 (K : PySem.W.Frag) : Bool := decide (PySem.W.mroIn K 882 (.type "object") = some true)
def X_sp_ (K : PySem.W.Frag) : Bool := decide (PySem.W.specialIn K (.builtin "object.__class__") "__get__" = some (some (.builtin "getset_descriptor.__get__")))
def X_tk_ (K : PySem.W.Frag) : Bool := decide (PySem.W.takesIn K (.builtin "object.__class__") = some true)
def X_am5 (K : PySem.W.Frag) : Bool := decide (PySem.W.findIn K (.ref 955) "__init__" = some (some (.ref 898)))
def X_im5 (K : PySem.W.Frag) : Bool := PySem.W.isFn K (.ref 898)
def X_ag4 (K : PySem.W.Frag) : Bool := decide (PySem.W.findIn K (.ref 955) "nests" = some (some (.ref 914)))
def X_sg4 (K : PySem.W.Frag) : Bool := decide (PySem.W.specialIn K (.ref 914) "__get__" = some (some (.builtin "property.__get__")))
def X_tg4 (K : PySem.W.Frag) : Bool := decide (PySem.W.takesIn K (.ref 914) = some true)
def X_rg4 (K : PySem.W.Frag) : Bool := propA K 914 913
def X_am6 (K : PySem.W.Frag) : Bool := decide (PySem.W.findIn K (.ref 955) "__str__" = some (some (.ref 940)))
def X_im6 (K : PySem.W.Frag) : Bool := PySem.W.isFn K (.ref 940)
def X_am7 (K : PySem.W.Frag) : Bool := decide (PySem.W.findIn K (.ref 955) "__len__" = some (some (.ref 921)))
def X_im7 (K : PySem.W.Frag) : Bool := PySem.W.isFn K (.ref 921)
def X_am9 (K : PySem.W.Frag) : Bool := decide (PySem.W.findIn K (.ref 955) "__repr__" = some (some (.ref 945)))
def X_im9 (K : PySem.W.Frag) : Bool := PySem.W.isFn K (.ref 945)
def X_am10 (K : PySem.W.Frag) : Bool := decide (PySem.W.findIn K (.ref 955) "__bool__" = some (some (.ref 928)))
def X_im10 (K : PySem.W.Frag) : Bool := PySem.W.isFn K (.ref 928)
def X_am11 (K : PySem.W.Frag) : Bool := decide (PySem.W.findIn K (.ref 955) "__add__" = some (some (.ref 952)))
def X_im11 (K : PySem.W.Frag) : Bool := PySem.W.isFn K (.ref 952)
def X_p_pg (K : PySem.W.Frag) : Bool := PySem.W.plainGet K 955 Str.empty
def X_p_hd (K : PySem.W.Frag) : Bool := PySem.W.hasDictIn K 955
def X_p_po (K : PySem.W.Frag) : Bool := PySem.W.plainOver K 955
def X_p_sa (K : PySem.W.Frag) : Bool := decide (PySem.W.findIn K (.ref 955) "__setattr__" = some (some (.builtin "object.__setattr__")))
def X_p_mk (K : PySem.W.Frag) : Bool := PySem.W.makesIn K 955
def X_p_kc (K : PySem.W.Frag) : Bool := PySem.W.keepIn K (.ref 955)
def X_p_nN (K : PySem.W.Frag) : Bool := decide (PySem.W.findIn K (.ref 955) "_nests" = some none)
def X_p_q1 (K : PySem.W.Frag) : Bool := decide (PySem.W.findIn K (.ref 955) "__class__" = some (some (.builtin "object.__class__")))
def X_p_q4 (K : PySem.W.Frag) : Bool := decide (PySem.W.mroIn K 955 (.type "object") = some true)
def X_sf (K : PySem.W.Frag) : Bool := PySem.W.selfFirst K 955
def X_y_n (K : PySem.W.Frag) : Bool := decide (PySem.W.kitOne K (.type "NoneType") (.ref 882) = some false)
def X_y_i (K : PySem.W.Frag) : Bool := decide (PySem.W.kitOne K (.type "int") (.ref 882) = some false)
def X_y_s (K : PySem.W.Frag) : Bool := decide (PySem.W.kitOne K (.type "str") (.ref 882) = some false)
def X_y_t (K : PySem.W.Frag) : Bool := decide (PySem.W.kitOne K (.type "tuple") (.ref 882) = some false)
def X_y_l (K : PySem.W.Frag) : Bool := decide (PySem.W.kitOne K (.type "list") (.ref 882) = some false)
def X_y_p (K : PySem.W.Frag) : Bool := decide (PySem.W.kitOne K (.ref 955) (.ref 882) = some false)
def X_dOS (K : PySem.W.Frag) : Bool := strA K "OUTER_START" "i from "
def X_dIS (K : PySem.W.Frag) : Bool := strA K "INNER_START" "j from "
def X_dMN (K : PySem.W.Frag) : Bool := intA K "MOST_NESTS" 4
def X_abh (K : PySem.W.Frag) : Bool := decide (PySem.W.nsIn K mainGlobals "behind" = some (some (.ref 987)))
def X_arb (K : PySem.W.Frag) : Bool := decide (PySem.W.nsIn K mainGlobals "rows_by_nest" = some (some (.ref 973)))
def X_ant (K : PySem.W.Frag) : Bool := decide (PySem.W.nsIn K mainGlobals "nest_text" = some (some (.ref 966)))
def X_aU (K : PySem.W.Frag) : Bool := decide (PySem.W.nsIn K mainGlobals "_law_number" = some (some (.ref 994)))
def X_abg (K : PySem.W.Frag) : Bool := decide (PySem.W.nsIn K mainGlobals "_law_bag" = some (some (.ref 1001)))
def X_aT (K : PySem.W.Frag) : Bool := decide (PySem.W.nsIn K mainGlobals "_law_take" = some (some (.ref 1008)))
def X_aE (K : PySem.W.Frag) : Bool := decide (PySem.W.nsIn K mainGlobals "_law_edge_row" = some (some (.ref 1015)))
def X_aW (K : PySem.W.Frag) : Bool := decide (PySem.W.nsIn K mainGlobals "_law_walk_row" = some (some (.ref 1022)))
def X_aQ (K : PySem.W.Frag) : Bool := decide (PySem.W.nsIn K mainGlobals "_law_act_row" = some (some (.ref 1027)))
def X_apg9 (K : PySem.W.Frag) : Bool := decide (PySem.W.nsIn K mainGlobals "_law_page" = some (some (.ref 1032)))
def X_aV (K : PySem.W.Frag) : Bool := decide (PySem.W.nsIn K mainGlobals "_law_walk" = some (some (.ref 1039)))
def X_aY (K : PySem.W.Frag) : Bool := decide (PySem.W.nsIn K mainGlobals "_law_act" = some (some (.ref 1046)))
def X_apr (K : PySem.W.Frag) : Bool := decide (PySem.W.nsIn K mainGlobals "_law_part" = some (some (.ref 1051)))
def X_asc9 (K : PySem.W.Frag) : Bool := decide (PySem.W.nsIn K mainGlobals "_law_scheme" = some (some (.ref 1056)))
def X_aM (K : PySem.W.Frag) : Bool := decide (PySem.W.nsIn K mainGlobals "_law_made_nest" = some (some (.ref 1063)))
def X_amd (K : PySem.W.Frag) : Bool := decide (PySem.W.nsIn K mainGlobals "_law_made" = some (some (.ref 1070)))
def X_abu (K : PySem.W.Frag) : Bool := decide (PySem.W.nsIn K mainGlobals "_law_built" = some (some (.ref 1075)))
def X_ash (K : PySem.W.Frag) : Bool := decide (PySem.W.nsIn K mainGlobals "_law_shows" = some (some (.ref 1099)))
def X_aJ (K : PySem.W.Frag) : Bool := decide (PySem.W.nsIn K mainGlobals "_law_joined_right" = some (some (.ref 1106)))
def X_aX (K : PySem.W.Frag) : Bool := decide (PySem.W.nsIn K mainGlobals "_law_mixed_right" = some (some (.ref 1111)))
def X_aL (K : PySem.W.Frag) : Bool := decide (PySem.W.nsIn K mainGlobals "law" = some (some (.ref 1116)))
def X_ae0 (K : PySem.W.Frag) : Bool := decide (PySem.W.nsIn K mainGlobals "InvalidLoop" = some (some (.ref 144)))
def X_ae1 (K : PySem.W.Frag) : Bool := decide (PySem.W.nsIn K mainGlobals "InvalidText" = some (some (.ref 170)))
def X_ae2 (K : PySem.W.Frag) : Bool := decide (PySem.W.nsIn K mainGlobals "InvalidSize" = some (some (.ref 196)))
def X_ae3 (K : PySem.W.Frag) : Bool := decide (PySem.W.nsIn K mainGlobals "InvalidCell" = some (some (.ref 222)))
def X_ae4 (K : PySem.W.Frag) : Bool := decide (PySem.W.nsIn K mainGlobals "InvalidKind" = some (some (.ref 248)))
def X_ae5 (K : PySem.W.Frag) : Bool := decide (PySem.W.nsIn K mainGlobals "InvalidTable" = some (some (.ref 274)))
def X_ae6 (K : PySem.W.Frag) : Bool := decide (PySem.W.nsIn K mainGlobals "InvalidEntry" = some (some (.ref 300)))
def X_ae7 (K : PySem.W.Frag) : Bool := decide (PySem.W.nsIn K mainGlobals "InvalidPower" = some (some (.ref 326)))
def X_ae8 (K : PySem.W.Frag) : Bool := decide (PySem.W.nsIn K mainGlobals "InvalidCount" = some (some (.ref 352)))
def X_ae9 (K : PySem.W.Frag) : Bool := decide (PySem.W.nsIn K mainGlobals "InvalidTail" = some (some (.ref 378)))
def X_ae10 (K : PySem.W.Frag) : Bool := decide (PySem.W.nsIn K mainGlobals "InvalidName" = some (some (.ref 404)))
def X_ae11 (K : PySem.W.Frag) : Bool := decide (PySem.W.nsIn K mainGlobals "InvalidWish" = some (some (.ref 430)))
def X_ae12 (K : PySem.W.Frag) : Bool := decide (PySem.W.nsIn K mainGlobals "InvalidIndex" = some (some (.ref 456)))
def X_ae13 (K : PySem.W.Frag) : Bool := decide (PySem.W.nsIn K mainGlobals "NotAProgram" = some (some (.ref 482)))
def X_ae14 (K : PySem.W.Frag) : Bool := decide (PySem.W.nsIn K mainGlobals "NotAnAction" = some (some (.ref 508)))
def X_ae15 (K : PySem.W.Frag) : Bool := decide (PySem.W.nsIn K mainGlobals "InvalidDeeds" = some (some (.ref 534)))
def X_ae16 (K : PySem.W.Frag) : Bool := decide (PySem.W.nsIn K mainGlobals "InvalidNests" = some (some (.ref 560)))
def X_ae17 (K : PySem.W.Frag) : Bool := decide (PySem.W.nsIn K mainGlobals "InvalidListed" = some (some (.ref 586)))
def X_ae18 (K : PySem.W.Frag) : Bool := decide (PySem.W.nsIn K mainGlobals "InvalidChanges" = some (some (.ref 612)))
def X_ae19 (K : PySem.W.Frag) : Bool := decide (PySem.W.nsIn K mainGlobals "InvalidPrograms" = some (some (.ref 638)))
def X_ae20 (K : PySem.W.Frag) : Bool := decide (PySem.W.nsIn K mainGlobals "UnknownName" = some (some (.ref 684)))
def X_ae21 (K : PySem.W.Frag) : Bool := decide (PySem.W.nsIn K mainGlobals "InUse" = some (some (.ref 710)))
def X_ae22 (K : PySem.W.Frag) : Bool := decide (PySem.W.nsIn K mainGlobals "Falls" = some (some (.ref 756)))
def X_ae23 (K : PySem.W.Frag) : Bool := decide (PySem.W.nsIn K mainGlobals "NotOneToOne" = some (some (.ref 782)))
def X_ae24 (K : PySem.W.Frag) : Bool := decide (PySem.W.nsIn K mainGlobals "NothingToUndo" = some (some (.ref 794)))
def X_ae25 (K : PySem.W.Frag) : Bool := decide (PySem.W.nsIn K mainGlobals "Broken" = some (some (.ref 820)))
def X_ae26 (K : PySem.W.Frag) : Bool := decide (PySem.W.nsIn K mainGlobals "WrongValue" = some (some (.ref 117)))
def X_ae27 (K : PySem.W.Frag) : Bool := decide (PySem.W.nsIn K mainGlobals "WrongName" = some (some (.ref 657)))
def X_ae28 (K : PySem.W.Frag) : Bool := decide (PySem.W.nsIn K mainGlobals "NoAnswer" = some (some (.ref 729)))
def X_oe16 (K : PySem.W.Frag) : Bool := oexA K 560
def X_ga16_ (K : PySem.W.Frag) : Bool := decide (PySem.W.findIn K (.ref 560) "__getattribute__" = some (some (.builtin "BaseException.__getattribute__")))
def X_gg16_ (K : PySem.W.Frag) : Bool := decide (PySem.W.findIn K (.ref 560) "__getattr__" = some none)
def X_gv16_ (K : PySem.W.Frag) : Bool := decide (PySem.W.findIn K (.ref 560) "given" = some none)
def X_gi16_ (K : PySem.W.Frag) : Bool := decide (PySem.W.findIn K (.ref 560) "index" = some none)
def X_gs16_ (K : PySem.W.Frag) : Bool := decide (PySem.W.findIn K (.ref 560) "size" = some none)
def X_i16_ (K : PySem.W.Frag) : Bool := decide (PySem.W.findIn K (.ref 560) "__init__" = some (some (.ref 550)))
def X_t16_ (K : PySem.W.Frag) : Bool := decide (PySem.W.typeIn K (.ref 550) = some (.type "function"))
def X_e16_ (K : PySem.W.Frag) : Bool := decide (PySem.W.subIn K (.ref 560) (.type "BaseException") = some true)
def X_h16_ (K : PySem.W.Frag) : Bool := PySem.W.hasDictIn K 560
def X_cl16_ (K : PySem.W.Frag) : Bool := decide (PySem.W.findIn K (.ref 560) "__class__" = some (some (.builtin "object.__class__")))
def X_mr16_ (K : PySem.W.Frag) : Bool := decide (PySem.W.mroIn K 560 (.type "object") = some true)
def X_ex16_ (K : PySem.W.Frag) : Bool := decide (PySem.W.exmAny K (.ref 560) [.ref 117, .ref 657, .ref 729] = some true)
def X_o16_0_ (K : PySem.W.Frag) : Bool := decide (PySem.W.kitOne K (.ref 560) (.ref 144) = some false)
def X_o16_1_ (K : PySem.W.Frag) : Bool := decide (PySem.W.kitOne K (.ref 560) (.ref 170) = some false)
def X_o16_2_ (K : PySem.W.Frag) : Bool := decide (PySem.W.kitOne K (.ref 560) (.ref 196) = some false)
def X_o16_3_ (K : PySem.W.Frag) : Bool := decide (PySem.W.kitOne K (.ref 560) (.ref 222) = some false)
def X_o16_4_ (K : PySem.W.Frag) : Bool := decide (PySem.W.kitOne K (.ref 560) (.ref 248) = some false)
def X_o16_5_ (K : PySem.W.Frag) : Bool := decide (PySem.W.kitOne K (.ref 560) (.ref 274) = some false)
def X_o16_6_ (K : PySem.W.Frag) : Bool := decide (PySem.W.kitOne K (.ref 560) (.ref 300) = some false)
def X_o16_7_ (K : PySem.W.Frag) : Bool := decide (PySem.W.kitOne K (.ref 560) (.ref 326) = some false)
def X_o16_8_ (K : PySem.W.Frag) : Bool := decide (PySem.W.kitOne K (.ref 560) (.ref 352) = some false)
def X_o16_9_ (K : PySem.W.Frag) : Bool := decide (PySem.W.kitOne K (.ref 560) (.ref 378) = some false)
def X_o16_10_ (K : PySem.W.Frag) : Bool := decide (PySem.W.kitOne K (.ref 560) (.ref 404) = some false)
def X_o16_11_ (K : PySem.W.Frag) : Bool := decide (PySem.W.kitOne K (.ref 560) (.ref 430) = some false)
def X_o16_12_ (K : PySem.W.Frag) : Bool := decide (PySem.W.kitOne K (.ref 560) (.ref 456) = some false)
def X_o16_13_ (K : PySem.W.Frag) : Bool := decide (PySem.W.kitOne K (.ref 560) (.ref 482) = some false)
def X_o16_14_ (K : PySem.W.Frag) : Bool := decide (PySem.W.kitOne K (.ref 560) (.ref 508) = some false)
def X_o16_15_ (K : PySem.W.Frag) : Bool := decide (PySem.W.kitOne K (.ref 560) (.ref 534) = some false)
def X_o16_16_ (K : PySem.W.Frag) : Bool := decide (PySem.W.kitOne K (.ref 560) (.ref 560) = some true)
def X_o16_17_ (K : PySem.W.Frag) : Bool := decide (PySem.W.kitOne K (.ref 560) (.ref 586) = some false)
def X_o16_18_ (K : PySem.W.Frag) : Bool := decide (PySem.W.kitOne K (.ref 560) (.ref 612) = some false)
def X_o16_19_ (K : PySem.W.Frag) : Bool := decide (PySem.W.kitOne K (.ref 560) (.ref 638) = some false)
def X_o16_20_ (K : PySem.W.Frag) : Bool := decide (PySem.W.kitOne K (.ref 560) (.ref 684) = some false)
def X_o16_21_ (K : PySem.W.Frag) : Bool := decide (PySem.W.kitOne K (.ref 560) (.ref 710) = some false)
def X_o16_22_ (K : PySem.W.Frag) : Bool := decide (PySem.W.kitOne K (.ref 560) (.ref 756) = some false)
def X_o16_23_ (K : PySem.W.Frag) : Bool := decide (PySem.W.kitOne K (.ref 560) (.ref 782) = some false)
def X_o16_24_ (K : PySem.W.Frag) : Bool := decide (PySem.W.kitOne K (.ref 560) (.ref 794) = some false)
def X_o16_25_ (K : PySem.W.Frag) : Bool := decide (PySem.W.kitOne K (.ref 560) (.ref 820) = some false)
def X_o16_26_ (K : PySem.W.Frag) : Bool := decide (PySem.W.kitOne K (.ref 560) (.ref 117) = some true)
def X_o16_27_ (K : PySem.W.Frag) : Bool := decide (PySem.W.kitOne K (.ref 560) (.ref 657) = some false)
def X_o16_28_ (K : PySem.W.Frag) : Bool := decide (PySem.W.kitOne K (.ref 560) (.ref 729) = some false)
def X_o16_29_ (K : PySem.W.Frag) : Bool := decide (PySem.W.kitOne K (.ref 560) (.type "ValueError") = some true)
def X_o16_30_ (K : PySem.W.Frag) : Bool := decide (PySem.W.kitOne K (.ref 560) (.type "LookupError") = some false)
def X_o16_31_ (K : PySem.W.Frag) : Bool := decide (PySem.W.kitOne K (.ref 560) (.type "ArithmeticError") = some false)
def X_ake (K : PySem.W.Frag) : Bool := decide (PySem.W.nsIn K mainGlobals "_law_kind_of_error" = some (some (.ref 1080)))
def X_akp (K : PySem.W.Frag) : Bool := decide (PySem.W.nsIn K mainGlobals "_law_kept_of_error" = some (some (.ref 1087)))
def X_aan (K : PySem.W.Frag) : Bool := decide (PySem.W.nsIn K mainGlobals "_law_answer" = some (some (.ref 1094)))
def X_z_len (K : PySem.W.Frag) : Bool := decide (PySem.W.nsIn K mainGlobals "len" = some none)
def X_z_int (K : PySem.W.Frag) : Bool := decide (PySem.W.nsIn K mainGlobals "int" = some none)
def X_z_abs (K : PySem.W.Frag) : Bool := decide (PySem.W.nsIn K mainGlobals "abs" = some none)
def X_z_divmod (K : PySem.W.Frag) : Bool := decide (PySem.W.nsIn K mainGlobals "divmod" = some none)
def X_z_range (K : PySem.W.Frag) : Bool := decide (PySem.W.nsIn K mainGlobals "range" = some none)
def X_z_isinstance (K : PySem.W.Frag) : Bool := decide (PySem.W.nsIn K mainGlobals "isinstance" = some none)
def X_z_bool (K : PySem.W.Frag) : Bool := decide (PySem.W.nsIn K mainGlobals "bool" = some none)
def X_z_tuple (K : PySem.W.Frag) : Bool := decide (PySem.W.nsIn K mainGlobals "tuple" = some none)
def X_z_str (K : PySem.W.Frag) : Bool := decide (PySem.W.nsIn K mainGlobals "str" = some none)
def X_z_list (K : PySem.W.Frag) : Bool := decide (PySem.W.nsIn K mainGlobals "list" = some none)
def X_z_min (K : PySem.W.Frag) : Bool := decide (PySem.W.nsIn K mainGlobals "min" = some none)
def X_z_max (K : PySem.W.Frag) : Bool := decide (PySem.W.nsIn K mainGlobals "max" = some none)
def X_z_all (K : PySem.W.Frag) : Bool := decide (PySem.W.nsIn K mainGlobals "all" = some none)
def X_z_any (K : PySem.W.Frag) : Bool := decide (PySem.W.nsIn K mainGlobals "any" = some none)
def X_z_sum (K : PySem.W.Frag) : Bool := decide (PySem.W.nsIn K mainGlobals "sum" = some none)
def X_z_sorted (K : PySem.W.Frag) : Bool := decide (PySem.W.nsIn K mainGlobals "sorted" = some none)
def X_z_enumerate (K : PySem.W.Frag) : Bool := decide (PySem.W.nsIn K mainGlobals "enumerate" = some none)
def X_z_set (K : PySem.W.Frag) : Bool := decide (PySem.W.nsIn K mainGlobals "set" = some none)
def X_z_ValueError (K : PySem.W.Frag) : Bool := decide (PySem.W.nsIn K mainGlobals "ValueError" = some none)
def X_z_LookupError (K : PySem.W.Frag) : Bool := decide (PySem.W.nsIn K mainGlobals "LookupError" = some none)
def X_z_ArithmeticError (K : PySem.W.Frag) : Bool := decide (PySem.W.nsIn K mainGlobals "ArithmeticError" = some none)
def X_z_repr (K : PySem.W.Frag) : Bool := decide (PySem.W.nsIn K mainGlobals "repr" = some none)
def hEx0 : List (PySem.W.Frag → Bool) := [X_arl, X_aro, X_afw, X_arc, X_ard, X_dS, X_jS, X_aMD, X_dB, X_vB, X_dC, X_vC, X_dP, X_vP, X_dN, X_vN, X_dR, X_vR, X_aC, X_aCP, X_am1, X_im1, X_am2, X_im2, X_am3, X_im3, X_am4, X_im4, X_ag1, X_sg1]
def hEx1 : List (PySem.W.Frag → Bool) := [X_tg1, X_rg1, X_ag2, X_sg2, X_tg2, X_rg2, X_ag3, X_sg3, X_tg3, X_rg3, X_n_pg, X_n_hd, X_n_po, X_n_sa, X_n_mk, X_n_kc, X_n_nO, X_n_nI, X_n_nD, X_n_nB, X_n_nR, X_n_nP, X_n_q1, X_n_q4, X_sp_, X_tk_, X_am5, X_im5, X_ag4, X_sg4]
def hEx2 : List (PySem.W.Frag → Bool) := [X_tg4, X_rg4, X_am6, X_im6, X_am7, X_im7, X_am9, X_im9, X_am10, X_im10, X_am11, X_im11, X_p_pg, X_p_hd, X_p_po, X_p_sa, X_p_mk, X_p_kc, X_p_nN, X_p_q1, X_p_q4, X_sf, X_y_n, X_y_i, X_y_s, X_y_t, X_y_l, X_y_p, X_dOS, X_dIS]
def hEx3 : List (PySem.W.Frag → Bool) := [X_dMN, X_abh, X_arb, X_ant, X_aU, X_abg, X_aT, X_aE, X_aW, X_aQ, X_apg9, X_aV, X_aY, X_apr, X_asc9, X_aM, X_amd, X_abu, X_ash, X_aJ, X_aX, X_aL, X_ae0, X_ae1, X_ae2, X_ae3, X_ae4, X_ae5, X_ae6, X_ae7]
def hEx4 : List (PySem.W.Frag → Bool) := [X_ae8, X_ae9, X_ae10, X_ae11, X_ae12, X_ae13, X_ae14, X_ae15, X_ae16, X_ae17, X_ae18, X_ae19, X_ae20, X_ae21, X_ae22, X_ae23, X_ae24, X_ae25, X_ae26, X_ae27, X_ae28, X_oe16, X_ga16_, X_gg16_, X_gv16_, X_gi16_, X_gs16_, X_i16_, X_t16_, X_e16_]
def hEx5 : List (PySem.W.Frag → Bool) := [X_h16_, X_cl16_, X_mr16_, X_ex16_, X_o16_0_, X_o16_1_, X_o16_2_, X_o16_3_, X_o16_4_, X_o16_5_, X_o16_6_, X_o16_7_, X_o16_8_, X_o16_9_, X_o16_10_, X_o16_11_, X_o16_12_, X_o16_13_, X_o16_14_, X_o16_15_, X_o16_16_, X_o16_17_, X_o16_18_, X_o16_19_, X_o16_20_, X_o16_21_, X_o16_22_, X_o16_23_, X_o16_24_, X_o16_25_]
def hEx6 : List (PySem.W.Frag → Bool) := [X_o16_26_, X_o16_27_, X_o16_28_, X_o16_29_, X_o16_30_, X_o16_31_, X_ake, X_akp, X_aan, X_z_len, X_z_int, X_z_abs, X_z_divmod, X_z_range, X_z_isinstance, X_z_bool, X_z_tuple, X_z_str, X_z_list, X_z_min, X_z_max, X_z_all, X_z_any, X_z_sum, X_z_sorted, X_z_enumerate, X_z_set, X_z_ValueError, X_z_LookupError, X_z_ArithmeticError]
def hEx7 : List (PySem.W.Frag → Bool) := [X_z_repr]
def hEx : List (PySem.W.Frag → Bool) := hEx0 ++ hEx1 ++ hEx2 ++ hEx3 ++ hEx4 ++ hEx5 ++ hEx6 ++ hEx7
def hTB : Addr × List Str := (15, ["-1", "0", "1", "n-1", "n", "n+1", "n//2-1", "n//2", "n//2+1", "(n+1)//2-1", "(n+1)//2", "(n+1)//2+1", "i-1", "i", "i+1", "n-i-1", "n-i", "n-i+1"])
def hTC : Addr × List Str := (82, ["swap", "copy", "order", "turn"])
def hTP : Addr × List Str := (56, ["i,j", "j,i", "i,~j", "~j,i", "~i,j", "j,~i", "~i,~j", "~j,~i"])
def hTN : Addr × List Str := (87, ["i", "j", "~i", "~j"])
def hTs : List (Addr × List Str) := [hTB, hTC, hTP, hTN]
def hA : HeadA := ⟨hAs, hFn, hTs, [(1106, 1105, 1101), (1111, 1110, 1108)], hEx⟩
def nm0 : List PySem.Str := ["__name__", "BOUNDS", "read_loop", "read_outer_loop", "first_wrong", "PLACE_INDEXES", "ORDERS", "PLACE_COUNTS", "NUMBERS", "COMPARISONS", "read_deed", "read_condition", "WrongValue", "InvalidLoop", "InvalidText", "InvalidSize", "InvalidCell", "InvalidKind", "InvalidTable", "InvalidEntry", "InvalidPower", "InvalidCount", "InvalidTail", "InvalidName", "InvalidWish", "InvalidIndex", "NotAProgram", "NotAnAction", "InvalidDeeds", "InvalidNests"]
def nm1 : List PySem.Str := ["InvalidListed", "InvalidChanges", "InvalidPrograms", "WrongName", "UnknownName", "InUse", "NoAnswer", "Falls", "NotOneToOne", "NothingToUndo", "Broken", "MOST_NESTS", "MOST_DEEDS", "OUTER_START", "INNER_START", "Nest", "Program", "nest_text", "rows_by_nest", "nest_of_rows", "behind", "_law_number", "_law_bag", "_law_take", "_law_edge_row", "_law_walk_row", "_law_act_row", "_law_page", "_law_walk", "_law_act"]
def nm2 : List PySem.Str := ["_law_part", "_law_scheme", "_law_made_nest", "_law_made", "_law_built", "_law_kind_of_error", "_law_kept_of_error", "_law_answer", "_law_shows", "_law_joined_right", "_law_mixed_right"]
def names : List PySem.Str := nm0 ++ nm1 ++ nm2
abbrev Rw : PySem.W.OpenRow := PySem.W.OpenLaw.row PySem.Challenge.rw_squareloops_k06_programs_made_and_joined
def obA (s : PySem.W.SharedT) : AlA := hA.obs (HandSHeadRun.getT s)
set_option maxHeartbeats 0 in
theorem run0 (w : World) : HandSHeadRun.RunEq Rw (PySem.W.view Rw.prog [76]) hA.hook obA 11468 names (w.withFollow "special-get-raises" false) := by
  intro os
  kernel_rfl
set_option maxHeartbeats 0 in
theorem run1 (w : World) : HandSHeadRun.RunEq Rw (PySem.W.view Rw.prog [76]) hA.hook obA 11468 names (w.withFollow "special-get-raises" true) := by
  intro os
  kernel_rfl
theorem runA : ∀ w : World, HandSHeadRun.RunEq Rw (PySem.W.view Rw.prog [76]) hA.hook obA 11468 names w := PySem.W.byRow2 "special-get-raises" run0 run1
end Sq
namespace Sq
open PySem L2 TL
section
variable {P : Program} {w : World} {K : PySem.W.Frag} {mg : Str → Option Value} {base : Heap}
abbrev s_read_loop : Stmt := top 2
theorem sc_read_loop : FnScope ["value", "words", "descends"] ["value"] (defScope s_read_loop) := ⟨rfl, rfl, rfl, by decide +kernel, rfl, by decide +kernel, by decide +kernel⟩
theorem ok_read_loop {f : Addr} {fd : FuncData} (F : Fun K "read_loop" "read_loop" s_read_loop f fd) (T : Bt mg) {aB : Addr} (mB : mg "BOUNDS" = some (.ref aB)) (DB : BndD K w aB) : FnOk P w K mg base CX0 1 f fd ["value"] (spReadL K (obs ++ ibs)) := by
  refine F.ok sc_read_loop (fun vs H Q E h => ?_) (fun cdv A outer s H vs Q E hr h => ?_)
  · obtain ⟨v, rfl, _⟩ := h
    rfl
  · obtain ⟨v, rfl, hv, qn, qs⟩ := h
    obtain ⟨LB, D, pB, eB⟩ := DB.ex
    refine ⟨_, (pss_cons (ps_set (i := 1) sc_read_loop.nd rfl (by first | exact .inl rfl | exact .inr rfl) (pe_ifExp (pt_val (pe_callB call_isi (by rfl) T.isinstance (by decide +kernel) (pa_cons (pv 0) (pa_cons (pe_bltn (v := .ty "str") (by rfl) T.str (by decide +kernel) rfl) pa_nil)))) (pe_split (pv 0) pe_str) (pe_lst pa_nil)))
        (pss_cons (ps_set (i := 2) sc_read_loop.nd rfl (by first | exact .inl rfl | exact .inr rfl) (pe_cmpR (op_eqOne hr) (pe_slice sl_list (pv 1) (po_some pe_int) po_none) (pe_lst (pa_cons pe_str pa_nil)) (nomark _)))
        (pss_cons (ps_if (PW.pt (pw_or (pt_cmpR op_ne (pe_callB call_len_seq (by rfl) T.len PySem.boot_len (pa_cons (pv 1) pa_nil)) (pe_op op_add_ib pe_int (pv 2)) (nomark _)) (pw_or (pt_cmpR op_ne (pe_ix ix_list (pv 1) pe_int (fun _ _ => rfl)) pe_str (nomark _)) (pw_or (pt_cmpR (op_notInT D) (pe_ix ix_list (pv 1) pe_int (fun _ _ => rfl)) (pe_glob (v := .ref aB) (by rfl) mB rfl) (by with_unfolding_all rfl)) (pw_or1 (pt_cmpR (op_notInT D) (pe_ix ix_list (pv 1) pe_int (fun _ _ => rfl)) (pe_glob (v := .ref aB) (by rfl) mB rfl) (by with_unfolding_all rfl)))))))
        (pss_one (ps_ret pe_non))
        pss_nil)
        (pss_one (ps_ret (pe_tup (pa_cons (pe_ix (ix_T D) (pe_glob (v := .ref aB) (by rfl) mB rfl) (pe_ix ix_list (pv 1) pe_int (fun _ _ => rfl)) (fun _ _ => rfl)) (pa_cons (pe_ix (ix_T D) (pe_glob (v := .ref aB) (by rfl) mB rfl) (pe_ix ix_list (pv 1) pe_int (fun _ _ => rfl)) (fun _ _ => rfl)) (pa_cons (pe_callTy call_int1 (by rfl) T.int (by decide +kernel) (pa_cons (pv 2) pa_nil)) pa_nil))))))))), ?_⟩
    refine sq_ (set_ (gen_of (fun x H' => ∃ (p : Addr) (ws : List Str), x = .ref p ∧ Same H H' ∧ H' p = some (.lst (ws.map V.str)) ∧ (ws = [] ∧ okLoop (obs ++ ibs) v = false ∨ ∃ z, v = .str z ∧ ws = Txt.split z " ")) (fun Q' k => ?_) ?_))
    · rcases hv with ⟨z, rfl, hz⟩ | ⟨hn, t, ht, hk⟩
      · refine ⟨_, rfl, _, _, .type "str", _, true, rfl, .ty "str", .base (.str z), kit_ty (by decide +kernel), true, rfl, ?_⟩
        refine iteT ?_
        refine ⟨_, rfl, ⟨_, rfl⟩, _, _, rfl, rfl, rfl, hz, fun p np => ?_⟩
        exact k _ _ ⟨p, _, rfl, same_new np, upd_same, .inr ⟨z, rfl, rfl⟩⟩
      · refine ⟨_, rfl, _, _, t, _, false, rfl, .ty "str", ht, hk, false, rfl, ?_⟩
        refine iteF ?_
        refine ⟨Nat.zero_le _, fun p np => ?_⟩
        exact k _ _ ⟨p, [], rfl, same_new np, upd_same, .inl ⟨rfl, okLoop_no hn⟩⟩
    rintro _ H1 ⟨p, ws, rfl, s1, hp, hw⟩
    refine nm_seq (set_ (gen_of (fun x H' => x = .bl (decide (ws.drop 3 = [("down" : Str)])) ∧ Same H1 H') (fun Q' k => ?_) ?_))
    · refine ⟨_, rfl, _, rfl, p, _, rfl, SqL.of hp, fun p2 np2 => ?_⟩
      have s2 := same_new (o := .lst (cutV (ws.map V.str) (some 3) none)) np2
      refine ⟨(by show 1 ≤ sizeLine; decide), fun p3 np3 => ?_⟩
      have s3 := same_new (o := .lst [V.str "down"]) np3
      refine ⟨p2, p3, ws.drop 3, "down", rfl, rfl, ?_, upd_same, ?_⟩
      · rw [← cut_drop ws 3]
        exact s3 _ _ upd_same
      · exact k _ _ ⟨rfl, s2.trans s3⟩
    rintro _ H2 ⟨rfl, s2⟩
    refine nm_seq (if_ ?_)
    have hp2 := s2 _ _ hp
    have sm := s1.trans s2
    have rl : okLoop (obs ++ ibs) v = rdW ws := by
      rcases hw with ⟨e1, e2⟩ | ⟨z, rfl, e1⟩
      · rw [e1, e2]
        rfl
      · rw [e1]
        exact ok_rd z
    have bad : okLoop (obs ++ ibs) v = false → Q .non H2 := fun e => qn e _ sm
    have dd : PyProof.Rows.b2i (decide (ws.drop 3 = [("down" : Str)])) = (((if ws.drop 3 = [("down" : Str)] then 1 else 0) : Nat) : Int) := by
      by_cases h : ws.drop 3 = [("down" : Str)]
      · rw [decide_eq_true h, if_pos h]
        rfl
      · rw [decide_eq_false h, if_neg h]
        rfl
    refine ⟨_, rfl, p, _, rfl, .inl (SqL.of hp2), _, rfl, _, _, rfl, rfl, rfl, _, rfl, ?_⟩
    rw [List.length_map, dd]
    refine ite2 (fun hl => ?_) (fun hl => ?_)
    · refine bad (rl.trans ?_)
      have hl : ¬ ws.length = 3 + (if ws.drop 3 = [("down" : Str)] then 1 else 0) := fun e => by
        rw [e] at hl
        simp at hl
      unfold rdW
      rw [decide_eq_false hl]
      rfl
    have hl : ws.length = 3 + (if ws.drop 3 = [("down" : Str)] then 1 else 0) := by
      refine Classical.byContradiction fun n => hl ?_
      have : ¬ (V.int (ws.length : Int) = V.int (3 + (((if ws.drop 3 = [("down" : Str)] then 1 else 0) : Nat) : Int))) := fun e => n (by have := V.int.inj e; omega)
      simpa using this
    have h3 : 3 ≤ ws.length := by omega
    have g0 : (ws.map V.str)[0]? = some (.str (ws.getD 0 "")) := by rw [List.getElem?_map, List.getD_eq_getElem?_getD, List.getElem?_eq_getElem (by omega)]; rfl
    have g1 : (ws.map V.str)[1]? = some (.str (ws.getD 1 "")) := by rw [List.getElem?_map, List.getD_eq_getElem?_getD, List.getElem?_eq_getElem (by omega)]; rfl
    have g2 : (ws.map V.str)[2]? = some (.str (ws.getD 2 "")) := by rw [List.getElem?_map, List.getD_eq_getElem?_getD, List.getElem?_eq_getElem (by omega)]; rfl
    have rl2 : rdW ws = (decide (ws.getD 1 "" = "to") && (memB (obs ++ ibs) (ws.getD 0 "") && memB (obs ++ ibs) (ws.getD 2 ""))) := by
      unfold rdW
      rw [decide_eq_true hl, Bool.true_and]
    rw [rl2] at rl
    refine ⟨_, rfl, p, _, 1, _, rfl, rfl, SqL.of hp2, atI_nat g1, rfl, _, rfl, ?_⟩
    refine ite2 (fun ht => ?_) (fun ht => ?_)
    · refine bad (rl.trans ?_)
      have ht : ¬ ws.getD 1 "" = "to" := fun e => by
        rw [e] at ht
        simp at ht
      rw [decide_eq_false ht]
      rfl
    have ht : ws.getD 1 "" = "to" := by
      refine Classical.byContradiction fun n => ht ?_
      have : ¬ (V.str (ws.getD 1 "") = V.str "to") := fun e => n (V.str.inj e)
      simpa using this
    rw [decide_eq_true ht, Bool.true_and] at rl
    refine ⟨_, rfl, p, _, 0, _, rfl, rfl, SqL.of hp2, atI_nat g0, _, rfl, rfl, _, rfl, ?_⟩
    rw [bnd_none eB]
    cases m0 : memB (obs ++ ibs) (ws.getD 0 "") with
    | false =>
      refine iteT (bad (rl.trans ?_))
      rw [m0]
      rfl
    | true =>
    refine iteF ?_
    refine ⟨_, rfl, p, _, 2, _, rfl, rfl, SqL.of hp2, atI_nat g2, _, rfl, rfl, _, rfl, ?_⟩
    rw [bnd_none eB]
    cases m2 : memB (obs ++ ibs) (ws.getD 2 "") with
    | false =>
      refine iteT (bad (rl.trans ?_))
      rw [m0, m2]
      rfl
    | true =>
    refine iteF ?_
    obtain ⟨a1, t1, l1, b1, i1⟩ := bnd_some pB eB m0
    obtain ⟨a2, t2, l2, b2, i2⟩ := bnd_some pB eB m2
    refine ⟨_, rfl, p, _, 0, _, rfl, rfl, SqL.of hp2, atI_nat g0, _, _, rfl, rfl, l1, ?_⟩
    refine ⟨_, rfl, p, _, 2, _, rfl, rfl, SqL.of hp2, atI_nat g2, _, _, rfl, rfl, l2, ?_⟩
    refine ⟨_, rfl, .inr ⟨_, rfl, ?_⟩⟩
    refine ⟨(by show 3 ≤ sizeLine; decide), fun t nt => ?_⟩
    rw [m0, m2] at rl
    have st := same_new (o := .tup [.ref a1, .ref a2, .int (if decide (ws.drop 3 = [("down" : Str)]) = true then 1 else 0)]) nt
    have nH : H t = none := by
      cases e : H t with
      | none => rfl
      | some o => rw [sm _ _ e] at nt; cases nt
    have rw' : rdW ws = true := rl2.trans (by rw [decide_eq_true ht, m0, m2]; rfl)
    obtain ⟨a, c, ew, ma, mc⟩ := rd_words rw'
    have ea : ws.getD 0 "" = a := by rw [ew]; rfl
    have ec : ws.getD 2 "" = c := by rw [ew]; rfl
    rw [ea] at i1
    rw [ec] at i2
    rcases hw with ⟨e1, _⟩ | ⟨z, rfl, e1⟩
    · rw [e1] at h3
      cases h3
    exact qs rl z t _ rfl nH (sm.trans st) ⟨a1, a2, t1, t2, decide (ws.drop 3 = [("down" : Str)]), upd_same, b1, b2, ⟨a, c, i1, i2, by
      rw [← e1, ew]
      congr 1
      by_cases h : ws.drop 3 = [("down" : Str)]
      · rw [← ew, if_pos h, decide_eq_true h, if_pos rfl]
      · rw [← ew, if_neg h, decide_eq_false h]
        rfl⟩⟩
end
end Sq
namespace Sq
open PySem L2 TL
section
variable {P : Program} {w : World} {K : PySem.W.Frag} {mg : Str → Option Value} {base : Heap}
def spFirst (K : PySem.W.Frag) : Sp := fun vs H Q _ => ∃ (p : Addr) (m : Nat) (bs : List Bool), vs = [.ref p, .int (m : Int)] ∧ SqL K H p (bs.map V.bl) ∧ ∀ H', Same H H' → Q (optV (fw 0 m bs)) H'
abbrev s_read_outer_loop : Stmt := top 3
theorem sc_read_outer_loop : FnScope ["value", "loop", "_", "steps", "more_steps"] ["value"] (defScope s_read_outer_loop) := ⟨rfl, rfl, rfl, by decide +kernel, rfl, by decide +kernel, by decide +kernel⟩
theorem ok_read_outer_loop {f : Addr} {fd : FuncData} (F : Fun K "read_outer_loop" "read_outer_loop" s_read_outer_loop f fd) (T : Bt mg) (G_read_loop : FB P w K mg base "read_loop" 1 ["value"] (spReadL K (obs ++ ibs))) : FnOk P w K mg base CX0 2 f fd ["value"] (spReadL K obs) := by
  refine F.ok sc_read_outer_loop (fun vs H Q E h => ?_) (fun cdv A outer s H vs Q E hr h => ?_)
  · obtain ⟨v, rfl, _⟩ := h
    rfl
  · obtain ⟨v, rfl, hv, qn, qs⟩ := h
    refine ⟨_, (pss_cons (ps_set (i := 1) sc_read_outer_loop.nd rfl (by first | exact .inl rfl | exact .inr rfl) (pe_fb G_read_loop hr (by decide) (by rfl) (pa_cons (pv 0) pa_nil)))
        (pss_cons (ps_if (pt_cmpR op_isN (pv 1) pe_non (nomark _))
        (pss_one (ps_ret pe_non))
        pss_nil)
        (pss_cons (ps_asg (pv 1) (pg_tup (by rfl) (pgs_cons (pg_tup (by rfl) (pgs_cons (pg_name (i := 2) sc_read_outer_loop.nd rfl (by first | exact .inl rfl | exact .inr rfl)) (pgs_cons (pg_name (i := 3) sc_read_outer_loop.nd rfl (by first | exact .inl rfl | exact .inr rfl)) (pgs_cons (pg_name (i := 2) sc_read_outer_loop.nd rfl (by first | exact .inl rfl | exact .inr rfl)) pgs_nil)))) (pgs_cons (pg_tup (by rfl) (pgs_cons (pg_name (i := 2) sc_read_outer_loop.nd rfl (by first | exact .inl rfl | exact .inr rfl)) (pgs_cons (pg_name (i := 4) sc_read_outer_loop.nd rfl (by first | exact .inl rfl | exact .inr rfl)) (pgs_cons (pg_name (i := 2) sc_read_outer_loop.nd rfl (by first | exact .inl rfl | exact .inr rfl)) pgs_nil)))) (pgs_cons (pg_name (i := 2) sc_read_outer_loop.nd rfl (by first | exact .inl rfl | exact .inr rfl)) pgs_nil)))))
        (pss_one (ps_ret (pe_ifExp (PW.pt (pw_and (pt_cmpR op_eq (pv 3) pe_int (nomark _)) (pw_and1 (pt_cmpR op_eq (pv 4) pe_int (nomark _))))) (pv 1) pe_non)))))), ?_⟩
    refine sq_ (set_ ?_)
    refine ⟨_, rfl, v, rfl, hv, fun e H1 s1 => ?_, fun e z p H1 ez np s1 hp => ?_⟩
    · refine nm_seq (if_ ?_)
      refine ⟨_, rfl, rfl, _, rfl, ?_⟩
      refine iteT ?_
      refine qn ?_ H1 s1
      cases e2 : okLoop obs v with
      | false => rfl
      | true => rw [outer_inner e2] at e; cases e
    · subst ez
      obtain ⟨a1, a2, t1, t2, d, h1, b1, b2, h3⟩ := hp
      have st := outer_step h3
      refine nm_seq (if_ ?_)
      refine ⟨_, rfl, rfl, _, rfl, ?_⟩
      refine iteF ?_
      refine ⟨_, rfl, p, _, rfl, SqT.of h1, rfl, _, _, rfl, a1, _, rfl, b1 _, rfl, _, _, rfl, _, _, rfl, _, _, rfl, rfl, _, _, rfl, a2, _, rfl, b2 _, rfl, _, _, rfl, _, _, rfl, _, _, rfl, rfl, _, _, rfl, rfl, ?_⟩
      have no : okLoop obs (.str z) = false → Q .non H1 := fun e => qn e _ s1
      refine ⟨_, rfl, rfl, _, rfl, ?_⟩
      by_cases c1 : t1.2.1 = 0
      · rw [show decide (V.int t1.2.1 = V.int 0) = true by rw [c1]; rfl]
        refine iteT ?_
        refine ⟨_, rfl, rfl, _, rfl, ?_⟩
        by_cases c2 : t2.2.1 = 0
        · rw [show decide (V.int t2.2.1 = V.int 0) = true by rw [c2]; rfl]
          refine iteT ?_
          refine ⟨_, rfl, ?_⟩
          exact qs (by rw [st, c1, c2]; rfl) z p H1 rfl np s1 ⟨a1, a2, t1, t2, d, h1, b1, b2, h3⟩
        · have : decide (V.int t2.2.1 = V.int 0) = false := decide_eq_false fun e => c2 (V.int.inj e)
          rw [this]
          refine iteF ?_
          exact no (by rw [st, decide_eq_false c2, Bool.and_false])
      · have : decide (V.int t1.2.1 = V.int 0) = false := decide_eq_false fun e => c1 (V.int.inj e)
        rw [this]
        refine iteF ?_
        exact no (by rw [st, decide_eq_false c1, Bool.false_and])
abbrev s_first_wrong : Stmt := top 5
theorem sc_first_wrong : FnScope ["rights", "most", "index", "right"] ["rights", "most"] (defScope s_first_wrong) := ⟨rfl, rfl, rfl, by decide +kernel, rfl, by decide +kernel, by decide +kernel⟩
theorem ok_first_wrong {f : Addr} {fd : FuncData} (F : Fun K "first_wrong" "first_wrong" s_first_wrong f fd) (T : Bt mg)  : FnOk P w K mg base CX0 1 f fd ["rights", "most"] (spFirst K) := by
  refine F.ok sc_first_wrong (fun vs H Q E h => ?_) (fun cdv A outer s H vs Q E hr h => ?_)
  · obtain ⟨p, m, bs, rfl, _⟩ := h
    rfl
  · obtain ⟨p, m, bs, rfl, hp, q⟩ := h
    refine ⟨_, (pss_cons (ps_for PassesOwn.never rfl (pi_enum (by rfl) T.enumerate (pa_cons (pv 0) pa_nil)) (pg_tup (by rfl) (pgs_cons (pg_name (i := 2) sc_first_wrong.nd rfl (by first | exact .inl rfl | exact .inr rfl)) (pgs_cons (pg_name (i := 3) sc_first_wrong.nd rfl (by first | exact .inl rfl | exact .inr rfl)) pgs_nil)))
        (pss_one (ps_if (PW.pt (pw_or (pt_cmpR op_eq (pv 2) (pv 1) (nomark _)) (pw_or1 (pt_not (pt_val (pv 3))))))
        (pss_one (ps_ret (pv 2)))
        pss_nil)))
        (pss_one (ps_ret pe_non))), ?_⟩
    refine ⟨_, rfl, p, _, rfl, hp, ?_⟩
    refine for_it (walk_enum (xs := bs.map V.bl)) (fun i σ H' => (∃ v1 v2, σ = [some (.ref p), some (.int (m : Int)), v1, v2]) ∧ Same H H' ∧ fw 0 m bs = fw i m (bs.drop i)) ⟨⟨_, _, rfl⟩, Same.refl _, rfl⟩
      (fun i σ H' _ h => SqL.ext hp h.2.1) (fun i x σ H' H'' hi h y => ?_) (fun σ H' h => ?_)
    · obtain ⟨⟨v1, v2, rfl⟩, sm, hfw⟩ := h
      obtain ⟨T, x1, x2, rfl, hT, rfl, e1, e2⟩ := y
      cases e1
      have e2 : (bs.map V.bl)[i]? = some x2 := e2
      rw [List.getElem?_map] at e2
      have hlt : i < bs.length := by simpa using hi
      rw [List.getElem?_eq_getElem hlt] at e2
      cases e2
      rw [List.drop_eq_getElem_cons hlt] at hfw
      have sm2 : Same H (upd H' T (.tup [.int (i : Int), .bl bs[i]])) := sm.trans (same_new hT)
      refine ⟨T, _, rfl, SqT.of upd_same, rfl, _, _, rfl, _, _, rfl, rfl, ?_⟩
      refine ⟨_, rfl, _, rfl, rfl, _, rfl, ?_⟩
      refine ite2 (fun hm => ?_) (fun hm => ?_)
      · have e3 : i = m := Int.ofNat.inj (V.int.inj (of_decide_eq_true hm))
        refine ⟨_, rfl, ?_⟩
        have z := q _ sm2
        rw [hfw] at z
        unfold fw at z
        rw [if_pos (.inl e3)] at z
        exact z
      · have e3 : ¬ i = m := fun e => hm (decide_eq_true (by rw [e]))
        refine ⟨_, rfl, _, rfl, ?_⟩
        cases hb : bs[i] with
        | false =>
          refine iteT ?_
          refine ⟨_, rfl, ?_⟩
          have z := q _ sm2
          rw [hfw] at z
          unfold fw at z
          rw [if_pos (.inr hb)] at z
          rw [hb] at z
          exact z
        | true =>
          refine iteF ?_
          rw [hb] at sm2
          refine ⟨⟨_, _, rfl⟩, sm2, hfw.trans ?_⟩
          show (if i = m ∨ bs[i] = false then some i else fw (i + 1) m (bs.drop (i + 1))) = _
          rw [if_neg (fun e => e.elim e3 fun z => by rw [hb] at z; cases z)]
    · obtain ⟨⟨v1, v2, rfl⟩, sm, hfw⟩ := h
      have z := q _ sm
      rw [hfw, List.length_map, List.drop_length] at z
      exact z
end
end Sq
namespace Sq
open PySem L2 TL
section
variable {P : Program} {w : World} {K : PySem.W.Frag} {mg : Str → Option Value} {base : Heap}
abbrev s_read_condition : Stmt := top 13
theorem sc_read_condition : FnScope ["words", "left", "sign", "right"] ["words"] (defScope s_read_condition) := ⟨rfl, rfl, rfl, by decide +kernel, rfl, by decide +kernel, by decide +kernel⟩
theorem ok_read_condition {f : Addr} {fd : FuncData} (F : Fun K "read_condition" "read_condition" s_read_condition f fd) (T : Bt mg) {aN aS : Addr} (mN : mg "NUMBERS" = some (.ref aN)) (DN : TDict K w aN (tabI ntab)) (mS : mg "COMPARISONS" = some (.ref aS)) (tS : ∀ H, SqT K H aS (cmps.map V.str)) : FnOk P w K mg base CX0 1 f fd ["words"] (spReadC K) := by
  refine F.ok sc_read_condition (fun vs H Q E h => ?_) (fun cdv A outer s H vs Q E hr h => ?_)
  · obtain ⟨l, cs, rfl, _⟩ := h
    rfl
  · obtain ⟨l, cs, rfl, hl, h3, qn, qs⟩ := h
    refine ⟨_, (pss_cons (ps_asg (pv 0) (pg_unl (by rfl) (pgs_cons (pg_name (i := 1) sc_read_condition.nd rfl (by first | exact .inl rfl | exact .inr rfl)) (pgs_cons (pg_name (i := 2) sc_read_condition.nd rfl (by first | exact .inl rfl | exact .inr rfl)) (pgs_cons (pg_name (i := 3) sc_read_condition.nd rfl (by first | exact .inl rfl | exact .inr rfl)) pgs_nil)))))
        (pss_cons (ps_if (PW.pt (pw_or (pt_cmpR (op_notInT DN) (pv 1) (pe_glob (v := .ref aN) (by rfl) mN rfl) (by with_unfolding_all rfl)) (pw_or (pt_cmpR op_notIn_seq (pv 2) (pe_glob (v := .ref aS) (by rfl) mS rfl) (by with_unfolding_all rfl)) (pw_or (pt_cmpR (op_notInT DN) (pv 3) (pe_glob (v := .ref aN) (by rfl) mN rfl) (by with_unfolding_all rfl)) (pw_or1 (pt_cmpR op_eq (pv 1) (pv 3) (nomark _)))))))
        (pss_one (ps_ret pe_non))
        pss_nil)
        (pss_one (ps_ret (pe_tup (pa_cons (pe_ix (ix_T DN) (pe_glob (v := .ref aN) (by rfl) mN rfl) (pv 1) (fun _ _ => rfl)) (pa_cons (pv 2) (pa_cons (pe_ix (ix_T DN) (pe_glob (v := .ref aN) (by rfl) mN rfl) (pv 3) (fun _ _ => rfl)) pa_nil)))))))), ?_⟩
    obtain ⟨x, y, z, rfl⟩ := three_of cs h3
    refine sq_ (asg_ ?_)
    refine ⟨_, rfl, l, _, rfl, hl, rfl, _, _, rfl, _, _, rfl, _, _, rfl, rfl, ?_⟩
    refine pr_seq (if_ ?_)
    have bad : condB [x, y, z] = false → Q .non H := fun e => qn e _ (Same.refl _)
    refine ⟨_, rfl, _, rfl, rfl, _, rfl, ?_⟩
    rw [num_in]
    cases hx : memB nmz x with
    | false => exact iteT (bad (by simp [condB, hx]))
    | true =>
    refine iteF ?_
    refine ⟨_, rfl, aS, _, rfl, .inr (tS _), rfl, flat_strs _, _, rfl, ?_⟩
    rw [inV_str]
    cases hy : memB cmps y with
    | false => exact iteT (bad (by simp [condB, hx, hy]))
    | true =>
    refine iteF ?_
    refine ⟨_, rfl, _, rfl, rfl, _, rfl, ?_⟩
    rw [num_in]
    cases hz : memB nmz z with
    | false => exact iteT (bad (by simp [condB, hx, hy, hz]))
    | true =>
    refine iteF ?_
    refine ⟨_, rfl, _, rfl, rfl, _, rfl, ?_⟩
    by_cases e : x = z
    · subst e
      rw [show decide (V.str x = V.str x) = true from decide_eq_true rfl]
      exact iteT (bad (by simp [condB]))
    · have e2 : ¬ V.str x = V.str z := fun q => e (V.str.inj q)
      rw [decide_eq_false e2]
      refine iteF ?_
      refine pr_one (ret_ ?_)
      refine ⟨_, rfl, _, _, rfl, rfl, num_of hx, ?_⟩
      refine ⟨_, rfl, _, rfl, _, _, rfl, rfl, num_of hz, ?_⟩
      refine ⟨(by show 3 ≤ sizeLine; decide), fun p np => ?_⟩
      exact qs (by simp [condB, hx, hy, hz, e]) p _ np (same_new np) (.inr ⟨p, x, y, z, rfl, rfl, upd_same⟩)
end
end Sq
namespace Sq
open PySem L2 TL
section
variable {P : Program} {w : World} {K : PySem.W.Frag} {mg : Str → Option Value} {base : Heap}
abbrev s_read_deed : Stmt := top 12
theorem sc_read_deed : FnScope ["value", "words", "condition", "word", "names", "least", "most", "places", "name", "starts", "ends"] ["value"] (defScope s_read_deed) := ⟨rfl, rfl, rfl, by decide +kernel, rfl, by decide +kernel, by decide +kernel⟩
theorem ok_read_deed {f : Addr} {fd : FuncData} (F : Fun K "read_deed" "read_deed" s_read_deed f fd) (T : Bt mg) {aC aP : Addr} (mC : mg "PLACE_COUNTS" = some (.ref aC)) (DC : CntD K w aC) (mP : mg "PLACE_INDEXES" = some (.ref aP)) (DP : TDict K w aP (tabI ptab)) (mset : mg "set" = none) (G_read_condition : FB P w K mg base "read_condition" 1 ["words"] (spReadC K)) : FnOk P w K mg base CX0 2 f fd ["value"] (spReadD K) := by
  refine F.ok sc_read_deed (fun vs H Q E h => ?_) (fun cdv A outer s H vs Q E hr h => ?_)
  · obtain ⟨v, rfl, _⟩ := h
    rfl
  · obtain ⟨v, rfl, hv, qn, qs⟩ := h
    obtain ⟨LC, LD, pC, eC⟩ := DC.ex
    refine ⟨_, (pss_cons (ps_set (i := 1) sc_read_deed.nd rfl (by first | exact .inl rfl | exact .inr rfl) (pe_ifExp (pt_val (pe_callB call_isi (by rfl) T.isinstance (by decide +kernel) (pa_cons (pv 0) (pa_cons (pe_bltn (v := .ty "str") (by rfl) T.str (by decide +kernel) rfl) pa_nil)))) (pe_split (pv 0) pe_str) (pe_lst (pa_cons pe_str pa_nil))))
        (pss_cons (ps_set (i := 2) sc_read_deed.nd rfl (by first | exact .inl rfl | exact .inr rfl) pe_non)
        (pss_cons (ps_if (PW.pt (pw_and (pt_cmpR op_gt (pe_callB call_len_seq (by rfl) T.len PySem.boot_len (pa_cons (pv 1) pa_nil)) pe_int (nomark _)) (pw_and1 (pt_cmpR op_eq (pe_ix ix_list (pv 1) (pe_un un_neg pe_int) (fun _ _ => rfl)) pe_str (nomark _)))))
        (pss_cons (ps_set (i := 2) sc_read_deed.nd rfl (by first | exact .inl rfl | exact .inr rfl) (pe_fb G_read_condition hr (by decide) (by rfl) (pa_cons (pe_slice sl_list (pv 1) (po_some (pe_un un_neg pe_int)) po_none) pa_nil)))
        (pss_cons (ps_if (pt_cmpR op_isN (pv 2) pe_non (nomark _))
        (pss_one (ps_ret pe_non))
        pss_nil)
        (pss_one (ps_set (i := 1) sc_read_deed.nd rfl (by first | exact .inl rfl | exact .inr rfl) (pe_slice sl_list (pv 1) po_none (po_some (pe_un un_neg pe_int)))))))
        pss_nil)
        (pss_cons (ps_asg (pv 1) (pg_starL (i := 1) rfl (pgs_cons (pg_name (i := 3) sc_read_deed.nd rfl (by first | exact .inl rfl | exact .inr rfl)) (pgs_star (pg_name (i := 4) sc_read_deed.nd rfl (by first | exact .inl rfl | exact .inr rfl))))))
        (pss_cons (ps_asg (pe_getT LD (by rfl) mC (pv 3) (pe_tup (pa_cons pe_int (pa_cons pe_int pa_nil))) ⟨by rfl, by rfl, by rfl, by rfl⟩) (pg_tup (by rfl) (pgs_cons (pg_name (i := 5) sc_read_deed.nd rfl (by first | exact .inl rfl | exact .inr rfl)) (pgs_cons (pg_name (i := 6) sc_read_deed.nd rfl (by first | exact .inl rfl | exact .inr rfl)) pgs_nil))))
        (pss_cons (ps_setLc (i := 7) (own := [("name", 8)]) (g := gName 8) (by rfl) sc_read_deed.nd rfl rfl (by rfl) (pi_list (pv 4)) (blkOk_by (own := [("name", 8)]) (N := ["value", "words", "condition", "word", "names", "least", "most", "places", "name", "starts", "ends"]) (sc := defScope s_read_deed) (by decide +kernel))
            (fun _ _ _ _ _ => (pg_name (i := 8) sc_read_deed.nd rfl (by first | exact .inl rfl | exact .inr rfl))) (fun _ _ _ _ _ => (pts_one (pt_cmpR (op_inT DP) (pv 8) (pe_glob (v := .ref aP) (by rfl) mP rfl) (by with_unfolding_all rfl)))) (fun _ _ _ _ _ => (pe_ix (ix_T DP) (pe_glob (v := .ref aP) (by rfl) mP rfl) (pv 8) (fun _ _ => rfl))))
        (pss_cons (ps_if (PW.pt (pw_or (pt_not (pt_chain op_le op_le (pv 5) (pe_callB call_len_seq (by rfl) T.len PySem.boot_len (pa_cons (pv 4) pa_nil)) (pv 6))) (pw_or1 (pt_cmpR op_lt (pe_lenSetN (by rfl) T.len (by rfl) mset (pv 7)) (pe_callB call_len_seq (by rfl) T.len PySem.boot_len (pa_cons (pv 4) pa_nil)) (nomark _)))))
        (pss_one (ps_ret pe_non))
        pss_nil)
        (pss_cons (ps_asg2 (pv 7) (pg_name (i := 9) sc_read_deed.nd rfl (by first | exact .inl rfl | exact .inr rfl)) (pg_name (i := 10) sc_read_deed.nd rfl (by first | exact .inl rfl | exact .inr rfl)))
        (pss_cons (ps_if (pt_cmpR op_eq (pv 3) pe_str (nomark _))
        (pss_one (ps_par (i := 9) (j := 10) (by rfl) sc_read_deed.nd rfl rfl (by decide) rfl rfl (pa_cons (pe_slice sl_list (pv 7) po_none (po_some pe_int)) (pa_cons (pe_slice sl_list (pv 7) (po_some pe_int) po_none) pa_nil)) (by rfl)))
        (pss_one (ps_if (pt_cmpR op_ne (pv 3) pe_str (nomark _))
        (pss_one (ps_set (i := 10) sc_read_deed.nd rfl (by first | exact .inl rfl | exact .inr rfl) (pe_op op_cat (pe_slice sl_list (pv 7) (po_some pe_int) po_none) (pe_slice sl_list (pv 7) po_none (po_some pe_int)))))
        pss_nil)))
        (pss_one (ps_ret (pe_tup (pa_cons (pe_tupleOf (by rfl) T.tuple (pv 9)) (pa_cons (pe_tupleOf (by rfl) T.tuple (pv 10)) (pa_cons (pe_cmpR op_eq (pv 3) pe_str (nomark _)) (pa_cons (pv 2) pa_nil)))))))))))))))), ?_⟩
    refine sq_ (set_ (gen_of (fun x H' => ∃ (p : Addr) (ws : List Str), x = .ref p ∧ Same H H' ∧ H' p = some (.lst (ws.map V.str)) ∧ ws.length ≤ 2001 ∧ (ws = [("" : Str)] ∧ okDeed v = false ∨ ∃ z, v = .str z ∧ ws = Txt.split z " ")) (fun Q' k => ?_) ?_))
    · rcases hv with ⟨z, rfl, hz⟩ | ⟨hn, t, ht, hk⟩
      · refine ⟨_, rfl, _, _, .type "str", _, true, rfl, .ty "str", .base (.str z), kit_ty (by decide +kernel), true, rfl, ?_⟩
        refine iteT ?_
        have big : 3000 ≤ sizeLine := by decide
        have sl := split_len z
        refine ⟨_, rfl, ⟨_, rfl⟩, _, _, rfl, rfl, rfl, by omega, fun p np => ?_⟩
        exact k _ _ ⟨p, _, rfl, same_new np, upd_same, by omega, .inr ⟨z, rfl, rfl⟩⟩
      · refine ⟨_, rfl, _, _, t, _, false, rfl, .ty "str", ht, hk, false, rfl, ?_⟩
        refine iteF ?_
        refine ⟨(by show 1 ≤ sizeLine; decide), fun p np => ?_⟩
        exact k _ _ ⟨p, [("" : Str)], rfl, same_new np, upd_same, by decide, .inl ⟨rfl, okDeed_no hn⟩⟩
    rintro _ H1 ⟨p, ws, rfl, s1, hp, hn, hw⟩
    have ne : ws ≠ [] := by
      rcases hw with ⟨e, _⟩ | ⟨z, _, e⟩
      · rw [e]
        exact List.cons_ne_nil _ _
      · rw [e]
        exact split_ne z
    have okv : okDeed v = (placesB (deedW ws).w (deedW ws).ps && condB (deedW ws).cs) := by
      rcases hw with ⟨e1, e2⟩ | ⟨z, rfl, e1⟩
      · rw [e2, e1]
        rfl
      · show (placesB (deedD z).w (deedD z).ps && condB (deedD z).cs) = _
        unfold deedD
        rw [e1]
    have hDz : ∀ z, v = .str z → okDeed v = true → deedD z = deedW ws := fun z e o => by
      rcases hw with ⟨e1, e2⟩ | ⟨y, e1, e2⟩
      · rw [e2] at o
        cases o
      · rw [e] at e1
        cases e1
        unfold deedD
        rw [e2]
    have lenps : (deedW ws).ps.length ≤ 2001 := by
      unfold deedW
      split
      · show ((ws.drop 1).take _).length ≤ _
        rw [List.length_take, List.length_drop]
        omega
      · show (ws.drop 1).length ≤ _
        rw [List.length_drop]
        omega
    refine nm_seq (set_ ?_)
    refine pr_seq (st_or (fun σ' H' => ∃ (pw : Addr) (c : V), σ' = [some v, some (.ref pw), some c, none, none, none, none, none, none, none, none] ∧ Same H1 H' ∧ H' pw = some (.lst (((deedW ws).w :: (deedW ws).ps).map V.str)) ∧ condB (deedW ws).cs = true ∧ CondAt H' c (deedW ws).cs) (fun D' er k => if_ ?_) ?_)
    · have bad : condB (deedW ws).cs = false → ∀ H', Same H1 H' → D'.rt .non H' := fun e H' s => by
        rw [er]
        exact qn (by rw [okv, e, Bool.and_false]) H' (s1.trans s)
      have plain : ¬ (4 < ws.length ∧ ws[ws.length - 4]? = some ("if" : Str)) → D'.nx [some v, some (.ref p), some .non, none, none, none, none, none, none, none, none] H1 := by
        intro hc
        have e : deedW ws = ⟨ws.headD "", ws.drop 1, []⟩ := by
          unfold deedW
          rw [if_neg hc]
        refine k _ _ ⟨p, .non, rfl, Same.refl _, ?_, by rw [e]; rfl, .inl ⟨by rw [e], rfl⟩⟩
        rw [hp, e]
        cases ws with
        | nil => exact absurd rfl ne
        | cons a r => rfl
      refine ⟨_, rfl, p, _, rfl, .inl (SqL.of hp), _, _, rfl, rfl, _, rfl, ?_⟩
      rw [List.length_map]
      refine ite2 (fun hl => ?_) (fun hl => ?_)
      · have hl4 : 4 < ws.length := Int.ofNat_lt.mp (of_decide_eq_true hl)
        have lt : ws.length - 4 < ws.length := by omega
        have hat : atI (ws.map V.str) (-4) = some (.str ws[ws.length - 4]) := by
          have z := atI_neg (ws.map V.str) 4 (by decide) (by rw [List.length_map]; omega)
          rw [List.length_map, List.getElem?_map, List.getElem?_eq_getElem lt] at z
          exact z
        refine ⟨_, rfl, _, rfl, p, _, _, _, rfl, rfl, SqL.of hp, hat, rfl, _, rfl, ?_⟩
        refine ite2 (fun hif => ?_) (fun hif => ?_)
        · have e4 : ws[ws.length - 4]? = some ("if" : Str) := by
            rw [List.getElem?_eq_getElem lt]
            exact congrArg some (V.str.inj (of_decide_eq_true hif))
          have e : deedW ws = ⟨ws.headD "", (ws.drop 1).take (ws.length - 5), ws.drop (ws.length - 3)⟩ := by
            unfold deedW
            rw [if_pos ⟨hl4, e4⟩]
          refine sq_ (set_ ?_)
          refine ⟨_, rfl, _, rfl, _, rfl, p, _, rfl, SqL.of hp, fun p2 np2 => ?_⟩
          rw [cut_3 _ (by omega)]
          have s2 := same_new (o := .lst ((ws.drop (ws.length - 3)).map V.str)) np2
          refine ⟨p2, ws.drop (ws.length - 3), rfl, SqL.of upd_same, by rw [List.length_drop]; omega, fun ec H' s => ?_, fun ec p3 H' np3 s hc => ?_⟩
          · refine pr_seq (if_ ?_)
            refine ⟨_, rfl, rfl, _, rfl, ?_⟩
            refine iteT ?_
            exact bad (by rw [e]; exact ec) _ (s2.trans s)
          · refine pr_seq (if_ ?_)
            refine ⟨_, rfl, rfl, _, rfl, ?_⟩
            refine iteF ?_
            refine pr_one (set_ ?_)
            have hp' := (s2.trans s) _ _ hp
            refine ⟨_, rfl, _, rfl, _, rfl, p, _, rfl, SqL.of hp', fun p4 np4 => ?_⟩
            rw [cut_m4 _ hl4]
            have s4 := same_new (o := .lst ((ws.take (ws.length - 4)).map V.str)) np4
            refine k _ _ ⟨p4, .ref p3, rfl, (s2.trans s).trans s4, ?_, by rw [e]; exact ec, by rw [e]; exact hc.same s4⟩
            rw [upd_same, e]
            cases ws with
            | nil => exact absurd rfl ne
            | cons a r =>
              show some (HO.lst (((a :: r).take ((a :: r).length - 4)).map V.str)) = some (HO.lst ((a :: r.take ((a :: r).length - 5)).map V.str))
              have : (a :: r).length - 4 = ((a :: r).length - 5) + 1 := by omega
              rw [this, List.take_succ_cons]
        · exact plain fun hc => by
            obtain ⟨_, e4⟩ := hc
            rw [List.getElem?_eq_getElem lt] at e4
            exact hif (decide_eq_true (congrArg V.str (Option.some.inj e4)))
      · exact plain fun hc => hl (decide_eq_true (Int.ofNat_lt.mpr hc.1))
    rintro _ H2 ⟨pw, c, rfl, s2, hpw, cb, hc⟩
    generalize deedW ws = D at *
    obtain ⟨wd, ps, cs⟩ := D
    dsimp only at okv hDz lenps hpw cb hc
    rw [cb, Bool.and_true] at okv
    refine pr_seq (asg_ ?_)
    refine ⟨_, rfl, pw, _, rfl, SqL.of hpw, (by show 1 ≤ ((wd :: ps).map V.str).length; simp), fun Dn nDn => ?_⟩
    have s3 := same_new (o := .lst (((wd :: ps).map V.str).drop 1)) nDn
    refine ⟨_, _, rfl, _, _, rfl, rfl, ?_⟩
    have hDn : upd H2 Dn (.lst (((wd :: ps).map V.str).drop 1)) Dn = some (.lst (ps.map V.str)) := upd_same
    have sm3 := (s1.trans s2).trans s3
    replace hc := hc.same s3
    generalize upd H2 Dn (.lst (((wd :: ps).map V.str).drop 1)) = H3 at *
    refine pr_seq (asg_ (gen_of (fun x H' => ∃ (t : Addr) (lo hi : Nat), x = .ref t ∧ SqT K H' t [.int (lo : Int), .int (hi : Int)] ∧ Same H3 H' ∧ ((counts wd = none ∧ lo = 1 ∧ hi = 0) ∨ counts wd = some (lo, hi))) (fun Q' k => ?_) ?_))
    · refine ⟨_, rfl, (by show 2 ≤ sizeLine; decide), fun t nt => ⟨wd, rfl, ?_⟩⟩
      have st := same_new (o := .tup [V.int 1, V.int 0]) nt
      rcases cnt_look pC eC wd with ⟨c0, l0⟩ | ⟨lo, hi, a, c0, l0, ha⟩
      · rw [l0]
        exact k _ _ ⟨t, 1, 0, rfl, SqT.of upd_same, st, .inl ⟨c0, rfl, rfl⟩⟩
      · rw [l0]
        exact k _ _ ⟨a, lo, hi, rfl, ha _, st, .inr c0⟩
    rintro _ H4 ⟨t, lo, hi, rfl, ht, s4, hcnt⟩
    refine ⟨t, _, rfl, ht, rfl, _, _, rfl, _, _, rfl, rfl, ?_⟩
    have hDn4 := s4 _ _ hDn
    refine pr_seq (set_ (gen_of (fun x H' => ∃ Dp : Addr, x = .ref Dp ∧ Same H4 H' ∧ H' Dp = some (.lst (((ps.filter (memB plcs)).map placeIx).map V.int))) (fun Q' k => ?_) ?_))
    · refine ⟨_, rfl, Dn, rfl, ⟨_, SqL.of hDn4⟩, fun Dp nDp => ?_⟩
      refine lc_list (K := K) (a := Dn) (xs := ps.map V.str) (fun i H' => Same H4 H' ∧ H' Dp = some (.lst ((((ps.take i).filter (memB plcs)).map placeIx).map V.int))) ⟨same_new nDp, upd_same⟩ (fun i H' _ h => (SqL.of hDn4).ext h.1) (fun i x H' hx h => ?_) (fun H' h => ?_)
      · obtain ⟨sm, hD⟩ := h
        rw [List.getElem?_map] at hx
        cases hps : ps[i]? with
        | none =>
          rw [hps] at hx
          cases hx
        | some y =>
          rw [hps] at hx
          cases hx
          refine ⟨rfl, ?_⟩
          refine ⟨_, rfl, y, rfl, rfl, _, rfl, ?_⟩
          have tk : ps.take (i + 1) = ps.take i ++ [y] := by rw [List.take_add_one, hps]; rfl
          rw [tk, List.filter_append]
          show (if (((tabI ptab).lookup y).isSome) = true then _ else _)
          rw [place_in]
          cases hy : memB plcs y with
          | true =>
            refine iteT ?_
            refine ⟨_, rfl, y, _, rfl, rfl, place_of hy, _, hD, ?_, ?_, ?_⟩
            · have hf := List.length_filter_le (memB plcs) (ps.take i)
              rw [List.length_map, List.length_map]
              rw [List.length_take] at hf
              have big : 3000 ≤ sizeLine := by decide
              omega
            · intro c o hc
              rw [upd_ne (fun e => by rw [e, nDp] at hc; cases hc)]
              exact sm c o hc
            · rw [upd_same]
              simp [hy]
          | false =>
            refine iteF ?_
            refine ⟨sm, ?_⟩
            rw [hD]
            simp [hy]
      · obtain ⟨sm, hD⟩ := h
        rw [List.length_map, List.take_length] at hD
        exact k _ _ ⟨Dp, rfl, sm, hD⟩
    rintro _ H5 ⟨Dp, rfl, s5, hDp⟩
    have sm5 := (sm3.trans s4).trans s5
    have hDn5 := s5 _ _ hDn4
    have bad5 : placesB wd ps = false → Q .non H5 := fun e => qn (okv.trans e) _ sm5
    replace hc := (hc.same s4).same s5
    have okp : placesB wd ps = true → okDeed v = true := fun e => okv.trans e
    refine pr_seq (if_ ?_)
    have noCnt : ¬ (lo ≤ ps.length ∧ ps.length ≤ hi) → placesB wd ps = false := fun n => by
      unfold placesB
      rcases hcnt with ⟨c0, _, _⟩ | c0
      · rw [c0]
      · rw [c0]
        show (decide (lo ≤ ps.length) && decide (ps.length ≤ hi) && _) = false
        by_cases h1 : lo ≤ ps.length
        · rw [decide_eq_false (fun h2 => n ⟨h1, h2⟩), Bool.and_false, Bool.false_and]
        · rw [decide_eq_false h1, Bool.false_and, Bool.false_and]
    refine ⟨_, rfl, _, rfl, Dn, _, rfl, .inl (SqL.of hDn5), _, _, rfl, rfl, _, rfl, ?_⟩
    rw [List.length_map]
    refine ite2 (fun h1 => ?_) (fun h1 => ?_)
    case refine_2 =>
      have h1 : ¬ lo ≤ ps.length := fun e => h1 (decide_eq_true (Int.ofNat_le.mpr e))
      refine ⟨_, rfl, ?_⟩
      refine iteT ?_
      exact bad5 (noCnt fun z => h1 z.1)
    have h1 : lo ≤ ps.length := Int.ofNat_le.mp (of_decide_eq_true h1)
    refine ⟨_, rfl, _, _, rfl, rfl, _, rfl, ?_⟩
    by_cases h2 : ps.length ≤ hi
    case neg =>
      have : decide ((ps.length : Int) ≤ (hi : Int)) = false := decide_eq_false fun e => h2 (Int.ofNat_le.mp e)
      rw [this]
      refine iteT ?_
      exact bad5 (noCnt fun z => h2 z.2)
    have : decide ((ps.length : Int) ≤ (hi : Int)) = true := decide_eq_true (Int.ofNat_le.mpr h2)
    rw [this]
    refine iteF ?_
    have hcnt : counts wd = some (lo, hi) := by
      rcases hcnt with ⟨_, e1, e2⟩ | c0
      · omega
      · exact c0
    have pok := places_ok hcnt h1 h2
    refine ⟨_, rfl, Dp, (ps.filter (memB plcs)).map placeIx, rfl, SqL.of hDp, ?_, _, rfl, Dn, _, rfl, .inl (SqL.of hDn5), _, _, rfl, rfl, _, rfl, ?_⟩
    · have hf := List.length_filter_le (memB plcs) ps
      rw [List.length_map]
      omega
    rw [List.length_map]
    by_cases h4 : ((cntI ((ps.filter (memB plcs)).map placeIx) : Nat) : Int) < (ps.length : Int)
    case pos =>
      rw [decide_eq_true h4]
      refine iteT ?_
      rw [decide_eq_true h4] at pok
      exact bad5 pok
    rw [decide_eq_false h4]
    rw [decide_eq_false h4] at pok
    refine iteF ?_
    have allP : ps.filter (memB plcs) = ps := by
      have le := cnt_le ((ps.filter (memB plcs)).map placeIx)
      have lf := List.length_filter_le (memB plcs) ps
      rw [List.length_map] at le
      exact List.filter_sublist.eq_of_length (by omega)
    rw [allP] at hDp
    have hok : okDeed v = true := okv.trans pok
    obtain ⟨z, rfl⟩ : ∃ z, v = .str z := by
      rcases hw with ⟨_, e2⟩ | ⟨z, e, _⟩
      · rw [e2] at hok
        cases hok
      · exact ⟨z, e⟩
    have hD := hDz z rfl hok
    have qs := qs hok z
    have eS : startsD z = if wd = "copy" then (ps.map placeIx).take 1 else ps.map placeIx := by
      unfold startsD ixs
      rw [hD]
    have eE : endsD z = if wd = "copy" then (ps.map placeIx).drop 1 else if wd = "order" then ps.map placeIx else (ps.map placeIx).drop 1 ++ (ps.map placeIx).take 1 := by
      unfold endsD ixs
      rw [hD]
    refine pr_seq (asg2_ ?_)
    refine ⟨_, rfl, ?_⟩
    refine pr_seq (st_or (fun σ' H' => ∃ (a b : Addr), σ' = [some (.str z), some (.ref pw), some c, some (.str wd), some (.ref Dn), some (.int (lo : Int)), some (.int (hi : Int)), some (.ref Dp), none, some (.ref a), some (.ref b)] ∧ Same H5 H' ∧ H' a = some (.lst ((startsD z).map V.int)) ∧ H' b = some (.lst ((endsD z).map V.int))) (fun D' er k => if_ ?_) ?_)
    · refine ⟨_, rfl, rfl, _, rfl, ?_⟩
      by_cases w1 : wd = "copy"
      · rw [show decide (V.str wd = V.str "copy") = true by rw [w1]; rfl]
        rw [if_pos w1] at eS eE
        refine iteT ?_
        refine ⟨_, rfl, _, rfl, Dp, _, rfl, SqL.of hDp, fun a na => ?_⟩
        rw [cut_t1]
        have sa := same_new (o := .lst (((ps.map placeIx).map V.int).take 1)) na
        refine ⟨_, rfl, _, rfl, Dp, _, rfl, SqL.of (sa _ _ hDp), fun b nb => ?_⟩
        rw [cut_d1]
        have sb := same_new (o := .lst (((ps.map placeIx).map V.int).drop 1)) nb
        refine ⟨_, _, rfl, ?_⟩
        refine k _ _ ⟨a, b, rfl, sa.trans sb, ?_, ?_⟩
        · rw [eS, List.map_take]
          exact sb _ _ upd_same
        · rw [eE, List.map_drop]
          exact upd_same
      · rw [decide_eq_false (fun e => w1 (V.str.inj e) : ¬ V.str wd = V.str "copy")]
        rw [if_neg w1] at eS eE
        refine iteF ?_
        refine if_ ?_
        refine ⟨_, rfl, rfl, _, rfl, ?_⟩
        by_cases w2 : wd = "order"
        · rw [show decide (V.str wd = V.str "order") = true by rw [w2]; rfl]
          rw [if_pos w2] at eE
          refine iteF ?_
          exact k _ _ ⟨Dp, Dp, rfl, Same.refl _, by rw [eS]; exact hDp, by rw [eE]; exact hDp⟩
        · rw [decide_eq_false (fun e => w2 (V.str.inj e) : ¬ V.str wd = V.str "order")]
          rw [if_neg w2] at eE
          refine iteT ?_
          refine set_ ?_
          refine ⟨_, rfl, _, rfl, Dp, _, rfl, SqL.of hDp, fun a na => ?_⟩
          rw [cut_d1]
          have sa := same_new (o := .lst (((ps.map placeIx).map V.int).drop 1)) na
          refine ⟨_, rfl, _, rfl, Dp, _, rfl, SqL.of (sa _ _ hDp), fun b nb => ?_⟩
          rw [cut_t1]
          have sb := same_new (o := .lst (((ps.map placeIx).map V.int).take 1)) nb
          refine ⟨a, b, _, _, rfl, rfl, sb _ _ upd_same, upd_same, ?_, fun d nd => ?_⟩
          · rw [List.length_drop, List.length_take, List.length_map, List.length_map]
            have big : 3000 ≤ sizeLine := by decide
            omega
          have sd := same_new (o := .lst (((ps.map placeIx).map V.int).drop 1 ++ ((ps.map placeIx).map V.int).take 1)) nd
          refine k _ _ ⟨Dp, d, rfl, (sa.trans sb).trans sd, ?_, ?_⟩
          · rw [eS]
            exact ((sa.trans sb).trans sd) _ _ hDp
          · rw [eE, List.map_append, List.map_drop, List.map_take]
            exact upd_same
    rintro _ H6 ⟨a, b, rfl, s6, ha, hb⟩
    refine pr_one (ret_ ?_)
    refine ⟨_, rfl, .inl ⟨a, _, rfl, SqL.of ha, fun ta nta => ?_⟩⟩
    have s7 := same_new (o := .tup ((startsD z).map V.int)) nta
    refine ⟨_, rfl, .inl ⟨b, _, rfl, SqL.of (s7 _ _ hb), fun tb ntb => ?_⟩⟩
    have s8 := same_new (o := .tup ((endsD z).map V.int)) ntb
    refine ⟨_, rfl, rfl, _, rfl, (by show 4 ≤ sizeLine; decide), fun p np => ?_⟩
    have s9 := same_new (o := .tup [.ref ta, .ref tb, .bl (decide (V.str wd = V.str "order")), c]) np
    have sm9 := (((sm5.trans s6).trans s7).trans s8)
    have npH : H p = none := by
      cases e : H p with
      | none => rfl
      | some o => rw [sm9 _ _ e] at np; cases np
    refine qs p _ rfl npH (sm9.trans s9) ⟨ta, tb, c, ?_, s9 _ _ (s8 _ _ upd_same), s9 _ _ upd_same, ?_⟩
    · rw [hD]
      show upd _ _ _ p = some (.tup [.ref ta, .ref tb, .bl (decide (wd = "order")), c])
      have : decide (V.str wd = V.str "order") = decide (wd = "order") := by
        by_cases e : wd = "order"
        · rw [e]
          rfl
        · rw [decide_eq_false e, decide_eq_false (fun q => e (V.str.inj q) : ¬ V.str wd = V.str "order")]
      rw [← this]
      exact upd_same
    · rw [hD]
      exact ((hc.same s6).same (s7.trans s8)).same s9
end
end Sq
namespace Sq
open PySem L2 PySem.Spec PyProof.Rows
/-- __init__ at an instance and two keywords -/
def FnK2 (P : Program) (w : World) (K : PySem.W.Frag) (mg : Str → Option Value) (base : Heap) (k : Nat) (f : Addr) (n1 n2 : Str) (sp : Sp) : Prop :=
  ∀ (A : Around) (fr : List Env) (s : Shared) (H : Hp) (x : Addr) (u1 u2 : Value) (v1 v2 : V) (Q : VK), Room k A → Env0 P w K mg base A fr s H → RelV v1 u1 → RelV v2 u2 →
    sp [.ref x, v1, v2] H Q E0 → codeAny (model P w) A (.call (.ref f) ⟨[.ref x], [(n1, u1), (n2, u2)]⟩) (CR CX0 fr P w H s Q E0) s
section
variable {P : Program} {w : World} {K : PySem.W.Frag} {mg : Str → Option Value} {base : Heap} {k : Nat} {f : Addr} {name qual : Str} {params : Arguments} {body : List Stmt} {scope : Scope} {dV kV doc pm cdv ct oc : Value} {an od : Option Addr}
  {osl : Array (Option Value)} {N : List Str} {sp : Sp} {n0 n1 n2 nv : Str}
/-- def f(self, b, a, *v) called as f(x, a = .., b = ..): the star parameter is an empty tuple -/
theorem fn_starK2 (lk : K.lookup f = some ⟨oc, od, .func (PySem.W.fnOf name qual params body scope dV kV doc pm an cdv ct), osl⟩) (hcd : PySem.W.codeIn K cdv qual = true) (S : FnScope N [n0, n2, n1, nv] scope)
    (hb : ∀ x u1 u2 : Value, bindArgs (PySem.W.fnOf name qual params body scope dV kV doc pm an cdv ct) ⟨[x], [(n1, u1), (n2, u2)]⟩ = (newTuple [] >>= fun t => pure [(n0, x), (n2, u2), (n1, u1), (nv, t)]))
    (hbody : ∀ (A : Around) (outer : List Env) (s : Shared) (H : Hp) (vs : List V) (Q : VK) (E : XK), Room k (A.deeper (envOfC qual scope s.heap.objs.size f cdv)) → sp vs H Q E →
      ∃ t, PSs (cxOf CX0 P w K mg base N qual scope f cdv A outer s H E) body t ∧ t { nx := fun _ H' => Q .non H', rt := Q } (L2.start N vs) H) :
    FnK2 P w K mg base (k + 1) f n1 n2 (fun vs H Q E => ∃ x v1 v2, vs = [x, v1, v2] ∧ ∀ p, H p = none → sp [x, v2, v1, .ref p] (upd H p (.tup [])) Q E) := by
  intro A fr s H x u1 u2 v1 v2 Q hr e0 r1 r2 h
  obtain ⟨x', v1', v2', ev, hq⟩ := h
  cases ev
  have hn : H s.heap.objs.size = none := e0.hok.fresh (Nat.le_refl _)
  refine StX.run_bnd lk hcd S hr e0 (G := fun xs H2 => ∃ p, H p = none ∧ xs = [.ref x, v2, v1, .ref p] ∧ H2 = upd H p (.tup [])) (fun A' Ex Q' hz => ?_) fun s2 H2 xs hx hr' => ?_
  · rw [hb (.ref x) u1 u2]
    refine wpAny_bind (wpAny_newTuple (wpAny_pure ?_) (Nat.zero_le _))
    have new : ObjOk P w (upd H s.heap.objs.size (.tup [])) (s.heap.push ({ cls := .type "tuple", data := .seq (([] : List Value)).toArray } : Obj)) s.heap.objs.size (.tup []) := ⟨Nat.zero_le _, [], .nil, ⟨_, Heap.get?_push_size _ rfl, rfl, _, rfl⟩⟩
    exact hz _ _ [.ref x, v2, v1, .ref s.heap.objs.size] [.ref x, u2, u1, .ref s.heap.objs.size] (StX.env0_laid e0 new) (StX.un_laid hn) rfl (fun _ _ z => z) (.cons rfl (.cons r2 (.cons r1 (.cons rfl .nil)))) rfl ⟨_, hn, rfl, rfl⟩
  · obtain ⟨p, hp, rfl, rfl⟩ := hx
    exact hbody A fr s2 _ _ Q E0 hr' (hq p hp)
end
section
variable {X : Cx} {k : Nat} {f C : Addr} {sp : Sp} {x n1 n2 : Str} {p pos : Pos} {kws : List Keyword} {tk : TA}
def tMakeK2 (C : Addr) (sp : Sp) (tk : TA) : TE := fun σ H Q => tk σ H fun zs H2 => ∃ v1 v2, zs = [v1, v2] ∧ ∀ x dx, H2 x = none → H2 dx = none → dx ≠ x →
  sp [.ref x, v1, v2] (upd (upd H2 dx (.own x)) x (.ins C dx [])) (fun v H3 => v = .non ∧ Q (.ref x) H3) E0
/-- C(a = .., b = ..) -/
theorem pe_makeK2 (M : Mk X.K C f) (F : FnK2 X.prog X.w X.K X.mg X.base k f n1 n2 sp) (hr : Room (k + 1) X.A) (hg : Gl X x) (hm : X.mg x = some (.ref C)) (hkw : PK X kws tk)
    (hall : (backToKw pos (keywordEach kws X.env)).all (·.1.isSome) = true := by rfl) (hks : (backToKw pos (keywordEach kws X.env)).filterMap (·.1) = [n1, n2] := by rfl) (hdb : (x == ("__debug__" : Str)) = false := by decide)
    (hpl : ((backTo pos (starEach [] X.env)).any (·.1) || (backToKw pos (keywordEach kws X.env)).any (·.1.isNone)) = false := by rfl) :
    PE X (.Call (.Name x p) [] kws pos) (tMakeK2 C sp tk) := by
  constructor
  intro pins s σ H Q I h
  refine wpAny_Call_Name_kw (ld_glob I hg hm (PySem.W.callWith_KW0 (h₀ := X.base) I.ok.mod.kin M.kp hall ?_ hpl) hdb)
  refine thn (hkw.run pos pins s σ H _ I h) ?_
  rintro ws s2 ⟨zs, H2, I2, rz, v1, v2, ez, q⟩
  subst ez
  refine ⟨I2.kIn, ?_⟩
  rw [hks]
  obtain ⟨u1, u2, rfl, r1, r2⟩ : ∃ u1 u2, ws = [u1, u2] ∧ RelV v1 u1 ∧ RelV v2 u2 := by
    cases rz with
    | cons a b =>
      cases b with
      | cons c d =>
        cases d
        exact ⟨_, _, rfl, a, c⟩
  have hq := q (s2.heap.objs.size + 1) s2.heap.objs.size (I2.hok.fresh (Nat.le_succ _)) (I2.hok.fresh (Nat.le_refl _)) (Nat.ne_of_lt (Nat.lt_succ_self _))
  have I3 := Inv.made (C := C) I2
  have run := F _ X.stack _ _ (s2.heap.objs.size + 1) u1 u2 v1 v2 _ (hr.make C [] [(n1, u1), (n2, u2)]) (I3.env0.make C [] [(n1, u1), (n2, u2)]) r1 r2 hq
  refine wpAny_call (make_map (f := f) I2.kIn M.makes M.init (beq_iff_eq.mp M.fn) (codeAny_mono run fun z s' hz => ?_))
  match z, hz with
  | .error _, hz => exact False.elim hz
  | .ok .next, hz => exact False.elim hz
  | .ok .brk, hz => exact False.elim hz
  | .ok .cont, hz => exact False.elim hz
  | .ok (.ret u), hz =>
    obtain ⟨v, H', I4, rv, ev, q3⟩ := I3.after hz
    subst ev
    exact ⟨rv, ⟨.ref (s2.heap.objs.size + 1), H', I4, rfl, q3⟩⟩
end
end Sq
namespace Sq
open PySem L2 TL
section
variable {P : Program} {w : World} {K : PySem.W.Frag} {mg : Str → Option Value} {base : Heap}
theorem ko_i : ¬ (("_inner" : Str) = "_outer") := by decide +kernel
/-- the attributes of a nest: its loops and deeds, and what was read in them -/
structure Rd3 where
  b : V
  o : V
  p : V
def nfl (o i : Str) (dp : Addr) (R : Rd3) : List (Str × V) := putF "plans" R.p (putF "orders" R.o (putF "bounds" R.b (putF "_deeds" (.ref dp) (putF "_inner" (.str i) (putF "_outer" (.str o) [])))))
theorem nfl_at (o i : Str) (dp : Addr) (R : Rd3) (m : Str) : (nfl o i dp R).lookup m = if m = "plans" then some R.p else if m = "orders" then some R.o else if m = "bounds" then some R.b else if m = "_deeds" then some (.ref dp) else if m = "_inner" then some (.str i) else if m = "_outer" then some (.str o) else none := by
  unfold nfl
  rw [lookup_putF, lookup_putF, lookup_putF, lookup_putF, lookup_putF, lookup_putF]
  all_goals rfl
theorem nfl_outer (o i : Str) (dp : Addr) (R : Rd3) : (nfl o i dp R).lookup ("_outer" : Str) = some (.str o) := by
  rw [nfl_at]
  rfl
theorem nfl_inner (o i : Str) (dp : Addr) (R : Rd3) : (nfl o i dp R).lookup ("_inner" : Str) = some (.str i) := by
  rw [nfl_at]
  rfl
theorem nfl_deeds (o i : Str) (dp : Addr) (R : Rd3) : (nfl o i dp R).lookup ("_deeds" : Str) = some (.ref dp) := by
  rw [nfl_at]
  rfl
theorem nfl_plans (o i : Str) (dp : Addr) (R : Rd3) : (nfl o i dp R).lookup ("plans" : Str) = some R.p := by
  rw [nfl_at]
  rfl
theorem nfl_orders (o i : Str) (dp : Addr) (R : Rd3) : (nfl o i dp R).lookup ("orders" : Str) = some R.o := by
  rw [nfl_at]
  rfl
theorem nfl_bounds (o i : Str) (dp : Addr) (R : Rd3) : (nfl o i dp R).lookup ("bounds" : Str) = some R.b := by
  rw [nfl_at]
  rfl
theorem nfl_no (o i : Str) (dp : Addr) (R : Rd3) {m : Str} (h1 : ¬ m = "_outer") (h2 : ¬ m = "_inner") (h3 : ¬ m = "_deeds") (h4 : ¬ m = "bounds") (h5 : ¬ m = "orders") (h6 : ¬ m = "plans") : (nfl o i dp R).lookup m = none := by
  rw [nfl_at, if_neg h6, if_neg h5, if_neg h4, if_neg h3, if_neg h2, if_neg h1]
/-- a nest stands at a -/
def NestAt (C : Addr) (H : Hp) (a : Addr) (o i : Str) (ds : List Str) : Prop := ∃ dx dp, (∃ R, H a = some (.ins C dx (nfl o i dp R))) ∧ H dp = some (.tup (ds.map V.str))
theorem NestAt.ext {C : Addr} {H H' : Hp} {a : Addr} {o i : Str} {ds : List Str} (e : Same H H') (h : NestAt C H a o i ds) : NestAt C H' a o i ds := by
  obtain ⟨dx, dp, ⟨R, h1⟩, h2⟩ := h
  exact ⟨dx, dp, ⟨R, e _ _ h1⟩, e _ _ h2⟩
/-- the class Nest as it stands in the text -/
structure Nc (K : PySem.W.Frag) (C : Addr) : Prop where
  cl : Cls K C
  nO : NoAttr K C "_outer"
  nI : NoAttr K C "_inner"
  nD : NoAttr K C "_deeds"
  nB : NoAttr K C "bounds"
  nR : NoAttr K C "orders"
  nP : NoAttr K C "plans"
theorem putF_len (f : Str) (v : V) : ∀ fs : List (Str × V), (putF f v fs).length ≤ fs.length + 1
  | [] => Nat.le_refl _
  | (g, x) :: r => by
    unfold putF
    split
    · exact Nat.le_succ _
    · exact Nat.succ_le_succ (putF_len f v r)
def deedsOk (ds : List Str) : Prop := (∀ d ∈ ds, d.length ≤ 2000) ∧ fw 0 6 (ds.map deedB) = none
theorem fw_le : ∀ (bs : List Bool) (i m : Nat), fw i m bs = none → i ≤ m → i + bs.length ≤ m
  | [], i, m, _, h => h
  | b :: r, i, m, e, h => by
    unfold fw at e
    split at e
    · cases e
    · rename_i hn
      have h1 : ¬ i = m := fun q => hn (.inl q)
      have := fw_le r (i + 1) m e (by omega)
      rw [List.length_cons]
      omega
theorem fw_all : ∀ (bs : List Bool) (i m : Nat), fw i m bs = none → ∀ b ∈ bs, b = true
  | [], _, _, _, b, h => by cases h
  | c :: r, i, m, e, b, h => by
    unfold fw at e
    split at e
    · cases e
    · rename_i hn
      have h1 : c = true := by
        cases c with
        | true => rfl
        | false => exact absurd (.inr rfl) hn
      rcases List.mem_cons.mp h with q | q
      · rw [q, h1]
      · exact fw_all r (i + 1) m e b q
theorem fw_none : ∀ (bs : List Bool) (i m : Nat), (∀ b ∈ bs, b = true) → i + bs.length ≤ m → fw i m bs = none
  | [], _, _, _, _ => rfl
  | c :: r, i, m, h, hl => by
    rw [List.length_cons] at hl
    unfold fw
    rw [if_neg (fun q => q.elim (fun e => by omega) fun e => by have := h c List.mem_cons_self; rw [e] at this; cases this)]
    exact fw_none r (i + 1) m (fun b hb => h b (List.mem_cons_of_mem _ hb)) (by omega)
theorem deeds_len {ds : List Str} (h : deedsOk ds) : ds.length ≤ 6 := by
  have z := fw_le _ _ _ h.2 (Nat.zero_le _)
  rw [List.length_map] at z
  omega
theorem deeds_ok {ds : List Str} (h : deedsOk ds) : ∀ d ∈ ds, deedB d = true := fun d hd => fw_all _ _ _ h.2 _ (List.mem_map_of_mem hd)
/-- the plans of deeds, one behind the other -/
inductive Plans (H : Hp) : List V → List Str → Prop
  | nil : Plans H [] []
  | cons {p : Addr} {z : Str} {qs : List V} {ds : List Str} : PlanAt H p z → Plans H qs ds → Plans H (.ref p :: qs) (z :: ds)
theorem Plans.same {H H' : Hp} (s : Same H H') : ∀ {qs : List V} {ds : List Str}, Plans H qs ds → Plans H' qs ds
  | _, _, .nil => .nil
  | _, _, .cons h r => .cons (h.same s) (r.same s)
theorem Plans.snoc {H : Hp} {p : Addr} {z : Str} (h : PlanAt H p z) : ∀ {qs : List V} {ds : List Str}, Plans H qs ds → Plans H (qs ++ [.ref p]) (ds ++ [z])
  | _, _, .nil => .cons h .nil
  | _, _, .cons h1 r => .cons h1 (r.snoc h)
theorem Plans.refs {H : Hp} : ∀ {qs : List V} {ds : List Str}, Plans H qs ds → ∀ x ∈ qs, ∃ p, x = .ref p
  | _, _, .nil, x, hx => by cases hx
  | _, _, .cons h r, x, hx => by
    rcases List.mem_cons.mp hx with rfl | hx
    · exact ⟨_, rfl⟩
    · exact r.refs x hx
theorem Plans.len {H : Hp} : ∀ {qs : List V} {ds : List Str}, Plans H qs ds → qs.length = ds.length
  | _, _, .nil => rfl
  | _, _, .cons h r => by rw [List.length_cons, List.length_cons, r.len]
theorem st_same {t : TS} {D : Ends} {σ : L2.St} {H : Hp} (J : Hp → Prop) (h : ∀ D' : Ends, (∀ H', J H' → D'.nx σ H') → t D' σ H) (k : ∀ H', J H' → D.nx σ H') : t D σ H := h D k
theorem ne_ins {H : Hp} {x a C dx : Addr} {fs : List (Str × V)} {ys : List V} (hx : H x = some (.ins C dx fs)) (ha : H a = some (.tup ys)) : a ≠ x := fun e => by
  rw [e, hx] at ha
  cases ha
theorem PlanAt.off {H H' : Hp} {x C dx : Addr} {fs : List (Str × V)} (hx : H x = some (.ins C dx fs)) (s : Off x H H') {p : Addr} {z : Str} (h : PlanAt H p z) : PlanAt H' p z := by
  obtain ⟨ts, te, c, h1, h2, h3, h4⟩ := h
  refine ⟨ts, te, c, s _ _ (ne_ins hx h1) h1, s _ _ (ne_ins hx h2) h2, s _ _ (ne_ins hx h3) h3, ?_⟩
  rcases h4 with h4 | ⟨a4, l4, s4, r4, e1, e2, e3⟩
  · exact .inl h4
  · exact .inr ⟨a4, l4, s4, r4, e1, e2, s _ _ (ne_ins hx e3) e3⟩
theorem Plans.off {H H' : Hp} {x C dx : Addr} {fs : List (Str × V)} (hx : H x = some (.ins C dx fs)) (s : Off x H H') : ∀ {qs : List V} {ds : List Str}, Plans H qs ds → Plans H' qs ds
  | _, _, .nil => .nil
  | _, _, .cons h r => .cons (h.off hx s) (r.off hx s)
/-- what was read in a nest's loops and deeds -/
def ReadAt (K : PySem.W.Frag) (H : Hp) (R : Rd3) (o i : Str) (ds : List Str) : Prop := ∃ (bp op pp a1 a2 b1 b2 : Addr) (t1 t2 u1 u2 : Int × Int × Int) (d e : Bool) (qs : List V), R = ⟨.ref bp, .ref op, .ref pp⟩ ∧
  H bp = some (.tup [.ref a1, .ref a2, .ref b1, .ref b2]) ∧ Bd K a1 t1 ∧ Bd K a2 t2 ∧ Bd K b1 u1 ∧ Bd K b2 u2 ∧ LoopR o t1 t2 d ∧ LoopR i u1 u2 e ∧ H pp = some (.tup qs) ∧ Plans H qs ds
def spInit (K : PySem.W.Frag) (C : Addr) : Sp := fun vs H Q _ => ∃ (x dx dp : Addr) (o i : Str) (ds : List Str), vs = [.ref x, .str o, .str i, .ref dp] ∧ H x = some (.ins C dx []) ∧ H dp = some (.tup (ds.map V.str)) ∧ o.length + 2 ≤ sizeLine ∧ i.length + 2 ≤ sizeLine ∧
  loopB obs o = true ∧ loopB (obs ++ ibs) i = true ∧ deedsOk ds ∧ ∀ (R : Rd3) (H' : Hp), ReadAt K H' R o i ds → H' x = some (.ins C dx (nfl o i dp R)) → Off x H H' → Q .non H'
def spFirstN (K : PySem.W.Frag) : Sp := spFirst K
abbrev s_NInit : Stmt := inClass (top 49) 0
theorem sc_NInit : FnScope ["self", "outer", "inner", "deeds", "outer_loop", "inner_loop", "plans", "deed", "index", "plan", "start", "stop", "outer_descends", "low", "high", "inner_descends"] ["self", "outer", "inner", "deeds"] (defScope s_NInit) := ⟨rfl, rfl, rfl, by decide +kernel, rfl, by decide +kernel, by decide +kernel⟩
theorem init_body {C : Addr} (N : Nc K C) (T : Bt mg) (G_read_outer_loop : FB P w K mg base "read_outer_loop" 2 ["value"] (spReadL K obs))(G_read_loop : FB P w K mg base "read_loop" 1 ["value"] (spReadL K (obs ++ ibs)))(G_read_deed : FB P w K mg base "read_deed" 2 ["value"] (spReadD K))(G_first_wrong : FB P w K mg base "first_wrong" 1 ["rights", "most"] (spFirst K)) {u : Tok} (mM : mg "MOST_DEEDS" = some (.int 6 u)) {aR : Addr} (mR : mg "ORDERS" = some (.ref aR)) (DO : OrdD P w K aR) {f : Addr} {cdv : Value} {A : Around} {outer : List Env} {s : Shared} {H : Hp} {vs : List V} {Q : VK} {E : XK} (hr : Room 3 (A.deeper (PyProof.Rows.envOfC "Nest.__init__" (defScope s_NInit) s.heap.objs.size f cdv))) (h : spInit K C vs H Q E) :
    ∃ t, PSs (cxOf CX0 P w K mg base ["self", "outer", "inner", "deeds", "outer_loop", "inner_loop", "plans", "deed", "index", "plan", "start", "stop", "outer_descends", "low", "high", "inner_descends"] "Nest.__init__" (defScope s_NInit) f cdv A outer s H E) (defBody s_NInit) t ∧
      t { nx := fun _ H' => Q .non H', rt := Q } (L2.start ["self", "outer", "inner", "deeds", "outer_loop", "inner_loop", "plans", "deed", "index", "plan", "start", "stop", "outer_descends", "low", "high", "inner_descends"] vs) H := by
  obtain ⟨x, dx, dp, o, i, ds, rfl, hx, hd, ho, hi, lo, li, hds, q⟩ := h
  obtain ⟨xs, DR, hR⟩ := DO.ex
  have hl6 := deeds_len hds
  have bigL : 3000 ≤ sizeLine := by decide
  refine ⟨_, (pss_cons (ps_par (i := 4) (j := 5) (by rfl) sc_NInit.nd rfl rfl (by decide) rfl rfl (pa_cons (pe_fb G_read_outer_loop hr (by decide) (by rfl) (pa_cons (pv 1) pa_nil)) (pa_cons (pe_fb G_read_loop hr (by decide) (by rfl) (pa_cons (pv 2) pa_nil)) pa_nil)) (by rfl))
          (pss_cons (ps_if (pt_cmpR op_isN (pv 4) pe_non (nomark _))
          (pss_one ps_never)
          pss_nil)
          (pss_cons (ps_if (pt_cmpR op_isN (pv 5) pe_non (nomark _))
          (pss_one ps_never)
          pss_nil)
          (pss_cons (ps_setLc (i := 6) (own := [("deed", 7)]) (g := gName 7) (by rfl) sc_NInit.nd rfl rfl (by rfl) (pi_tup (pv 3)) (blkOk_by (own := [("deed", 7)]) (N := ["self", "outer", "inner", "deeds", "outer_loop", "inner_loop", "plans", "deed", "index", "plan", "start", "stop", "outer_descends", "low", "high", "inner_descends"]) (sc := defScope s_NInit) (by decide +kernel))
              (fun _ _ _ _ _ => (pg_name (i := 7) sc_NInit.nd rfl (by first | exact .inl rfl | exact .inr rfl))) (fun _ _ _ _ _ => pts_nil) (fun _ _ _ _ _ => (pe_fb G_read_deed hr (by decide) (by rfl) (pa_cons (pv 7) pa_nil))))
          (pss_cons (ps_set (i := 8) sc_NInit.nd rfl (by first | exact .inl rfl | exact .inr rfl) (pe_fb G_first_wrong hr (by decide) (by rfl) (pa_cons (pe_lc (own := [("plan", 9)]) (g := gName 9) (by rfl) sc_NInit.nd (pi_list (pv 6)) (blkOk_by (own := [("plan", 9)]) (N := ["self", "outer", "inner", "deeds", "outer_loop", "inner_loop", "plans", "deed", "index", "plan", "start", "stop", "outer_descends", "low", "high", "inner_descends"]) (sc := defScope s_NInit) (by decide +kernel))
              (fun _ _ _ _ _ => (pg_name (i := 9) sc_NInit.nd rfl (by first | exact .inl rfl | exact .inr rfl))) (fun _ _ _ _ _ => pts_nil) (fun _ _ _ _ _ => (pe_cmpR op_notN (pv 9) pe_non (nomark _)))) (pa_cons (pe_glob (v := .int 6) (by rfl) mM ⟨_, rfl⟩) pa_nil))))
          (pss_cons (ps_if (pt_cmpR op_notN (pv 8) pe_non (nomark _))
          (pss_one ps_never)
          pss_nil)
          (pss_cons (ps_fld (pv 0) (pv 1) rfl)
          (pss_cons (ps_fld (pv 0) (pv 2) rfl)
          (pss_cons (ps_fld (pv 0) (pv 3) rfl)
          (pss_cons (ps_asg (pv 4) (pg_tup (by rfl) (pgs_cons (pg_name (i := 10) sc_NInit.nd rfl (by first | exact .inl rfl | exact .inr rfl)) (pgs_cons (pg_name (i := 11) sc_NInit.nd rfl (by first | exact .inl rfl | exact .inr rfl)) (pgs_cons (pg_name (i := 12) sc_NInit.nd rfl (by first | exact .inl rfl | exact .inr rfl)) pgs_nil)))))
          (pss_cons (ps_asg (pv 5) (pg_tup (by rfl) (pgs_cons (pg_name (i := 13) sc_NInit.nd rfl (by first | exact .inl rfl | exact .inr rfl)) (pgs_cons (pg_name (i := 14) sc_NInit.nd rfl (by first | exact .inl rfl | exact .inr rfl)) (pgs_cons (pg_name (i := 15) sc_NInit.nd rfl (by first | exact .inl rfl | exact .inr rfl)) pgs_nil)))))
          (pss_cons (ps_fld (pv 0) (pe_tup (pa_cons (pv 10) (pa_cons (pv 11) (pa_cons (pv 13) (pa_cons (pv 14) pa_nil))))) rfl)
          (pss_cons (ps_fld (pv 0) (pe_ix (ix_O DR (un1 hr)) (pe_glob (v := .ref aR) (by rfl) mR rfl) (pe_tup (pa_cons (pv 12) (pa_cons (pv 15) pa_nil))) (fun _ _ => rfl)) rfl)
          (pss_one (ps_fld (pv 0) (pe_tupleOf (by rfl) T.tuple (pv 6)) rfl))))))))))))))), ?_⟩
  refine sq_ ?_
  refine ⟨_, rfl, .str o, rfl, .inl ⟨o, rfl, ho⟩, (fun e => by rw [show okLoop obs (.str o) = true from lo] at e; cases e), fun _ z p1 H1 ez np1 s1 hp1 => ?_⟩
  cases ez
  refine ⟨_, rfl, .str i, rfl, .inl ⟨i, rfl, hi⟩, (fun e => by rw [show okLoop (obs ++ ibs) (.str i) = true from li] at e; cases e), fun _ z p2 H2 ez np2 s2 hp2 => ?_⟩
  cases ez
  refine ⟨_, _, rfl, ?_⟩
  refine pr_seq (if_ ?_)
  refine ⟨_, rfl, rfl, _, rfl, ?_⟩
  refine iteF ?_
  refine pr_seq (if_ ?_)
  refine ⟨_, rfl, rfl, _, rfl, ?_⟩
  refine iteF ?_
  have hp1' := hp1.same s2
  have s12 := s1.trans s2
  refine pr_seq (set_ (gen_of (fun y H' => ∃ (Dq : Addr) (qs : List V), y = .ref Dq ∧ Same H2 H' ∧ H' Dq = some (.lst qs) ∧ Plans H' qs ds) (fun Q' k => ?_) ?_))
  · refine ⟨_, rfl, dp, rfl, ⟨_, SqT.of (s12 _ _ hd)⟩, fun Dq nDq => ?_⟩
    refine lc_tup (K := K) (a := dp) (xs := ds.map V.str) (fun j H' => Same H2 H' ∧ ∃ qs, H' Dq = some (.lst qs) ∧ Plans H' qs (ds.take j)) ⟨same_new nDq, [], upd_same, .nil⟩ (fun j H' _ h => (SqT.of (s12 _ _ hd)).ext h.1) (fun j y H' hy h => ?_) (fun H' h => ?_)
    · obtain ⟨sm, qs, hD, hq⟩ := h
      rw [List.getElem?_map] at hy
      cases hj : ds[j]? with
      | none =>
        rw [hj] at hy
        cases hy
      | some z =>
        rw [hj] at hy
        cases hy
        have hz := List.mem_of_getElem? hj
        refine ⟨rfl, ?_⟩
        have okz : okDeed (.str z) = true := deeds_ok hds z hz
        refine ⟨_, rfl, .str z, rfl, .inl ⟨z, rfl, hds.1 z hz⟩, (fun e => by rw [okz] at e; cases e), fun _ z' p H3 ez np s3 hp => ⟨qs, s3 _ _ hD, ?_, ?_, qs ++ [.ref p], ?_, ?_⟩⟩
        · rw [hq.len, List.length_take]
          omega
        · intro c o' hc
          rw [upd_ne (fun e => by rw [e, nDq] at hc; cases hc)]
          exact s3 c o' (sm c o' hc)
        · exact upd_same
        · cases ez
          rw [List.take_add_one, hj]
          have hD3 := s3 _ _ hD
          have up : ∀ a oo, a ≠ Dq → H3 a = some oo → upd H3 Dq (.lst (qs ++ [.ref p])) a = some oo := fun a oo na e => by
            rw [upd_ne na]
            exact e
          have tupNe : ∀ a ys, H3 a = some (HO.tup ys) → a ≠ Dq := fun a ys e e2 => by
            rw [e2, hD3] at e
            cases e
          have one : ∀ {a : Addr} {zz : Str}, PlanAt H3 a zz → PlanAt (upd H3 Dq (.lst (qs ++ [.ref p]))) a zz := fun {a zz} h => by
            obtain ⟨ts, te, c, h1, h2, h3, h4⟩ := h
            refine ⟨ts, te, c, up _ _ (tupNe _ _ h1) h1, up _ _ (tupNe _ _ h2) h2, up _ _ (tupNe _ _ h3) h3, ?_⟩
            rcases h4 with h4 | ⟨a4, l4, s4, r4, e1, e2, e3⟩
            · exact .inl h4
            · exact .inr ⟨a4, l4, s4, r4, e1, e2, up _ _ (tupNe _ _ e3) e3⟩
          have all : ∀ {ps : List V} {zs : List Str}, Plans H3 ps zs → Plans (upd H3 Dq (.lst (qs ++ [.ref p]))) ps zs := fun h => by
            induction h with
            | nil => exact .nil
            | cons h r ih => exact .cons (one h) ih
          exact (all (hq.same s3)).snoc (one hp)
    · obtain ⟨sm, qs, hD, hq⟩ := h
      rw [List.length_map, List.take_length] at hq
      exact k _ _ ⟨Dq, qs, rfl, sm, hD, hq⟩
  rintro _ H3 ⟨Dq, qs, rfl, s3, hDq, hqs⟩
  refine pr_seq (set_ (gen_of (fun y H' => y = .non ∧ Same H3 H') (fun Q' k => ?_) ?_))
  · refine ⟨_, rfl, Dq, rfl, ⟨_, SqL.of hDq⟩, fun Df nDf => ?_⟩
    refine lc_list (K := K) (a := Dq) (xs := qs) (fun j H' => Same H3 H' ∧ H' Df = some (.lst ((List.replicate j true).map V.bl))) ⟨same_new nDf, upd_same⟩ (fun j H' _ h => (SqL.of hDq).ext h.1) (fun j y H' hy h => ?_) (fun H' h => ?_)
    · obtain ⟨sm, hD⟩ := h
      obtain ⟨p, rfl⟩ := hqs.refs y (List.mem_of_getElem? hy)
      have hj : j < qs.length := by
        obtain ⟨h1, _⟩ := List.getElem?_eq_some_iff.mp hy
        exact h1
      refine ⟨rfl, ?_⟩
      refine ⟨_, rfl, rfl, _, hD, ?_, ?_, ?_⟩
      · rw [List.length_map, List.length_replicate]
        have := hqs.len
        omega
      · intro c o' hc
        rw [upd_ne (fun e => by rw [e, nDf] at hc; cases hc)]
        exact sm c o' hc
      · rw [upd_same, List.replicate_succ', List.map_append]
        rfl
    · obtain ⟨sm, hD⟩ := h
      refine ⟨Df, 6, _, rfl, SqL.of hD, fun H' s' => ?_⟩
      rw [fw_none (List.replicate qs.length true) 0 6 (fun b hb => List.eq_of_mem_replicate hb) (by rw [List.length_replicate, hqs.len]; omega)]
      exact k _ _ ⟨rfl, sm.trans s'⟩
  rintro _ H4 ⟨rfl, s4⟩
  refine pr_seq (if_ ?_)
  refine ⟨_, rfl, rfl, _, rfl, ?_⟩
  refine iteF ?_
  have sm4 : Same H H4 := (s12.trans s3).trans s4
  have hx4 := sm4 _ _ hx
  obtain ⟨a1, a2, t1, t2, d, g1, gb1, gb2, gl⟩ := hp1'
  obtain ⟨b1, b2, u1, u2, e, k1, kb1, kb2, kl⟩ := hp2
  have g1 := s4 _ _ (s3 _ _ g1)
  have k1 := s4 _ _ (s3 _ _ k1)
  have hDq4 := s4 _ _ hDq
  replace hqs := hqs.same s4
  obtain ⟨kp, op, hkey⟩ := hR d e
  have len1 : ∀ (m : Str) (v : V) (fs : List (Str × V)) (n : Nat), fs.length ≤ n → (putF m v fs).length ≤ n + 1 := fun m v fs n h => Nat.le_trans (putF_len m v fs) (Nat.succ_le_succ h)
  refine pr_seq (st_same (fun H' => H' x = some (.ins C dx (putF "_outer" (.str o) [])) ∧ Off x H4 H') (fun D' k => ?_) ?_)
  · exact ⟨_, rfl, _, rfl, x, C, dx, _, rfl, hx4, N.cl, N.nO, (by show 0 < 1000; decide), k _ ⟨upd_same, fun b u hb e => by rw [upd_ne hb]; exact e⟩⟩
  rintro H5 ⟨hx5, o5⟩
  refine pr_seq (st_same (fun H' => H' x = some (.ins C dx (putF "_inner" (.str i) (putF "_outer" (.str o) []))) ∧ Off x H4 H') (fun D' k => ?_) ?_)
  · refine ⟨_, rfl, _, rfl, x, C, dx, _, rfl, hx5, N.cl, N.nI, ?_, k _ ⟨upd_same, fun b u hb e => by rw [upd_ne hb]; exact o5 _ _ hb e⟩⟩
    have := len1 "_outer" (.str o) [] 0 (Nat.le_refl _)
    omega
  rintro H6 ⟨hx6, o6⟩
  refine pr_seq (st_same (fun H' => H' x = some (.ins C dx (putF "_deeds" (.ref dp) (putF "_inner" (.str i) (putF "_outer" (.str o) [])))) ∧ Off x H4 H') (fun D' k => ?_) ?_)
  · refine ⟨_, rfl, _, rfl, x, C, dx, _, rfl, hx6, N.cl, N.nD, ?_, k _ ⟨upd_same, fun b u hb e => by rw [upd_ne hb]; exact o6 _ _ hb e⟩⟩
    have := len1 "_inner" (.str i) _ _ (len1 "_outer" (.str o) [] 0 (Nat.le_refl _))
    omega
  rintro H7 ⟨hx7, o7⟩
  refine pr_seq (asg_ ?_)
  refine ⟨_, rfl, p1, _, rfl, SqT.of (o7 _ _ (ne_ins hx4 g1) g1), rfl, _, _, rfl, _, _, rfl, _, _, rfl, rfl, ?_⟩
  refine pr_seq (asg_ ?_)
  refine ⟨_, rfl, p2, _, rfl, SqT.of (o7 _ _ (ne_ins hx4 k1) k1), rfl, _, _, rfl, _, _, rfl, _, _, rfl, rfl, ?_⟩
  refine pr_seq (st_same (fun H' => ∃ bp : Addr, H' bp = some (.tup [.ref a1, .ref a2, .ref b1, .ref b2]) ∧ H' x = some (.ins C dx (putF "bounds" (.ref bp) (putF "_deeds" (.ref dp) (putF "_inner" (.str i) (putF "_outer" (.str o) []))))) ∧ Off x H4 H') (fun D' k => ?_) ?_)
  · refine ⟨_, rfl, _, rfl, _, rfl, _, rfl, (by show 4 ≤ sizeLine; decide), fun bp nbp => ?_⟩
    have sb := same_new (o := .tup [.ref a1, .ref a2, .ref b1, .ref b2]) nbp
    have nx : bp ≠ x := fun e => by rw [e, hx7] at nbp; cases nbp
    refine ⟨_, rfl, x, C, dx, _, rfl, sb _ _ hx7, N.cl, N.nB, ?_, k _ ⟨bp, ?_, upd_same, fun b u hb e => by rw [upd_ne hb]; exact sb _ _ (o7 _ _ hb e)⟩⟩
    · have := len1 "_deeds" (.ref dp) _ _ (len1 "_inner" (.str i) _ _ (len1 "_outer" (.str o) [] 0 (Nat.le_refl _)))
      omega
    · rw [upd_ne nx]
      exact upd_same
  rintro H8 ⟨bp, hbp, hx8, o8⟩
  refine pr_seq (st_same (fun H' => H' x = some (.ins C dx (putF "orders" (.ref op) (putF "bounds" (.ref bp) (putF "_deeds" (.ref dp) (putF "_inner" (.str i) (putF "_outer" (.str o) [])))))) ∧ Off x H8 H') (fun D' k => ?_) ?_)
  · refine ⟨_, rfl, _, rfl, (by show 2 ≤ sizeLine; decide), fun tp ntp => ?_⟩
    have st := same_new (o := .tup [.int (if d = true then 1 else 0), .int (if e = true then 1 else 0)]) ntp
    refine ⟨tp, [if d = true then 1 else 0, if e = true then 1 else 0], (kp, .ref op), .ref op, rfl, rfl, SqT.of upd_same, hkey, rfl, ?_⟩
    refine ⟨_, rfl, x, C, dx, _, rfl, st _ _ hx8, N.cl, N.nR, ?_, k _ ⟨upd_same, fun b u hb e => by rw [upd_ne hb]; exact st _ _ e⟩⟩
    have := len1 "bounds" (.ref bp) _ _ (len1 "_deeds" (.ref dp) _ _ (len1 "_inner" (.str i) _ _ (len1 "_outer" (.str o) [] 0 (Nat.le_refl _))))
    omega
  rintro H9 ⟨hx9, o9⟩
  have o49 : Off x H4 H9 := fun b u hb e => o9 _ _ hb (o8 _ _ hb e)
  have nDq : Dq ≠ x := fun e => by rw [e, hx4] at hDq4; cases hDq4
  refine pr_one ?_
  refine ⟨_, rfl, .inl ⟨Dq, qs, rfl, SqL.of (o49 _ _ nDq hDq4), fun pp npp => ?_⟩⟩
  have sp := same_new (o := .tup qs) npp
  have npx : pp ≠ x := fun e => by rw [e, hx9] at npp; cases npp
  refine ⟨_, rfl, x, C, dx, _, rfl, sp _ _ hx9, N.cl, N.nP, ?_, ?_⟩
  · have := len1 "orders" (.ref op) _ _ (len1 "bounds" (.ref bp) _ _ (len1 "_deeds" (.ref dp) _ _ (len1 "_inner" (.str i) _ _ (len1 "_outer" (.str o) [] 0 (Nat.le_refl _)))))
    omega
  have fin : ∀ b u, b ≠ x → H9 b = some u → upd (upd H9 pp (.tup qs)) x (.ins C dx (putF "plans" (.ref pp) (putF "orders" (.ref op) (putF "bounds" (.ref bp) (putF "_deeds" (.ref dp) (putF "_inner" (.str i) (putF "_outer" (.str o) []))))))) b = some u := fun b u hb e => by
    rw [upd_ne hb]
    exact sp _ _ e
  refine q ⟨.ref bp, .ref op, .ref pp⟩ _ ⟨bp, op, pp, a1, a2, b1, b2, t1, t2, u1, u2, d, e, qs, rfl, fin _ _ (ne_ins hx8 hbp) (o9 _ _ (ne_ins hx8 hbp) hbp), gb1, gb2, kb1, kb2, gl, kl, ?_, ?_⟩ upd_same fun b u hb e => fin _ _ hb (o49 _ _ hb (sm4 _ _ e))
  · rw [upd_ne npx]
    exact upd_same
  · exact hqs.off hx4 fun b u hb e => fin _ _ hb (o49 _ _ hb e)
end
end Sq
namespace Sq
open PySem L2 TL
section
variable {X : Cx} {k : Nat} {f C : Addr} {sp : Sp}
/-- len(o), o an instance of a class of the text with a __len__ -/
theorem call_lenO (hs : PySem.W.findIn X.K (.ref C) "__len__" = some (some (.ref f))) (hf : PySem.W.isFn X.K (.ref f) = true) (F : FnR X.prog X.w X.K X.mg X.base CX0 k f sp) (hr : Room (k + 1) X.A) :
    CallR X (.builtin "len") (fun xs H Q => ∃ a dx fs, xs = [.ref a] ∧ H a = some (.ins C dx fs) ∧ sp [.ref a] H (fun v H' => ∃ n : Int, v = .int n ∧ 0 ≤ n ∧ n < 2 ^ 63 ∧ Q (.int n) H') E0) := by
  intro pins s σ H xs us Q I r h
  obtain ⟨a, dx, fs, rfl, ha, q⟩ := h
  obtain ⟨u, rfl, r1⟩ := vals1 r
  cases r1
  obtain ⟨mA, J, _⟩ := ins_get I.hok ha
  obtain ⟨od, J, _⟩ := J.look
  obtain ⟨m, hF⟩ := I.fr
  refine PySem.W.len_K hF I.ok.mod.kin J hs hf ?_
  refine wpAny_mono (run_below F hr.in1 rfl I (rel1 a) q) (fun v s' hv => ?_) fun _ _ z => z
  obtain ⟨y, H', I', ry, n, ey, h0, h1, q'⟩ := hv
  subst ey
  obtain ⟨t, rfl⟩ := ry
  exact ⟨⟨h0, h1⟩, .int n, H', I'.tok _, ⟨_, rfl⟩, q'⟩
end
theorem eqv_strs : ∀ ds es : List Str, PyData.eqvAll (ds.map .str) (es.map .str) = decide (ds = es)
  | [], [] => rfl
  | d :: ds, e :: es => by
    have ih := eqv_strs ds es
    show (PyData.eqv (.str d) (.str e) && PyData.eqvAll (ds.map .str) (es.map .str)) = _
    rw [ih]
    show ((d == e) && decide (ds = es)) = decide (d :: ds = e :: es)
    by_cases h1 : d = e
    · by_cases h2 : ds = es
      · simp [h1, h2]
      · simp [h1, h2]
    · simp [h1]
  | [], e :: es => by
    show false = decide (([] : List Str) = e :: es)
    simp
  | d :: ds, [] => by
    show false = decide (d :: ds = ([] : List Str))
    simp
theorem dp_strs {K : PySem.W.Frag} {H : Hp} : ∀ ds : List Str, DpAll K H (ds.map V.str) (ds.map PyData.str)
  | [] => .nil
  | d :: ds => .cons (.str d) (dp_strs ds)
section
variable {P : Program} {w : World} {K : PySem.W.Frag} {mg : Str → Option Value} {base : Heap}
variable {C : Addr}
abbrev sNOuter : Stmt := inClass (top 49) 1
abbrev sNInner : Stmt := inClass (top 49) 2
abbrev sNDeeds : Stmt := inClass (top 49) 3
abbrev sNLen : Stmt := inClass (top 49) 4
abbrev sNBool : Stmt := inClass (top 49) 5
abbrev sNEq : Stmt := inClass (top 49) 6
def spMade (K : PySem.W.Frag) (C : Addr) : Sp := fun vs H Q E => ∃ ws rest, vs = ws ++ rest ∧ ws.length = (["self", "outer", "inner"] : List Str).length ∧ rest.length ≤ sizeLine ∧ ∀ p, H p = none → spInit K C (ws ++ [V.ref p]) (upd H p (.tup rest)) Q E
def spKw (K : PySem.W.Frag) (C : Addr) : Sp := fun vs H Q E => ∃ x v1 v2, vs = [x, v1, v2] ∧ ∀ p, H p = none → spInit K C [x, v2, v1, .ref p] (upd H p (.tup [])) Q E
theorem ok_initR {C : Addr} {f : Addr} {fd : FuncData} (F : Fun K "__init__" "Nest.__init__" s_NInit f fd) (N : Nc K C) (T : Bt mg) (G_read_outer_loop : FB P w K mg base "read_outer_loop" 2 ["value"] (spReadL K obs))(G_read_loop : FB P w K mg base "read_loop" 1 ["value"] (spReadL K (obs ++ ibs)))(G_read_deed : FB P w K mg base "read_deed" 2 ["value"] (spReadD K))(G_first_wrong : FB P w K mg base "first_wrong" 1 ["rights", "most"] (spFirst K)) {u : Tok} (mM : mg "MOST_DEEDS" = some (.int 6 u)) {aR : Addr} (mR : mg "ORDERS" = some (.ref aR)) (DO : OrdD P w K aR) :
    FnR P w K mg base CX0 4 f (spMade K C) := by
  obtain ⟨oc, od, kV, doc, pm, an, cdv, ct, osl, rfl, lk, hcd⟩ := F.ex
  refine StX.fn_star (ps := ["self", "outer", "inner"]) (pv := "deeds") (sp := spInit K C) lk hcd sc_NInit StX.cxUp_none (fun us rest hl => ?_) fun A outer s H vs Q E hr h => init_body N T G_read_outer_loop G_read_loop G_read_deed G_first_wrong mM mR DO hr h
  match us, rest, hl with
  | [a, b, c], [], _ => rfl
  | [a, b, c], r :: rs, _ => rfl
theorem ok_initK {C : Addr} {f : Addr} {fd : FuncData} (F : Fun K "__init__" "Nest.__init__" s_NInit f fd) (N : Nc K C) (T : Bt mg) (G_read_outer_loop : FB P w K mg base "read_outer_loop" 2 ["value"] (spReadL K obs))(G_read_loop : FB P w K mg base "read_loop" 1 ["value"] (spReadL K (obs ++ ibs)))(G_read_deed : FB P w K mg base "read_deed" 2 ["value"] (spReadD K))(G_first_wrong : FB P w K mg base "first_wrong" 1 ["rights", "most"] (spFirst K)) {u : Tok} (mM : mg "MOST_DEEDS" = some (.int 6 u)) {aR : Addr} (mR : mg "ORDERS" = some (.ref aR)) (DO : OrdD P w K aR) :
    FnK2 P w K mg base 4 f "inner" "outer" (spKw K C) := by
  obtain ⟨oc, od, kV, doc, pm, an, cdv, ct, osl, rfl, lk, hcd⟩ := F.ex
  exact fn_starK2 (n0 := "self") (nv := "deeds") lk hcd sc_NInit (fun x u1 u2 => rfl) fun A outer s H vs Q E hr h => init_body N T G_read_outer_loop G_read_loop G_read_deed G_first_wrong mM mR DO hr h
theorem scGet1 : FnScope ["self"] ["self"] (defScope sNOuter) := ⟨rfl, rfl, rfl, by decide +kernel, rfl, by decide +kernel, by decide +kernel⟩
theorem ok_get1 {f : Addr} {fd : FuncData} (F : Fun K "outer" "Nest.outer" sNOuter f fd) (N : Nc K C) : FnOk P w K mg base CX0 1 f fd ["self"] (getSp C "_outer") := by
  obtain ⟨oc, od, kV, doc, pm, an, cdv, ct, osl, rfl, lk, hcd⟩ := F.ex
  exact fn_getter lk hcd scGet1 rfl rfl N.cl N.nO
theorem scGet2 : FnScope ["self"] ["self"] (defScope sNInner) := ⟨rfl, rfl, rfl, by decide +kernel, rfl, by decide +kernel, by decide +kernel⟩
theorem ok_get2 {f : Addr} {fd : FuncData} (F : Fun K "inner" "Nest.inner" sNInner f fd) (N : Nc K C) : FnOk P w K mg base CX0 1 f fd ["self"] (getSp C "_inner") := by
  obtain ⟨oc, od, kV, doc, pm, an, cdv, ct, osl, rfl, lk, hcd⟩ := F.ex
  exact fn_getter lk hcd scGet2 rfl rfl N.cl N.nI
theorem scGet3 : FnScope ["self"] ["self"] (defScope sNDeeds) := ⟨rfl, rfl, rfl, by decide +kernel, rfl, by decide +kernel, by decide +kernel⟩
theorem ok_get3 {f : Addr} {fd : FuncData} (F : Fun K "deeds" "Nest.deeds" sNDeeds f fd) (N : Nc K C) : FnOk P w K mg base CX0 1 f fd ["self"] (getSp C "_deeds") := by
  obtain ⟨oc, od, kV, doc, pm, an, cdv, ct, osl, rfl, lk, hcd⟩ := F.ex
  exact fn_getter lk hcd scGet3 rfl rfl N.cl N.nD
/-- __len__, __bool__, __eq__ of nests -/
def spNLen (C : Addr) : Sp := fun vs H Q _ => ∃ (a : Addr) (o i : Str) (ds : List Str), vs = [.ref a] ∧ NestAt C H a o i ds ∧ Q (.int (ds.length : Int)) H
theorem scNLen : FnScope ["self"] ["self"] (defScope sNLen) := ⟨rfl, rfl, rfl, by decide +kernel, rfl, by decide +kernel, by decide +kernel⟩
theorem ok_nlen {f : Addr} {fd : FuncData} (F : Fun K "__len__" "Nest.__len__" sNLen f fd) (N : Nc K C) (T : Bt mg) : FnOk P w K mg base CX0 1 f fd ["self"] (spNLen C) := by
  refine F.ok scNLen (fun vs H Q E h => ?_) (fun cdv A outer s H vs Q E hr h => ?_)
  · obtain ⟨a, o, i, ds, rfl, _⟩ := h
    rfl
  · obtain ⟨a, o, i, ds, rfl, ⟨dx, dp, ⟨R, h1⟩, h2⟩, q⟩ := h
    refine ⟨_, pss_one (ps_ret (pe_callB call_len_seq (by rfl) T.len PySem.boot_len (pa_cons (pe_fld (pv 0) rfl) pa_nil))), ?_⟩
    refine ⟨_, rfl, a, C, dx, _, _, rfl, h1, N.cl, N.nD, nfl_deeds _ _ _ _, dp, _, rfl, .inr (SqT.of h2), ?_⟩
    rw [List.length_map]
    exact q
def spNBool (C : Addr) : Sp := fun vs H Q _ => ∃ (a : Addr), vs = [.ref a] ∧ Q (.bl true) H
theorem scNBool : FnScope ["self"] ["self"] (defScope sNBool) := ⟨rfl, rfl, rfl, by decide +kernel, rfl, by decide +kernel, by decide +kernel⟩
theorem ok_nbool {f : Addr} {fd : FuncData} (F : Fun K "__bool__" "Nest.__bool__" sNBool f fd) : FnOk P w K mg base CX0 1 f fd ["self"] (spNBool C) := by
  refine F.ok scNBool (fun vs H Q E h => ?_) (fun cdv A outer s H vs Q E hr h => ?_)
  · obtain ⟨a, rfl, _⟩ := h
    rfl
  · obtain ⟨a, rfl, q⟩ := h
    exact ⟨_, pss_one (ps_ret pe_bl), q⟩
/-- what isinstance asks of an instance's class -/
structure Isn (K : PySem.W.Frag) (C : Addr) : Prop where
  c1 : PySem.W.findIn K (.ref C) "__class__" = some (some (.builtin "object.__class__"))
  c2 : PySem.W.specialIn K (.builtin "object.__class__") "__get__" = some (some (.builtin "getset_descriptor.__get__"))
  c3 : PySem.W.takesIn K (.builtin "object.__class__") = some true
  c4 : PySem.W.mroIn K C (.type "object") = some true
def spNEq (C : Addr) : Sp := fun vs H Q _ => ∃ (a b : Addr) (o i o2 i2 : Str) (ds es : List Str), vs = [.ref a, .ref b] ∧ NestAt C H a o i ds ∧ NestAt C H b o2 i2 es ∧ SeqAt.shaped (.tuple (ds.map .str)) = true ∧ SeqAt.shaped (.tuple (es.map .str)) = true ∧
  Q (.bl (decide (o = o2 ∧ i = i2 ∧ ds = es))) H
theorem scNEq : FnScope ["self", "other"] ["self", "other"] (defScope sNEq) := ⟨rfl, rfl, rfl, by decide +kernel, rfl, by decide +kernel, by decide +kernel⟩
theorem kit_self (K : PySem.W.Frag) (C : Addr) : PySem.W.kitOne K (.ref C) (.ref C) = some true := by
  unfold PySem.W.kitOne
  rw [if_pos (by simp)]
theorem ok_neq {f : Addr} {fd : FuncData} (F : Fun K "__eq__" "Nest.__eq__" sNEq f fd) (N : Nc K C) (I : Isn K C) (mN : mg "Nest" = some (.ref C)) (T : Bt mg) : FnOk P w K mg base CX0 1 f fd ["self", "other"] (spNEq C) := by
  refine F.ok scNEq (fun vs H Q E h => ?_) (fun cdv A outer s H vs Q E hr h => ?_)
  · obtain ⟨a, b, o, i, o2, i2, ds, es, rfl, _⟩ := h
    rfl
  · obtain ⟨a, b, o, i, o2, i2, ds, es, rfl, ⟨dx, dp, ⟨R, h1⟩, h2⟩, ⟨dy, dq, ⟨S, g1⟩, g2⟩, z1, z2, q⟩ := h
    refine ⟨_, pss_one (ps_ret (pe_and (pe_callB call_isi (by rfl) T.isinstance (by decide +kernel) (pa_cons (pv 1) (pa_cons (pe_glob (v := .ref C) (by rfl) mN rfl) pa_nil)))
      (pe_and (pe_cmpR op_eq (pe_fld (pv 0) rfl) (pe_fld (pv 1) rfl) (nomark _))
      (pe_and (pe_cmpR op_eq (pe_fld (pv 0) rfl) (pe_fld (pv 1) rfl) (nomark _))
      (pe_one (pe_cmpR (op_eqD hr.units) (pe_fld (pv 0) rfl) (pe_fld (pv 1) rfl) (nomark _))))))), ?_⟩
    refine ⟨_, rfl, _, _, .ref C, .ref C, true, rfl, .own C, .base (.ins g1 N.cl I.c1 I.c2 I.c3 I.c4), kit_self K C, true, rfl, ?_⟩
    refine iteT ?_
    refine ⟨_, rfl, a, C, dx, _, _, rfl, h1, N.cl, N.nO, nfl_outer _ _ _ _, _, rfl, b, C, dy, _, _, rfl, g1, N.cl, N.nO, nfl_outer _ _ _ _, rfl, _, rfl, ?_⟩
    refine ite2 (fun ho => ?_) (fun ho => ?_)
    · have eo : o = o2 := V.str.inj (of_decide_eq_true ho)
      refine ⟨_, rfl, a, C, dx, _, _, rfl, h1, N.cl, N.nI, nfl_inner _ _ _ _, _, rfl, b, C, dy, _, _, rfl, g1, N.cl, N.nI, nfl_inner _ _ _ _, rfl, _, rfl, ?_⟩
      refine ite2 (fun hi => ?_) (fun hi => ?_)
      · have ei : i = i2 := V.str.inj (of_decide_eq_true hi)
        refine ⟨_, rfl, a, C, dx, _, _, rfl, h1, N.cl, N.nD, nfl_deeds _ _ _ _, _, rfl, b, C, dy, _, _, rfl, g1, N.cl, N.nD, nfl_deeds _ _ _ _, ?_⟩
        refine ⟨.tuple (ds.map .str), .tuple (es.map .str), .tup (SqT.of h2) (dp_strs ds), .tup (SqT.of g2) (dp_strs es), ?_, ?_, ?_⟩
        · exact z1
        · exact z2
        · rw [show PyData.eqv (.tuple (ds.map .str)) (.tuple (es.map .str)) = decide (ds = es) from (by rw [PyData.eqv]; exact eqv_strs ds es)]
          simpa [eo, ei] using q
      · have ei : ¬ i = i2 := fun e => hi (decide_eq_true (by rw [e]))
        simpa [ei] using q
    · have eo : ¬ o = o2 := fun e => ho (decide_eq_true (by rw [e]))
      simpa [eo] using q
end
/-- all that is known of the class Nest -/
structure NestK (P : Program) (w : World) (K : PySem.W.Frag) (mg : Str → Option Value) (base : Heap) (C : Addr) : Prop where
  nc : Nc K C
  mN : mg "Nest" = some (.ref C)
  mks : ∃ fi, Mk K C fi ∧ FnR P w K mg base CX0 4 fi (spMade K C) ∧ FnK2 P w K mg base 4 fi "inner" "outer" (spKw K C)
  p1 : ∃ p g d, PropOf K C "outer" p g ∧ FnOk P w K mg base CX0 1 g d ["self"] (getSp C "_outer") ∧ Binds K d ["self"] []
  p2 : ∃ p g d, PropOf K C "inner" p g ∧ FnOk P w K mg base CX0 1 g d ["self"] (getSp C "_inner") ∧ Binds K d ["self"] []
  p3 : ∃ p g d, PropOf K C "deeds" p g ∧ FnOk P w K mg base CX0 1 g d ["self"] (getSp C "_deeds") ∧ Binds K d ["self"] []
  len : ∃ f, PySem.W.findIn K (.ref C) "__len__" = some (some (.ref f)) ∧ PySem.W.isFn K (.ref f) = true ∧ FnR P w K mg base CX0 1 f (spNLen C)
  bool : ∃ f, PySem.W.findIn K (.ref C) "__bool__" = some (some (.ref f)) ∧ PySem.W.isFn K (.ref f) = true ∧ FnR P w K mg base CX0 1 f (spNBool C)
  eq : ∃ f, PySem.W.findIn K (.ref C) "__eq__" = some (some (.ref f)) ∧ PySem.W.isFn K (.ref f) = true ∧ FnR P w K mg base CX0 1 f (spNEq C)
  ne : PySem.W.findIn K (.ref C) "__ne__" = some (some (.builtin "object.__ne__"))
  ob : PySem.W.subIn K (.ref C) (.type "object") = some true
end Sq
namespace Sq.N3
open PySem L2
abbrev sNumber : Stmt := top 56
abbrev sBag : Stmt := top 57
abbrev sTake : Stmt := top 58

/-- the built-ins that the text calls are still so -/
structure Bt (mg : Str → Option Value) : Prop where
  len : mg "len" = none
  int : mg "int" = none
  abs : mg "abs" = none
  divmod : mg "divmod" = none
  range : mg "range" = none

def spNumber (K : PySem.W.Frag) : Sp := fun vs H Q _ => ∃ (a : Addr) (ns : List Int) (k : Nat), vs = [.ref a, .int (k : Int)] ∧ SqL K H a (ns.map V.int) ∧ ns.length ≤ 63 ∧ k ≤ 63 ∧ ∀ n H', Same H H' → Q (.int n) H'
section
variable {P : Program} {w : World} {K : PySem.W.Frag} {mg : Str → Option Value} {base : Heap}
theorem scNumber : FnScope ["_law_script", "_law_k", "_law_mixed", "_law_cell"] ["_law_script", "_law_k"] (defScope sNumber) := ⟨rfl, rfl, rfl, by decide +kernel, rfl, by decide +kernel, by decide +kernel⟩
theorem ok_number {f : Addr} {fd : FuncData} (F : Fun K "_law_number" "_law_number" sNumber f fd) (T : Bt mg) : FnOk P w K mg base CX0 1 f fd ["_law_script", "_law_k"] (spNumber K) := by
  refine F.ok scNumber (fun vs H Q E h => ?_) (fun cdv A outer s H vs Q E hr h => ?_)
  · obtain ⟨a, ns, k, rfl, _⟩ := h
    rfl
  · obtain ⟨a, ns, k, rfl, hS, hl, k1, q⟩ := h
    refine ⟨_, pss_cons (ps_if (pt_cmpR op_lt (pv 1) (pe_callB call_len_seq (by rfl) T.len PySem.boot_len (pa_cons (pv 0) pa_nil)) (nomark _))
        (pss_one (ps_ret (pe_callTy call_int1 (by rfl) T.int (by decide +kernel) (pa_cons (pe_ix ix_list (pv 0) (pv 1) (fun _ _ => rfl)) pa_nil)))) pss_nil)
      (pss_cons (ps_set (i := 2) scNumber.nd rfl (.inl rfl) (pe_op op_add pe_int (pe_op op_mul (pe_op op_mul pe_int (pv 1)) (pv 1))))
      (pss_cons (ps_for PassesOwn.never rfl (pi_list (pe_slice sl_list (pv 0) po_none (po_some pe_int))) (pg_name (i := 3) scNumber.nd rfl (.inl rfl))
        (pss_one (ps_set (i := 2) scNumber.nd rfl (.inl rfl) (pe_op op_mod (pe_callTy call_int1 (by rfl) T.int (by decide +kernel) (pa_cons (pe_op op_add (pe_op op_add (pe_op op_mul (pv 2) pe_int) (pv 3)) pe_int) pa_nil)) pe_int))))
      (pss_one (ps_ret (pv 2))))), ?_⟩
    refine ⟨_, rfl, _, rfl, a, _, rfl, .inl hS, _, _, rfl, rfl, _, rfl, ?_⟩
    rw [List.length_map]
    refine ite2 (fun hk => ?_) (fun hk => ?_)
    · have hlt : k < ns.length := Int.ofNat_lt.mp (of_decide_eq_true hk)
      refine ⟨_, rfl, _, rfl, a, _, _, _, rfl, rfl, hS, atI_nat (by rw [List.getElem?_map, List.getElem?_eq_getElem hlt]; rfl), .inl ⟨_, rfl, ?_⟩⟩
      exact q _ _ (Same.refl _)
    · refine ⟨_, rfl, _, _, rfl, rfl, .inl ⟨by decide, by decide⟩, _, rfl, _, _, rfl, rfl, .inr ⟨by omega, by omega⟩, _, _, rfl, rfl, ?_⟩
      refine ⟨_, rfl, _, rfl, a, _, rfl, hS, fun p np => ?_⟩
      refine ⟨p, rfl, ⟨_, SqL.of upd_same⟩, ?_⟩
      have s0 : Same H (upd H p (.lst (cutV (ns.map V.int) none (some 5)))) := fun b o e => by
        rw [upd_ne (ne_of_none e np)]
        exact e
      have allI : ∀ x ∈ cutV (ns.map V.int) none (some 5), ∃ i, x = V.int i := fun x hx => by
        unfold cutV at hx
        have h1 := List.mem_of_mem_drop (List.mem_of_mem_take hx)
        obtain ⟨i, _, e⟩ := List.mem_map.mp h1
        exact ⟨i, e.symm⟩
      refine for_list (K := K) (a := p) (xs := cutV (ns.map V.int) none (some 5)) (fun _ σ H' => ∃ m v, σ = [some (.ref a), some (.int (k : Int)), some (.int m), v] ∧ H' = upd H p (.lst (cutV (ns.map V.int) none (some 5))))
        ⟨_, _, rfl, rfl⟩ (fun i σ H' _ h => ?_) (fun i x σ H' hx h => ?_) (fun σ H' h => ?_)
      · obtain ⟨m, v, _, rfl⟩ := h
        exact SqL.of upd_same
      · obtain ⟨m, v, rfl, rfl⟩ := h
        obtain ⟨z, rfl⟩ := allI x (List.mem_of_getElem? hx)
        refine ⟨_, rfl, _, _, rfl, rfl, .inr ⟨by decide, by decide⟩, _, rfl, _, _, rfl, rfl, _, _, rfl, rfl, .inl ⟨_, rfl, _, _, rfl, rfl, (by show (0 : Int) < 2147483629; decide), ?_⟩⟩
        exact ⟨_, _, rfl, rfl⟩
      · obtain ⟨m, v, rfl, rfl⟩ := h
        exact ⟨_, rfl, q m _ s0⟩

theorem scBag : FnScope ["_law_number_here", "_law_mixed"] ["_law_number_here"] (defScope sBag) := ⟨rfl, rfl, rfl, by decide +kernel, rfl, by decide +kernel, by decide +kernel⟩
def spBag : Sp := fun vs H Q _ => ∃ n : Int, vs = [.int n] ∧ ∀ (p : Addr) (m d : Int), H p = none → Q (.ref p) (upd H p (.lst [.int m, .int d, .int 0]))
theorem ok_bag {f : Addr} {fd : FuncData} (F : Fun K "_law_bag" "_law_bag" sBag f fd) (T : Bt mg) : FnOk P w K mg base CX0 1 f fd ["_law_number_here"] spBag := by
  refine F.ok scBag (fun vs H Q E h => ?_) (fun cdv A outer s H vs Q E hr h => ?_)
  · obtain ⟨n, rfl, _⟩ := h
    rfl
  · obtain ⟨n, rfl, q⟩ := h
    refine ⟨_, pss_cons (ps_set (i := 1) scBag.nd rfl (.inl rfl) (pe_op op_mod (pe_callTy call_int1 (by rfl) T.int (by decide +kernel) (pa_cons (pe_op op_add (pe_op op_mul (pe_callB call_abs (by rfl) T.abs (by decide +kernel) (pa_cons (pv 0) pa_nil)) pe_int) pe_int) pa_nil)) pe_int))
      (pss_one (ps_ret (pe_lst (pa_cons (pv 1) (pa_cons (pe_ifExp (PW.pt (pw_or (pt_cmpR op_lt (pv 0) pe_int (nomark _)) (pw_or1 (pt_cmpR op_ge (pv 0) (pe_op op_pow pe_int pe_int) (nomark _)))))
        (pe_callB call_abs (by rfl) T.abs (by decide +kernel) (pa_cons (pv 0) pa_nil)) pe_int) (pa_cons pe_int pa_nil)))))), ?_⟩
    refine ⟨_, rfl, _, rfl, _, _, rfl, rfl, .inr ⟨by decide, by decide⟩, _, _, rfl, rfl, .inl ⟨_, rfl, _, _, rfl, rfl, (by show (0 : Int) < 2147483629; decide), ?_⟩⟩
    refine ⟨_, rfl, _, rfl, _, _, rfl, rfl, _, rfl, ?_⟩
    have fin : ∀ m d : Int, tLst (fun _ H Q => Q [.int m, .int d, .int 0] H) (L2.start [] []) H Q := fun m d => ⟨by show 3 ≤ sizeLine; decide, fun p np => q p m d np⟩
    refine ite2 (fun hk => ?_) (fun hk => ?_)
    · exact ⟨_, rfl, _, rfl, fin _ _⟩
    · refine ⟨_, rfl, _, _, rfl, rfl, ⟨by decide, by decide, by decide⟩, _, _, rfl, rfl, _, rfl, ?_⟩
      refine ite2 (fun hj => ?_) (fun hj => ?_)
      · exact ⟨_, rfl, _, rfl, fin _ _⟩
      · exact fin _ _
theorem scTake : FnScope ["_law_bag_here", "_law_many", "_law_mixed", "_law_digit"] ["_law_bag_here", "_law_many"] (defScope sTake) := ⟨rfl, rfl, rfl, by decide +kernel, rfl, by decide +kernel, by decide +kernel⟩
/-- all but what stands at p is as it was -/
def Off (p : Addr) (H H' : Hp) : Prop := ∀ b o, b ≠ p → H b = some o → H' b = some o
def spTake : Sp := fun vs H Q _ => ∃ (p : Addr) (m d c k : Int), vs = [.ref p, .int k] ∧ H p = some (.lst [.int m, .int d, .int c]) ∧ 0 < k ∧ k < 1000000 ∧
  ∀ (r m' d' c' : Int) (H' : Hp), 0 ≤ r → r < k → H' p = some (.lst [.int m', .int d', .int c']) → Off p H H' → Q (.int r) H'
theorem ok_take {f : Addr} {fd : FuncData} (F : Fun K "_law_take" "_law_take" sTake f fd) (T : Bt mg) : FnOk P w K mg base CX0 1 f fd ["_law_bag_here", "_law_many"] spTake := by
  refine F.ok scTake (fun vs H Q E h => ?_) (fun cdv A outer s H vs Q E hr h => ?_)
  · obtain ⟨p, m, d, c, k, rfl, _⟩ := h
    rfl
  · obtain ⟨p, m, d, c, k, rfl, hp, k0, k1, q⟩ := h
    refine ⟨_, pss_cons (ps_asg (pe_op op_add (pe_ix ix_list (pv 0) pe_int (fun _ _ => rfl)) pe_int) (pg_sub (pv 0) pe_int set_list))
      (pss_cons (ps_set (i := 2) scTake.nd rfl (.inl rfl) (pe_callTy call_int1 (by rfl) T.int (by decide +kernel) (pa_cons (pe_ix ix_list (pv 0) pe_int (fun _ _ => rfl)) pa_nil)))
      (pss_cons (ps_asg (pe_op op_mod (pe_callTy call_int1 (by rfl) T.int (by decide +kernel) (pa_cons (pe_op op_add (pe_op op_add (pe_op op_mul (pv 2) (pe_op op_add (pe_op op_mod (pe_callTy call_int1 (by rfl) T.int (by decide +kernel) (pa_cons (pv 2) pa_nil)) pe_int) pe_int))
          (pe_op op_mul pe_int (pe_ix ix_list (pv 0) pe_int (fun _ _ => rfl)))) pe_int) pa_nil)) pe_int) (pg_sub (pv 0) pe_int set_list))
      (pss_cons (ps_if (pt_cmpR op_gt (pe_ix ix_list (pv 0) pe_int (fun _ _ => rfl)) pe_int (nomark _))
        (pss_cons (ps_asg (pe_callB call_divmod (by rfl) T.divmod (by decide +kernel) (pa_cons (pe_ix ix_list (pv 0) pe_int (fun _ _ => rfl)) (pa_cons (pv 1) pa_nil)))
            (pg_tup (by rfl) (pgs_cons (pg_sub (pv 0) pe_int set_list) (pgs_cons (pg_name (i := 3) scTake.nd rfl (.inl rfl)) pgs_nil))))
          (pss_one (ps_ret (pv 3)))) pss_nil)
      (pss_one (ps_ret (pe_op op_mod (pe_callTy call_int1 (by rfl) T.int (by decide +kernel) (pa_cons (pe_op op_fdiv (pe_ix ix_list (pv 0) pe_int (fun _ _ => rfl)) pe_int) pa_nil)) (pv 1))))))), ?_⟩
    -- the count
    refine ⟨_, rfl, p, _, 2, _, rfl, rfl, SqL.of hp, rfl, _, _, rfl, rfl, _, rfl, p, _, 2, 2, rfl, rfl, hp, rfl, ?_⟩
    -- the mixed number
    refine ⟨_, rfl, p, _, 0, _, rfl, rfl, SqL.of upd_same, rfl, .inl ⟨_, rfl, ?_⟩⟩
    refine ⟨_, rfl, _, rfl, .inl ⟨_, rfl, _, _, rfl, rfl, (by show (0 : Int) < 30011; decide), _, _, rfl, rfl, _, _, rfl, rfl, .inr ⟨?_, ?_⟩, ?_⟩⟩
    · have := Int.emod_nonneg m (show (30011 : Int) ≠ 0 by decide)
      omega
    · have := Int.emod_lt_of_pos m (show (0 : Int) < 30011 by decide)
      omega
    refine ⟨_, rfl, p, _, 2, _, rfl, rfl, SqL.of upd_same, rfl, _, _, rfl, rfl, .inl ⟨by decide, by decide⟩, _, _, rfl, rfl, _, _, rfl, rfl, .inl ⟨_, rfl, _, _, rfl, rfl, (by show (0 : Int) < 2147483629; decide), ?_⟩⟩
    refine ⟨_, rfl, p, _, 0, 0, rfl, rfl, upd_same, rfl, ?_⟩
    refine ⟨_, rfl, p, _, 1, _, rfl, rfl, SqL.of upd_same, rfl, _, _, rfl, rfl, _, rfl, ?_⟩
    have off : ∀ o1 o2, Off p H (upd (upd H p o1) p o2) := fun o1 o2 b o hb e => by
      rw [upd_ne hb, upd_ne hb]
      exact e
    refine ite2 (fun hd => ?_) (fun hd => ?_)
    · refine ⟨_, rfl, p, _, 1, _, rfl, rfl, SqL.of upd_same, rfl, _, rfl, d, k, rfl, ⟨k0, by omega⟩, fun t nt => ?_⟩
      have ntp : p ≠ t := fun e => by
        rw [← e, upd_same] at nt
        cases nt
      refine ⟨t, _, rfl, SqT.of upd_same, rfl, _, _, rfl, _, rfl, p, _, 1, 1, rfl, rfl, (by rw [upd_ne ntp]; exact upd_same), rfl, _, _, rfl, rfl, _, rfl, ?_⟩
      refine q _ _ _ _ _ (Int.emod_nonneg _ (by omega)) (Int.emod_lt_of_pos _ k0) upd_same fun b o hb e => ?_
      have nbt : b ≠ t := fun z => by
        rw [← z, upd_ne hb, upd_ne hb, e] at nt
        cases nt
      rw [upd_ne hb, upd_ne nbt]
      exact off _ _ b o hb e
    · refine ⟨_, rfl, p, _, 0, _, rfl, rfl, SqL.of upd_same, rfl, _, _, rfl, rfl, ⟨by decide, by decide⟩, .inl ⟨_, rfl, _, rfl, _, _, rfl, rfl, k0, ?_⟩⟩
      exact q _ _ _ _ _ (Int.emod_nonneg _ (by omega)) (Int.emod_lt_of_pos _ k0) upd_same (off _ _)
end
end Sq.N3
namespace Sq.N3
open PySem L2 TL
abbrev sEdge : Stmt := top 59
abbrev sWalkRow : Stmt := top 60
def edge (b : Nat) : Str := (obs ++ ibs).getD b ""
def walkS (a b : Str) (down : Bool) : Str := a ++ " to " ++ b ++ (if down = true then (" down" : Str) else "")
theorem walk_split {a b : Str} (ha : 32 ∉ tl a) (hb : 32 ∉ tl b) (d : Bool) : Txt.split (walkS a b d) " " = [a, "to", b] ++ (if d = true then [("down" : Str)] else []) := by
  have key : ∀ parts : List Str, parts ≠ [] → (∀ p ∈ parts, 32 ∉ tl p) → walkS a b d = Txt.join " " parts → Txt.split (walkS a b d) " " = parts := fun parts h1 h2 e => by
    rw [e]
    exact split_join (s := 32) (S := []) (by decide +kernel) (by decide +kernel) h1 h2
  have ht : 32 ∉ tl ("to" : Str) := by decide +kernel
  have hd : 32 ∉ tl ("down" : Str) := by decide +kernel
  have e1 : tl (" to " : Str) = 32 :: (tl ("to" : Str) ++ [32]) := by decide +kernel
  have e2 : tl (" down" : Str) = 32 :: tl ("down" : Str) := by decide +kernel
  have e3 : tl (" " : Str) = [32] := by decide +kernel
  refine key _ (by cases d <;> simp) (fun p hp => ?_) (ext_tl ?_)
  · cases d
    · rcases (by simpa using hp : p = a ∨ p = "to" ∨ p = b) with rfl | rfl | rfl <;> assumption
    · rcases (by simpa using hp : p = a ∨ p = "to" ∨ p = b ∨ p = "down") with rfl | rfl | rfl | rfl <;> assumption
  · rw [join_eq, tl_join, e3]
    unfold walkS
    cases d
    · rw [tl_append, tl_append, tl_append, e1]
      simp [joinL]
      rfl
    · rw [tl_append, tl_append, tl_append, e1]
      simp [joinL, e2]
theorem walk_ok {bs : List Str} {a b : Str} (ha : 32 ∉ tl a) (hb : 32 ∉ tl b) (nb : b ≠ "down") (ma : memB bs a = true) (mb : memB bs b = true) (d : Bool) : loopB bs (walkS a b d) = true := by
  unfold loopB cutDown
  rw [walk_split ha hb]
  cases d
  · have e : ([a, "to", b] ++ (if false = true then [("down" : Str)] else []) : List Str) = [a, "to", b] := rfl
    rw [e]
    rw [if_neg (show ¬ ([a, "to", b] : List Str).getLast? = some ("down" : Str) from fun z => nb (Option.some.inj z))]
    simp [loopW, ma, mb]
  · have e : ([a, "to", b] ++ (if true = true then [("down" : Str)] else []) : List Str) = [a, "to", b, "down"] := rfl
    rw [e]
    rw [if_pos (show ([a, "to", b, "down"] : List Str).getLast? = some ("down" : Str) from rfl)]
    show loopW bs [a, "to", b] = true
    simp [loopW, ma, mb]
theorem edge_plain : ∀ a : _root_.Fin 18, 32 ∉ tl (edge a.val) ∧ edge a.val ≠ "down" ∧ memB (obs ++ ibs) (edge a.val) = true ∧ (edge a.val).length ≤ 12 := by decide +kernel
theorem edge_outer : ∀ a : _root_.Fin 12, memB obs (edge a.val) = true := by decide +kernel
def rowOf (a b d : Nat) : Str := walkS (edge a) (edge b) (decide (d = 1))
theorem row_outer {a b : Nat} (d : Nat) (ha : a < 12) (hb : b < 12) : loopB obs (rowOf a b d) = true :=
  walk_ok (edge_plain ⟨a, by omega⟩).1 (edge_plain ⟨b, by omega⟩).1 (edge_plain ⟨b, by omega⟩).2.1 (edge_outer ⟨a, ha⟩) (edge_outer ⟨b, hb⟩) _
theorem row_inner {a b : Nat} (d : Nat) (ha : a < 18) (hb : b < 18) : loopB (obs ++ ibs) (rowOf a b d) = true :=
  walk_ok (edge_plain ⟨a, ha⟩).1 (edge_plain ⟨b, hb⟩).1 (edge_plain ⟨b, hb⟩).2.1 (edge_plain ⟨a, ha⟩).2.2.1 (edge_plain ⟨b, hb⟩).2.2.1 _
theorem str_len_append (x y : Str) : (x ++ y).length = x.length + y.length := by
  rw [len_tl, tl_append, List.length_append, ← len_tl, ← len_tl]
theorem row_len {a b : Nat} (d : Nat) (ha : a < 18) (hb : b < 18) : (rowOf a b d).length ≤ 40 := by
  have h1 : (edge a).length ≤ 12 := (edge_plain ⟨a, ha⟩).2.2.2
  have h2 : (edge b).length ≤ 12 := (edge_plain ⟨b, hb⟩).2.2.2
  unfold rowOf walkS
  rw [str_len_append, str_len_append, str_len_append]
  have h3 : (if decide (d = 1) = true then (" down" : Str) else "").length ≤ 5 := by split <;> decide +kernel
  have h4 : (" to " : Str).length = 4 := by decide +kernel
  omega
section
variable {P : Program} {w : World} {K : PySem.W.Frag} {mg : Str → Option Value} {base : Heap} {fE : Addr} {dE : FuncData}
def spEdge : Sp := fun vs H Q _ => ∃ b : Nat, vs = [.int (b : Int)] ∧ b < 18 ∧ ∀ H', Same H H' → Q (.str (edge b)) H'
theorem scEdge : FnScope ["_law_bound", "_law_head"] ["_law_bound"] (defScope sEdge) := ⟨rfl, rfl, rfl, by decide +kernel, rfl, by decide +kernel, by decide +kernel⟩
theorem ok_edge {f : Addr} {fd : FuncData} (F : Fun K "_law_edge_row" "_law_edge_row" sEdge f fd) (T : Bt mg) : FnOk P w K mg base CX0 1 f fd ["_law_bound"] spEdge := by
  refine F.ok scEdge (fun vs H Q E h => ?_) (fun cdv A outer s H vs Q E hr h => ?_)
  · obtain ⟨b, rfl, _⟩ := h
    rfl
  · obtain ⟨b, rfl, hb, q⟩ := h
    refine ⟨_, pss_cons (ps_if (pt_cmpR op_lt (pv 0) pe_int (nomark _)) (pss_one (ps_ret (pe_ix ix_list (pe_lst (pa_cons pe_str (pa_cons pe_str (pa_cons pe_str pa_nil)))) (pv 0) (fun _ _ => rfl)))) pss_nil)
      (pss_cons (ps_set (i := 1) scEdge.nd rfl (.inl rfl) (pe_ix ix_list (pe_lst (pa_cons pe_str (pa_cons pe_str (pa_cons pe_str (pa_cons pe_str (pa_cons pe_str pa_nil)))))) (pe_op op_sub (pe_op op_fdiv (pv 0) pe_int) pe_int) (fun _ _ => rfl)))
      (pss_one (ps_ret (pe_op op_add_str (pv 1) (pe_ix ix_list (pe_lst (pa_cons pe_str (pa_cons pe_str (pa_cons pe_str pa_nil)))) (pe_op op_mod (pe_callTy call_int1 (by rfl) T.int (by decide +kernel) (pa_cons (pv 0) pa_nil)) pe_int) (fun _ _ => rfl)))))), ?_⟩
    refine ⟨_, rfl, _, _, rfl, rfl, _, rfl, ?_⟩
    have run3 : ∀ (b : Nat) (y : Str), edge b = y → (∀ H', Same H H' → Q (.str (edge b)) H') → ∀ H', Same H H' → Q (.str y) H' := fun b y e q H' sm => e ▸ q H' sm
    have alt : b = 0 ∨ b = 1 ∨ b = 2 ∨ b = 3 ∨ b = 4 ∨ b = 5 ∨ b = 6 ∨ b = 7 ∨ b = 8 ∨ b = 9 ∨ b = 10 ∨ b = 11 ∨ b = 12 ∨ b = 13 ∨ b = 14 ∨ b = 15 ∨ b = 16 ∨ b = 17 := by omega
    rcases alt with rfl | rfl | rfl | rfl | rfl | rfl | rfl | rfl | rfl | rfl | rfl | rfl | rfl | rfl | rfl | rfl | rfl | rfl
    all_goals
      first
      | (refine ite2 (fun _ => ?_) (fun n => absurd (by decide) n)
         refine ⟨by decide, fun p np => ⟨_, rfl, p, _, _, _, rfl, rfl, SqL.of upd_same, rfl, ?_⟩⟩
         exact run3 _ _ (by decide +kernel) q _ (same_new np))
      | (refine ite2 (fun y => absurd y (by decide)) (fun _ => ?_)
         refine ⟨by decide, fun p np => ⟨_, rfl, _, _, rfl, rfl, ⟨by decide, by decide⟩, _, _, rfl, rfl, p, _, _, _, rfl, rfl, SqL.of upd_same, rfl, ?_⟩⟩
         refine ⟨_, rfl, by decide, fun p2 np2 => ⟨_, rfl, .inl ⟨_, rfl, _, _, rfl, rfl, (by show (0 : Int) < 3; decide), p2, _, _, _, rfl, rfl, SqL.of upd_same, rfl, _, _, rfl, rfl, (by decide +kernel), ?_⟩⟩⟩
         exact run3 _ _ (by decide +kernel) q _ ((same_new np).trans (same_new np2)))
end
end Sq.N3
namespace Sq.N3
open PySem L2 TL
section
variable {P : Program} {w : World} {K : PySem.W.Frag} {mg : Str → Option Value} {base : Heap} {fE : Addr} {dE : FuncData}
def spWalkRow (K : PySem.W.Frag) : Sp := fun vs H Q _ => ∃ (t : Addr) (a b d : Nat), vs = [.ref t] ∧ SqT K H t [.int (a : Int), .int (b : Int), .int (d : Int)] ∧ a < 18 ∧ b < 18 ∧ ∀ H', Same H H' → Q (.str (rowOf a b d)) H'
theorem scWalkRow : FnScope ["_law_walk_here"] ["_law_walk_here"] (defScope sWalkRow) := ⟨rfl, rfl, rfl, by decide +kernel, rfl, by decide +kernel, by decide +kernel⟩
theorem ok_walkrow {f : Addr} {fd : FuncData} (F : Fun K "_law_walk_row" "_law_walk_row" sWalkRow f fd) (GE : FnOk P w K mg base CX0 1 fE dE ["_law_bound"] spEdge) (bE : Binds K dE ["_law_bound"] []) (kE : PySem.W.keepIn K (.ref fE) = true) (mE : mg "_law_edge_row" = some (.ref fE)) :
    FnOk P w K mg base CX0 2 f fd ["_law_walk_here"] (spWalkRow K) := by
  refine F.ok scWalkRow (fun vs H Q E h => ?_) (fun cdv A outer s H vs Q E hr h => ?_)
  · obtain ⟨t, a, b, d, rfl, _⟩ := h
    rfl
  · obtain ⟨t, a, b, d, rfl, ht, ha, hb, q⟩ := h
    have la : (edge a).length ≤ 12 := (edge_plain ⟨a, ha⟩).2.2.2
    have lb : (edge b).length ≤ 12 := (edge_plain ⟨b, hb⟩).2.2.2
    have l4 : (" to " : Str).length = 4 := by decide +kernel
    have l5 : (" down" : Str).length = 5 := by decide +kernel
    have l0 : ("" : Str).length = 0 := by decide +kernel
    have big : 100 ≤ sizeLine := by decide
    refine ⟨_, pss_one (ps_ret (pe_op op_add_str (pe_op op_add_str (pe_op op_add_str (pe_call GE hr (by rfl) mE kE bE .nil pass0 (pa_cons (pe_ix ix_tup (pv 0) pe_int (fun _ _ => rfl)) pa_nil)) pe_str)
        (pe_call GE hr (by rfl) mE kE bE .nil pass0 (pa_cons (pe_ix ix_tup (pv 0) pe_int (fun _ _ => rfl)) pa_nil)))
        (pe_ifExp (pt_cmpR op_eq (pe_ix ix_tup (pv 0) pe_int (fun _ _ => rfl)) pe_int (nomark _)) pe_str pe_str))), ?_⟩
    refine ⟨_, rfl, t, _, 0, _, rfl, rfl, ht, rfl, a, rfl, ha, fun H1 s1 => ?_⟩
    refine ⟨_, _, rfl, rfl, by omega, ?_⟩
    refine ⟨_, rfl, t, _, 1, _, rfl, rfl, ht.ext s1, rfl, b, rfl, hb, fun H2 s2 => ?_⟩
    have e1 : (edge a ++ (" to " : Str)).length = (edge a).length + (" to " : Str).length := str_len_append _ _
    have e2 : (edge a ++ (" to " : Str) ++ edge b).length = (edge a ++ (" to " : Str)).length + (edge b).length := str_len_append _ _
    have sm : Same H H2 := s1.trans s2
    refine ⟨_, _, rfl, rfl, by omega, ?_⟩
    refine ⟨_, rfl, t, _, 2, _, rfl, rfl, ht.ext sm, rfl, rfl, _, rfl, ?_⟩
    have z := q H2 sm
    unfold rowOf walkS at z
    refine ite2 (fun h1 => ?_) (fun h1 => ?_)
    · have hd : d = 1 := Int.ofNat.inj (V.int.inj (of_decide_eq_true h1))
      refine ⟨_, _, rfl, rfl, by omega, ?_⟩
      rw [if_pos (decide_eq_true hd)] at z
      exact z
    · have hd : ¬ d = 1 := fun e => h1 (decide_eq_true (by rw [e]; rfl))
      refine ⟨_, _, rfl, rfl, by omega, ?_⟩
      rw [if_neg (fun e => hd (of_decide_eq_true e))] at z
      exact z
end
end Sq.N3
namespace Sq.N3
open PySem L2 TL
abbrev sBehind : Stmt := top 54
abbrev sRowsBy : Stmt := top 52
/-! ### what stands behind a row's start -/
theorem starts_pre (x y : Str) : Txt.startswith x y = pre (tl y) (tl x) := by
  have hl := len_tl y
  have hx := len_tl x
  unfold Txt.startswith
  rw [StrLaws.subAt_eq, hl, List.drop_zero]
  show (decide (0 + y.length ≤ x.length) && ((tl x).take (tl y).length == tl y)) = ((tl x).take (tl y).length == tl y)
  cases e : ((tl x).take (tl y).length == tl y) with
  | false => simp
  | true =>
    have e1 := congrArg List.length (eq_of_beq e)
    rw [List.length_take] at e1
    simp
    omega
theorem starts_app (y x : Str) : Txt.startswith (y ++ x) y = true := by
  rw [starts_pre, tl_append]
  unfold pre
  rw [List.take_left, beq_self_eq_true]
theorem cut_app (y x : Str) : Txt.removeprefix (y ++ x) y = x := by
  have hs := starts_app y x
  unfold Txt.startswith at hs
  have h2 : Builtin.Str.subAt (y ++ x) y 0 = true := (Bool.and_eq_true_iff.mp hs).2
  unfold Txt.removeprefix
  rw [if_pos h2]
  have hl : (y ++ x).length = y.length + x.length := str_len_append y x
  show (if (y ++ x).length - y.length == (y ++ x).length then (y ++ x) else Builtin.Str.strSub (y ++ x) y.length (y ++ x).length) = x
  refine ext_tl ?_
  by_cases h0 : y.length = 0
  · have e0 : tl y = [] := List.eq_nil_of_length_eq_zero (by rw [← len_tl]; exact h0)
    rw [if_pos (by rw [hl]; simp; omega), tl_append, e0, List.nil_append]
  · rw [if_neg (by rw [hl]; simp; omega), tl_strSub, tl_append, len_tl y, List.drop_left, List.take_of_length_le (by rw [hl, len_tl x, len_tl y]; omega)]
def behindV (y x : Str) : V := if Txt.startswith x y = true then .str (Txt.removeprefix x y) else .non
theorem behind_app (y x : Str) : behindV y (y ++ x) = .str x := by
  unfold behindV
  rw [if_pos (starts_app y x), cut_app]
def spBehind : Sp := fun vs H Q _ => ∃ (y x : Str), vs = [.str y, .str x] ∧ x.length ≤ sizeLine ∧ Q (behindV y x) H
section
variable {P : Program} {w : World} {K : PySem.W.Frag} {mg : Str → Option Value} {base : Heap}
theorem scBehind : FnScope ["start", "row"] ["start", "row"] (defScope sBehind) := ⟨rfl, rfl, rfl, by decide +kernel, rfl, by decide +kernel, by decide +kernel⟩
theorem ok_behind {f : Addr} {fd : FuncData} (F : Fun K "behind" "behind" sBehind f fd) : FnOk P w K mg base CX0 1 f fd ["start", "row"] spBehind := by
  refine F.ok scBehind (fun vs H Q E h => ?_) (fun cdv A outer s H vs Q E hr h => ?_)
  · obtain ⟨y, x, rfl, _⟩ := h
    rfl
  · obtain ⟨y, x, rfl, hx, q⟩ := h
    refine ⟨_, pss_one (ps_ret (pe_ifExp (pt_val (pe_m1 PySem.F.slot_str_startswith PySem.F.type_str_startswith mt_startswith (pv 1) (pv 0))) (pe_m1 PySem.F.slot_str_removeprefix PySem.F.type_str_removeprefix mt_removeprefix (pv 1) (pv 0)) pe_non)), ?_⟩
    refine ⟨_, rfl, ⟨_, rfl⟩, _, rfl, _, _, rfl, rfl, _, rfl, ?_⟩
    unfold behindV at q
    cases e : Txt.startswith x y with
    | true =>
      rw [e, if_pos rfl] at q
      refine iteT ?_
      exact ⟨_, rfl, ⟨_, rfl⟩, _, rfl, _, _, rfl, rfl, hx, q⟩
    | false =>
      rw [e, if_neg (by decide)] at q
      exact iteF q
end
/-! ### the rows of a text, nest by nest -/
def ofrom : Str := "i from "
def jfrom : Str := "j from "
def addRow (gs : List (List Str)) (r : Str) : List (List Str) := if gs = [] ∨ Txt.startswith r ofrom = true then gs ++ [[r]] else gs.dropLast ++ [gs.getLast?.getD [] ++ [r]]
def grp (rows : List Str) : List (List Str) := rows.foldl addRow []
def partsOf (z : Str) : List (List Str) := if z = "" then [] else grp (Txt.split z "\n")
/-- lists of texts, listed at p -/
def Grps (H0 H : Hp) (p : Addr) (gs : List (List Str)) : Prop := ∃ as : List Addr, H p = some (.lst (as.map V.ref)) ∧ as.length = gs.length ∧ as.Nodup ∧ p ∉ as ∧ H0 p = none ∧ (∀ a ∈ as, H0 a = none) ∧
  ∀ (i : Nat) (a : Addr) (g : List Str), as[i]? = some a → gs[i]? = some g → H a = some (.lst (g.map V.str))
theorem addRow_len {gs : List (List Str)} {r : Str} {i : Nat} (h1 : gs.length ≤ i) (h2 : ∀ g ∈ gs, g.length ≤ i) : (addRow gs r).length ≤ i + 1 ∧ ∀ g ∈ addRow gs r, g.length ≤ i + 1 := by
  unfold addRow
  split
  · refine ⟨by rw [List.length_append]; exact Nat.add_le_add_right h1 1, fun g hg => ?_⟩
    rcases List.mem_append.mp hg with h | h
    · exact Nat.le_succ_of_le (h2 g h)
    · rw [List.mem_singleton.mp h]
      exact Nat.succ_le_succ (Nat.zero_le _)
  · rename_i hn
    have hne : gs ≠ [] := fun e => hn (.inl e)
    refine ⟨by rw [List.length_append, List.length_dropLast]; show gs.length - 1 + 1 ≤ i + 1; omega, fun g hg => ?_⟩
    rcases List.mem_append.mp hg with h | h
    · exact Nat.le_succ_of_le (h2 g (List.dropLast_subset _ h))
    · rw [List.mem_singleton.mp h, List.getLast?_eq_some_getLast hne]
      show (gs.getLast hne ++ [r]).length ≤ i + 1
      rw [List.length_append]
      exact Nat.add_le_add_right (h2 _ (List.getLast_mem hne)) 1
theorem nodup_snoc {as : List Addr} {q : Addr} (h : as.Nodup) (hq : q ∉ as) : (as ++ [q]).Nodup := by
  rw [List.nodup_append]
  exact ⟨h, List.nodup_cons.mpr ⟨List.not_mem_nil, List.nodup_nil⟩, fun a ha b hb e => hq (by rw [List.mem_singleton.mp hb] at e; rw [← e]; exact ha)⟩
theorem Grps.snoc {H0 H : Hp} {p q : Addr} {gs : List (List Str)} {as : List Addr} (sm : Same H0 H) (hq : H q = none) (h1 : H p = some (.lst (as.map V.ref))) (h2 : as.length = gs.length) (h3 : as.Nodup) (h4 : p ∉ as) (h5 : H0 p = none) (h6 : ∀ a ∈ as, H0 a = none)
    (h7 : ∀ (i : Nat) (a : Addr) (g : List Str), as[i]? = some a → gs[i]? = some g → H a = some (.lst (g.map V.str))) :
    Grps H0 (upd (upd H q (.lst [])) p (.lst (as.map V.ref ++ [.ref q]))) p (gs ++ [[]]) := by
  have npq : p ≠ q := ne_of_none h1 hq
  have nq0 : H0 q = none := by
    cases e : H0 q with
    | none => rfl
    | some o => rw [sm _ _ e] at hq; cases hq
  have nqa : q ∉ as := fun hm => by
    obtain ⟨i, hi⟩ := List.mem_iff_getElem?.mp hm
    have hl : i < gs.length := by rw [← h2]; exact (List.getElem?_eq_some_iff.mp hi).1
    have z := h7 i q _ hi (List.getElem?_eq_getElem hl)
    rw [hq] at z
    cases z
  refine ⟨as ++ [q], by rw [upd_same, List.map_append]; rfl, by rw [List.length_append, List.length_append, h2]; rfl, nodup_snoc h3 nqa, fun hm => ?_, h5, fun a ha => ?_, fun i a g hi hg => ?_⟩
  · rcases List.mem_append.mp hm with h | h
    · exact h4 h
    · exact npq (List.mem_singleton.mp h)
  · rcases List.mem_append.mp ha with h | h
    · exact h6 a h
    · rw [List.mem_singleton.mp h]
      exact nq0
  · by_cases hl : i < as.length
    · rw [List.getElem?_append_left hl] at hi
      rw [List.getElem?_append_left (by omega)] at hg
      have z := h7 i a g hi hg
      have ma : a ∈ as := List.mem_of_getElem? hi
      rw [upd_ne (fun e => h4 (by rw [← e]; exact ma)), upd_ne (fun e => nqa (by rw [← e]; exact ma))]
      exact z
    · rw [List.getElem?_append_right (by omega)] at hi
      rw [List.getElem?_append_right (by omega), ← h2] at hg
      cases hd : i - as.length with
      | zero =>
        rw [hd] at hi hg
        cases hi
        cases hg
        rw [upd_ne npq.symm]
        exact upd_same
      | succ n =>
        rw [hd] at hi
        cases hi
theorem Grps.last {H0 H : Hp} {p : Addr} {gs : List (List Str)} {g : List Str} (h : Grps H0 H p (gs ++ [g])) : ∃ (as : List Addr) (a : Addr), H p = some (.lst (as.map V.ref ++ [.ref a])) ∧ H a = some (.lst (g.map V.str)) ∧
    ∀ r : Str, Grps H0 (upd H a (.lst (g.map V.str ++ [.str r]))) p (gs ++ [g ++ [r]]) := by
  obtain ⟨bs, h1, h2, h3, h4, h5, h6, h7⟩ := h
  have hne : bs ≠ [] := fun e => by rw [e, List.length_append] at h2; cases h2
  obtain ⟨as, a, rfl⟩ : ∃ as a, bs = as ++ [a] := ⟨bs.dropLast, bs.getLast hne, (List.dropLast_concat_getLast hne).symm⟩
  have hl : as.length = gs.length := by rw [List.length_append, List.length_append] at h2; exact Nat.add_right_cancel h2
  have ma : a ∈ as ++ [a] := List.mem_append_right _ (List.mem_singleton.mpr rfl)
  have npa : p ≠ a := fun e => h4 (by rw [e]; exact ma)
  have haa : H a = some (.lst (g.map V.str)) := h7 as.length a g (by rw [List.getElem?_append_right (Nat.le_refl _), Nat.sub_self]; rfl) (by rw [hl, List.getElem?_append_right (Nat.le_refl _), Nat.sub_self]; rfl)
  refine ⟨as, a, by rw [h1, List.map_append]; rfl, haa, fun r => ⟨as ++ [a], by rw [upd_ne npa]; exact h1, by rw [List.length_append, List.length_append, hl]; rfl, h3, h4, h5, h6, fun i b g' hi hg => ?_⟩⟩
  by_cases hli : i < as.length
  · have hi2 := hi
    rw [List.getElem?_append_left hli] at hi
    rw [List.getElem?_append_left (by omega)] at hg
    have nba : b ≠ a := fun e => by
      have mb : b ∈ as := List.mem_of_getElem? hi
      exact (List.nodup_append.mp h3).2.2 b mb a (List.mem_singleton.mpr rfl) e
    rw [upd_ne nba]
    exact h7 i b g' hi2 (by rw [List.getElem?_append_left (by omega)]; exact hg)
  · rw [List.getElem?_append_right (by omega)] at hi
    rw [List.getElem?_append_right (by omega), ← hl] at hg
    cases hd : i - as.length with
    | zero =>
      rw [hd] at hi hg
      cases hi
      cases hg
      rw [upd_same, List.map_append]
      rfl
    | succ n =>
      rw [hd] at hi
      cases hi
end Sq.N3
namespace Sq.N3
open PySem L2 TL
theorem partsOf_step {ws : List Str} {i : Nat} {r : Str} (h : ws[i]? = some r) : grp (ws.take (i + 1)) = addRow (grp (ws.take i)) r := by
  unfold grp
  rw [List.take_add_one, h, List.foldl_append]
  rfl
theorem same_old {H0 H : Hp} {a : Addr} {o : HO} (sm : Same H0 H) (h : H0 a = none) : Same H0 (upd H a o) := fun b u e => by
  rw [upd_ne (fun z => by rw [z, h] at e; cases e)]
  exact sm b u e
def spRowsBy (K : PySem.W.Frag) : Sp := fun vs H Q _ => ∃ z : Str, vs = [.str z] ∧ z.length + 2 ≤ sizeLine ∧ (Txt.split z "\n").length < sizeLine ∧ (∀ r ∈ Txt.split z "\n", r.length ≤ sizeLine) ∧
  ∀ (p : Addr) (H' : Hp), Same H H' → Grps H H' p (partsOf z) → Q (.ref p) H'
section
variable {P : Program} {w : World} {K : PySem.W.Frag} {mg : Str → Option Value} {base : Heap}
theorem scRowsBy : FnScope ["text", "parts", "row"] ["text"] (defScope sRowsBy) := ⟨rfl, rfl, rfl, by decide +kernel, rfl, by decide +kernel, by decide +kernel⟩
theorem ok_rowsBy {f : Addr} {fd : FuncData} (F : Fun K "rows_by_nest" "rows_by_nest" sRowsBy f fd) {u : Tok} (mS : mg "OUTER_START" = some (.str ofrom u)) : FnOk P w K mg base CX0 1 f fd ["text"] (spRowsBy K) := by
  refine F.ok scRowsBy (fun vs H Q E h => ?_) (fun cdv A outer s H vs Q E hr h => ?_)
  · obtain ⟨z, rfl, _⟩ := h
    rfl
  · obtain ⟨z, rfl, hz, hn, hrow, q⟩ := h
    refine ⟨_, pss_cons (ps_if (pt_cmpR op_eq (pv 0) pe_str (nomark _)) (pss_one (ps_ret (pe_lst pa_nil))) pss_nil)
      (pss_cons (ps_set (i := 1) scRowsBy.nd rfl (.inl rfl) (pe_lst pa_nil))
      (pss_cons (ps_for PassesOwn.never rfl (pi_list (pe_split (pv 0) pe_str)) (pg_name (i := 2) scRowsBy.nd rfl (.inl rfl))
        (pss_cons (ps_if (PW.pt (pw_or (pt_not (pt_truth (pv 1) (by intro _; rfl))) (pw_or1 (pt_val (pe_m1 PySem.F.slot_str_startswith PySem.F.type_str_startswith mt_startswith (pv 2) (pe_glob (v := .str ofrom) (by rfl) mS ⟨_, rfl⟩))))))
          (pss_one (ps_expr (pe_bm PySem.F.plainAttrs_list PySem.F.slot_list_append PySem.F.type_list_append mt_append (pv 1) (pa_cons (pe_lst pa_nil) pa_nil)))) pss_nil)
        (pss_one (ps_expr (pe_bm PySem.F.plainAttrs_list PySem.F.slot_list_append PySem.F.type_list_append mt_append (pe_ix ix_list (pv 1) (pe_un un_neg pe_int) (fun _ _ => rfl)) (pa_cons (pv 2) pa_nil))))))
      (pss_one (ps_ret (pv 1))))), ?_⟩
    refine ⟨_, rfl, rfl, _, rfl, ?_⟩
    refine ite2 (fun he => ?_) (fun he => ?_)
    · have ez : z = "" := V.str.inj (of_decide_eq_true he)
      refine ⟨Nat.zero_le _, fun p np => ?_⟩
      refine q p _ (same_new np) ?_
      unfold partsOf
      rw [if_pos ez]
      exact ⟨[], upd_same, rfl, List.nodup_nil, List.not_mem_nil, np, fun a ha => absurd ha List.not_mem_nil, fun i a g hi _ => by cases hi⟩
    · have ez : ¬ z = "" := fun e => he (decide_eq_true (by rw [e]))
      refine ⟨Nat.zero_le _, fun p np => ?_⟩
      refine ⟨_, rfl, ⟨_, rfl⟩, _, _, rfl, rfl, rfl, hz, fun l nl => ?_⟩
      have eP : partsOf z = grp (Txt.split z "\n") := by
        unfold partsOf
        rw [if_neg ez]
      rw [eP] at q
      have g0 : Grps H (upd H p (.lst [])) p [] := ⟨[], upd_same, rfl, List.nodup_nil, List.not_mem_nil, np, fun a ha => absurd ha List.not_mem_nil, fun i a g hi _ => by cases hi⟩
      refine ⟨l, rfl, ⟨_, SqL.of upd_same⟩, ?_⟩
      generalize hws : Txt.split z "\n" = ws at *
      have nlp : l ≠ p := fun e => by rw [e, upd_same] at nl; cases nl
      have nlH : H l = none := by rw [upd_ne nlp] at nl; exact nl
      refine for_list (xs := ws.map V.str) (fun i σ H' => (∃ v, σ = [some (.str z), some (.ref p), v]) ∧ Same H H' ∧ H' l = some (.lst (ws.map V.str)) ∧ (∃ gs, gs = grp (ws.take i) ∧ Grps H H' p gs ∧ (∀ as : List Addr, H' p = some (.lst (as.map V.ref)) → l ∉ as) ∧ gs.length ≤ i ∧ ∀ g ∈ gs, g.length ≤ i)) ?_ (fun i σ H' _ h => SqL.of h.2.2.1) (fun i x σ H' hi h => ?_) (fun σ H' h => ?_)
      · refine ⟨⟨_, rfl⟩, (same_new np).trans (same_new nl), upd_same, [], rfl, ⟨[], by rw [upd_ne nlp.symm]; exact upd_same, rfl, List.nodup_nil, List.not_mem_nil, np, fun a ha => absurd ha List.not_mem_nil, fun i a g hi _ => by cases hi⟩, fun as has => ?_, Nat.le_refl _, fun g hg => absurd hg List.not_mem_nil⟩
        rw [upd_ne nlp.symm, upd_same] at has
        cases as with
        | nil => exact List.not_mem_nil
        | cons a r => cases has
      · obtain ⟨⟨v, rfl⟩, sm, hl, gs, eg, hg, hlas, n1, n2⟩ := h
        obtain ⟨r, hr1, rfl⟩ : ∃ r, ws[i]? = some r ∧ x = .str r := by
          rw [List.getElem?_map] at hi
          cases e : ws[i]? with
          | none => rw [e] at hi; cases hi
          | some r => rw [e] at hi; exact ⟨r, rfl, (Option.some.inj hi).symm⟩
        have hiw : i < ws.length := (List.getElem?_eq_some_iff.mp hr1).1
        have st : grp (ws.take (i + 1)) = addRow gs r := by rw [partsOf_step hr1, ← eg]
        have al := addRow_len (r := r) n1 n2
        obtain ⟨bs, h1, h2, h3, h4, h5, h6, h7⟩ := id hg
        have hfresh : ∀ q, H' q = none → l ≠ q := fun q nq e => by rw [← e, hl] at nq; cases nq
        refine ⟨_, rfl, _, .inl ⟨_, SqL.of h1, rfl⟩, ?_⟩
        have hpl : p ≠ l := nlp.symm
        cases gs with
        | nil =>
          cases bs with
          | cons _ _ => cases h2
          | nil =>
            refine iteT ?_
            refine ⟨_, rfl, .inl ⟨rfl, _, SqL.of h1⟩, Nat.zero_le _, fun q nq => ⟨p, _, _, rfl, rfl, (by rw [upd_ne (ne_of_none h1 nq)]; exact h1), (by show 0 < sizeLine; decide), ?_⟩⟩
            have hG := Grps.snoc sm nq h1 h2 h3 h4 h5 h6 h7
            have nq0 : H q = none := by
              cases e : H q with
              | none => rfl
              | some o => rw [sm _ _ e] at nq; cases nq
            have smG := same_old (o := .lst (([] : List Addr).map V.ref ++ [.ref q])) (same_old (o := .lst []) sm nq0) h5
            have hlG : (upd (upd H' q (.lst [])) p (.lst (([] : List Addr).map V.ref ++ [.ref q]))) l = some (.lst (ws.map V.str)) := by
              rw [upd_ne nlp, upd_ne (hfresh q nq)]
              exact hl
            have hlas : ∀ as : List Addr, (upd (upd H' q (.lst [])) p (.lst (([] : List Addr).map V.ref ++ [.ref q]))) p = some (.lst (as.map V.ref)) → l ∉ as := fun as has hm => by
              rw [upd_same] at has
              have zz := HO.lst.inj (Option.some.inj has)
              have me : (V.ref l) ∈ as.map V.ref := List.mem_map.mpr ⟨l, hm, rfl⟩
              rw [← zz] at me
              cases (List.mem_singleton.mp me)
              exact hfresh l nq rfl
            have e4 : [] ++ [[] ++ [r]] = grp (ws.take (i + 1)) := by
              rw [st]
              rfl
            have e5 : ([] ++ [[] ++ [r]] : List (List Str)).length ≤ i + 1 ∧ ∀ g ∈ ([] ++ [[] ++ [r]] : List (List Str)), g.length ≤ i + 1 := by
              rw [e4, st]
              exact al
            -- the row goes to the last list
            obtain ⟨as2, a, e1, e2, e3⟩ := Grps.last hG
            have nla : l ≠ a := fun e => hlas (as2 ++ [a]) (by rw [e1, List.map_append]; rfl) (by rw [e]; exact List.mem_append_right _ (List.mem_singleton.mpr rfl))
            have npa : p ≠ a := fun e => by
              have z := e2
              rw [← e, e1] at z
              cases hGG : ([] : List Str) with
              | nil => rw [hGG] at z; have zz := HO.lst.inj (Option.some.inj z); cases as2 with
                | nil => cases zz
                | cons _ _ => cases zz
              | cons x y => rw [hGG] at z; have zz := HO.lst.inj (Option.some.inj z); cases as2 with
                | nil => cases zz
                | cons _ _ => cases zz
            have na0 : H a = none := by
              obtain ⟨bs, b1, _, _, _, _, b6, _⟩ := hG
              refine b6 a ?_
              have zz := HO.lst.inj (Option.some.inj (e1.symm.trans b1))
              have me : (V.ref a) ∈ bs.map V.ref := by rw [← zz]; exact List.mem_append_right _ (List.mem_singleton.mpr rfl)
              obtain ⟨b, hb, eb⟩ := List.mem_map.mp me
              cases eb
              exact hb
            refine ⟨_, rfl, _, rfl, p, _, _, _, rfl, rfl, SqL.of e1, atI_last _ _, .inl ⟨rfl, _, SqL.of e2⟩, _, rfl, a, _, _, rfl, rfl, e2, (by show 0 < sizeLine; decide), ?_⟩
            refine ⟨⟨_, rfl⟩, same_old smG na0, by rw [upd_ne nla]; exact hlG, _, e4, e3 r, fun as has => ?_, ?_⟩
            · rw [upd_ne npa] at has
              exact hlas as has
            · exact e5
        | cons g0 gr =>
          cases bs with
          | nil => cases h2
          | cons b0 br =>
            refine iteF ?_
            refine ⟨_, rfl, ⟨_, rfl⟩, _, _, rfl, rfl, _, rfl, ?_⟩
            cases hs : Txt.startswith r ofrom with
            | true =>
              refine iteT ?_
              have hlen : (b0 :: br).length < sizeLine := by rw [h2]; omega
              refine ⟨_, rfl, .inl ⟨rfl, _, SqL.of h1⟩, Nat.zero_le _, fun q nq => ⟨p, _, _, rfl, rfl, (by rw [upd_ne (ne_of_none h1 nq)]; exact h1), (by rw [List.length_map]; exact hlen), ?_⟩⟩
              have hG := Grps.snoc sm nq h1 h2 h3 h4 h5 h6 h7
              have nq0 : H q = none := by
                cases e : H q with
                | none => rfl
                | some o => rw [sm _ _ e] at nq; cases nq
              have smG := same_old (o := .lst ((b0 :: br).map V.ref ++ [.ref q])) (same_old (o := .lst []) sm nq0) h5
              have hlG : (upd (upd H' q (.lst [])) p (.lst ((b0 :: br).map V.ref ++ [.ref q]))) l = some (.lst (ws.map V.str)) := by
                rw [upd_ne nlp, upd_ne (hfresh q nq)]
                exact hl
              have hlas : ∀ as : List Addr, (upd (upd H' q (.lst [])) p (.lst ((b0 :: br).map V.ref ++ [.ref q]))) p = some (.lst (as.map V.ref)) → l ∉ as := fun as has hm => by
                rw [upd_same] at has
                have zz := HO.lst.inj (Option.some.inj has)
                have me : (V.ref l) ∈ as.map V.ref := List.mem_map.mpr ⟨l, hm, rfl⟩
                rw [← zz] at me
                rcases List.mem_append.mp me with me | me
                · obtain ⟨b, hb, eb⟩ := List.mem_map.mp me
                  cases eb
                  exact hlas _ h1 hb
                · cases (List.mem_singleton.mp me)
                  exact hfresh l nq rfl
              have e4 : (g0 :: gr) ++ [[] ++ [r]] = grp (ws.take (i + 1)) := by
                rw [st]
                unfold addRow
                rw [if_pos (.inr hs)]
                rfl
              have e5 : ((g0 :: gr) ++ [[] ++ [r]] : List (List Str)).length ≤ i + 1 ∧ ∀ g ∈ ((g0 :: gr) ++ [[] ++ [r]] : List (List Str)), g.length ≤ i + 1 := by
                rw [e4, st]
                exact al
              -- the row goes to the last list
              obtain ⟨as2, a, e1, e2, e3⟩ := Grps.last hG
              have nla : l ≠ a := fun e => hlas (as2 ++ [a]) (by rw [e1, List.map_append]; rfl) (by rw [e]; exact List.mem_append_right _ (List.mem_singleton.mpr rfl))
              have npa : p ≠ a := fun e => by
                have z := e2
                rw [← e, e1] at z
                cases hGG : ([] : List Str) with
                | nil => rw [hGG] at z; have zz := HO.lst.inj (Option.some.inj z); cases as2 with
                  | nil => cases zz
                  | cons _ _ => cases zz
                | cons x y => rw [hGG] at z; have zz := HO.lst.inj (Option.some.inj z); cases as2 with
                  | nil => cases zz
                  | cons _ _ => cases zz
              have na0 : H a = none := by
                obtain ⟨bs, b1, _, _, _, _, b6, _⟩ := hG
                refine b6 a ?_
                have zz := HO.lst.inj (Option.some.inj (e1.symm.trans b1))
                have me : (V.ref a) ∈ bs.map V.ref := by rw [← zz]; exact List.mem_append_right _ (List.mem_singleton.mpr rfl)
                obtain ⟨b, hb, eb⟩ := List.mem_map.mp me
                cases eb
                exact hb
              refine ⟨_, rfl, _, rfl, p, _, _, _, rfl, rfl, SqL.of e1, atI_last _ _, .inl ⟨rfl, _, SqL.of e2⟩, _, rfl, a, _, _, rfl, rfl, e2, (by show 0 < sizeLine; decide), ?_⟩
              refine ⟨⟨_, rfl⟩, same_old smG na0, by rw [upd_ne nla]; exact hlG, _, e4, e3 r, fun as has => ?_, ?_⟩
              · rw [upd_ne npa] at has
                exact hlas as has
              · exact e5
            | false =>
              refine iteF ?_
              have hne : g0 :: gr ≠ [] := List.cons_ne_nil _ _
              have eL : (g0 :: gr).dropLast ++ [(g0 :: gr).getLast hne] = g0 :: gr := List.dropLast_concat_getLast hne
              have hG : Grps H H' p ((g0 :: gr).dropLast ++ [(g0 :: gr).getLast hne]) := by rw [eL]; exact hg
              have hgl : ((g0 :: gr).getLast hne).length ≤ i := n2 _ (List.getLast_mem hne)
              have smG := sm
              have hlG := hl
              have e4 : (g0 :: gr).dropLast ++ [(g0 :: gr).getLast hne ++ [r]] = grp (ws.take (i + 1)) := by
                rw [st]
                unfold addRow
                rw [if_neg (fun e => e.elim hne (fun z => by rw [hs] at z; cases z)), List.getLast?_eq_some_getLast hne]
                rfl
              have e5 : ((g0 :: gr).dropLast ++ [(g0 :: gr).getLast hne ++ [r]] : List (List Str)).length ≤ i + 1 ∧ ∀ g ∈ ((g0 :: gr).dropLast ++ [(g0 :: gr).getLast hne ++ [r]] : List (List Str)), g.length ≤ i + 1 := by
                rw [e4, st]
                exact al
              -- the row goes to the last list
              obtain ⟨as2, a, e1, e2, e3⟩ := Grps.last hG
              have nla : l ≠ a := fun e => hlas (as2 ++ [a]) (by rw [e1, List.map_append]; rfl) (by rw [e]; exact List.mem_append_right _ (List.mem_singleton.mpr rfl))
              have npa : p ≠ a := fun e => by
                have z := e2
                rw [← e, e1] at z
                cases hGG : (g0 :: gr).getLast hne with
                | nil => rw [hGG] at z; have zz := HO.lst.inj (Option.some.inj z); cases as2 with
                  | nil => cases zz
                  | cons _ _ => cases zz
                | cons x y => rw [hGG] at z; have zz := HO.lst.inj (Option.some.inj z); cases as2 with
                  | nil => cases zz
                  | cons _ _ => cases zz
              have na0 : H a = none := by
                obtain ⟨bs, b1, _, _, _, _, b6, _⟩ := hG
                refine b6 a ?_
                have zz := HO.lst.inj (Option.some.inj (e1.symm.trans b1))
                have me : (V.ref a) ∈ bs.map V.ref := by rw [← zz]; exact List.mem_append_right _ (List.mem_singleton.mpr rfl)
                obtain ⟨b, hb, eb⟩ := List.mem_map.mp me
                cases eb
                exact hb
              refine ⟨_, rfl, _, rfl, p, _, _, _, rfl, rfl, SqL.of e1, atI_last _ _, .inl ⟨rfl, _, SqL.of e2⟩, _, rfl, a, _, _, rfl, rfl, e2, (by rw [List.length_map]; omega), ?_⟩
              refine ⟨⟨_, rfl⟩, same_old smG na0, by rw [upd_ne nla]; exact hlG, _, e4, e3 r, fun as has => ?_, ?_⟩
              · rw [upd_ne npa] at has
                exact hlas as has
              · exact e5
      · obtain ⟨⟨v, rfl⟩, sm, _, gs, e, hg, _⟩ := h
        rw [List.length_map, List.take_length] at e
        rw [e] at hg
        exact ⟨_, rfl, q p H' sm hg⟩
end
end Sq.N3
namespace Sq.N3
open PySem L2 TL
abbrev sNestOf : Stmt := top 53
theorem pe_never {X : Cx} {e : Expr} : PE X e (fun _ _ _ => False) := ⟨fun _ _ _ _ _ _ h => h.elim⟩
/-- a def of the module that keeps a promise -/
def Kn (P : Program) (w : World) (K : PySem.W.Frag) (mg : Str → Option Value) (base : Heap) (x : Str) (k : Nat) (ps : List Str) (sp : Sp) : Prop :=
  ∃ f d, mg x = some (.ref f) ∧ PySem.W.keepIn K (.ref f) = true ∧ Binds K d ps [] ∧ FnOk P w K mg base CX0 k f d ps sp
theorem cut_len (x y : Str) : (Txt.removeprefix x y).length ≤ x.length := by
  unfold Txt.removeprefix Txt.affix
  split
  · split
    · exact Nat.le_refl _
    · rw [len_tl, tl_strSub, List.length_take, List.length_drop, len_tl x]
      omega
  · exact Nat.le_refl _
theorem any_behind {K : PySem.W.Frag} {H : Hp} (y x : Str) (h : x.length + 2 ≤ sizeLine) : Any K H (behindV y x) := by
  unfold behindV
  split
  · exact .inl ⟨_, rfl, Nat.le_trans (Nat.add_le_add_right (cut_len x y) 2) h⟩
  · exact .inr ⟨fun z e => V.noConfusion e, .type "NoneType", .base .non, kit_ty (by decide +kernel)⟩
def nestB : List Str → Bool
  | o :: i :: ds => okLoop obs (behindV ofrom o) && (okLoop (obs ++ ibs) (behindV jfrom i) && decide (fw 0 6 (ds.map deedB) = none))
  | _ => false
theorem nestB_cons (o i : Str) (ds : List Str) : nestB (o :: i :: ds) = (okLoop obs (behindV ofrom o) && (okLoop (obs ++ ibs) (behindV jfrom i) && decide (fw 0 6 (ds.map deedB) = none))) := rfl
theorem optV_non (o : Option Nat) : decide (optV o = .non) = decide (o = none) := by
  cases o with
  | none => rfl
  | some i => rfl
section
variable {P : Program} {w : World} {K : PySem.W.Frag} {mg : Str → Option Value} {base : Heap} {fF fD : Addr} {dF dD : FuncData}
/-- what the readers of texts call -/
structure Rd1 (P : Program) (w : World) (K : PySem.W.Frag) (mg : Str → Option Value) (base : Heap) : Prop where
  behind : Kn P w K mg base "behind" 1 ["start", "row"] spBehind
  rows : Kn P w K mg base "rows_by_nest" 1 ["text"] (spRowsBy K)
  mS : ∃ u, mg "OUTER_START" = some (.str ofrom u)
  mJ : ∃ u, mg "INNER_START" = some (.str jfrom u)
  mM : ∃ u, mg "MOST_NESTS" = some (.int 4 u)

def progB (z : Str) : Bool := decide ((partsOf z).length ≤ 4) && (partsOf z).all nestB
/-- texts of a size that may be read -/
structure TextOk (z : Str) : Prop where
  lz : z.length + 2 ≤ sizeLine
  ln : (Txt.split z "\n").length ≤ 1000
  lr : ∀ r ∈ Txt.split z "\n", r.length ≤ 2000
theorem addRow_in {gs : List (List Str)} {r : Str} {A : Str → Prop} (h : ∀ g ∈ gs, ∀ x ∈ g, A x) (hr : A r) : ∀ g ∈ addRow gs r, ∀ x ∈ g, A x := by
  unfold addRow
  split
  · intro g hg x hx
    rcases List.mem_append.mp hg with e | e
    · exact h g e x hx
    · rw [List.mem_singleton.mp e] at hx
      rw [List.mem_singleton.mp hx]
      exact hr
  · rename_i hn
    have hne : gs ≠ [] := fun e => hn (.inl e)
    intro g hg x hx
    rcases List.mem_append.mp hg with e | e
    · exact h g (List.dropLast_subset _ e) x hx
    · rw [List.mem_singleton.mp e, List.getLast?_eq_some_getLast hne] at hx
      rcases List.mem_append.mp hx with e2 | e2
      · exact h _ (List.getLast_mem hne) x e2
      · rw [List.mem_singleton.mp e2]
        exact hr
theorem grp_in {A : Str → Prop} : ∀ (rows : List Str) (gs : List (List Str)), (∀ g ∈ gs, ∀ x ∈ g, A x) → (∀ r ∈ rows, A r) → ∀ g ∈ rows.foldl addRow gs, ∀ x ∈ g, A x
  | [], _, h, _ => h
  | r :: rows, gs, h, hr => grp_in rows (addRow gs r) (addRow_in h (hr r List.mem_cons_self)) fun x hx => hr x (List.mem_cons_of_mem _ hx)
theorem grp_lens : ∀ (rows : List Str) (gs : List (List Str)) (i : Nat), gs.length ≤ i → (∀ g ∈ gs, g.length ≤ i) → (rows.foldl addRow gs).length ≤ i + rows.length ∧ ∀ g ∈ rows.foldl addRow gs, g.length ≤ i + rows.length
  | [], _, _, h1, h2 => ⟨h1, h2⟩
  | r :: rows, gs, i, h1, h2 => by
    have z := addRow_len (r := r) h1 h2
    have y := grp_lens rows (addRow gs r) (i + 1) z.1 z.2
    rw [List.length_cons, show i + (rows.length + 1) = i + 1 + rows.length by omega]
    exact y
theorem parts_rows {z : Str} (h : TextOk z) : (partsOf z).length ≤ 1000 ∧ ∀ g ∈ partsOf z, g.length ≤ 1000 ∧ ∀ r ∈ g, r.length ≤ 2000 := by
  unfold partsOf
  split
  · exact ⟨by decide, fun g hg => absurd hg List.not_mem_nil⟩
  · have y := grp_lens (Txt.split z "\n") [] 0 (Nat.le_refl _) (fun g hg => absurd hg List.not_mem_nil)
    have hn := h.ln
    refine ⟨by unfold grp; omega, fun g hg => ⟨by have := y.2 g hg; omega, ?_⟩⟩
    exact grp_in (A := fun r => r.length ≤ 2000) _ [] (fun g hg => absurd hg List.not_mem_nil) h.lr g hg
theorem Grps.ext {H0 H H' : Hp} {p : Addr} {gs : List (List Str)} (e : Same H H') (h : Grps H0 H p gs) : Grps H0 H' p gs := by
  obtain ⟨as, h1, h2, h3, h4, h5, h6, h7⟩ := h
  exact ⟨as, e _ _ h1, h2, h3, h4, h5, h6, fun i a g hi hg => e _ _ (h7 i a g hi hg)⟩
end
end Sq.N3
namespace Sq.N3
open PySem L2 TL
abbrev sPInit : Stmt := inClass (top 50) 0
abbrev sPRead : Stmt := inClass (top 50) 1
abbrev sPNests : Stmt := inClass (top 50) 2
abbrev NestD := Str × Str × List Str
def NestIs (C : Addr) (H : Hp) (a : Addr) (n : NestD) : Prop := NestAt C H a n.1 n.2.1 n.2.2
/-- nests that may be made -/
structure NestOk (n : NestD) : Prop where
  l1 : n.1.length + 2 ≤ sizeLine
  l2 : n.2.1.length + 2 ≤ sizeLine
  b1 : loopB obs n.1 = true
  b2 : loopB (obs ++ ibs) n.2.1 = true
  ds : deedsOk n.2.2
theorem made_deeds {K : PySem.W.Frag} {C x dx : Addr} {H : Hp} {n : NestD} {R : Hp → Prop} {E : XK} (nx : H x = none) (ndx : H dx = none) (h : NestOk n) (q : ∀ H', Same H H' → NestIs C H' x n → R H') :
    spMade K C (.ref x :: .str n.1 :: .str n.2.1 :: n.2.2.map V.str) (upd (upd H dx (.own x)) x (.ins C dx [])) (fun v H2 => v = .non ∧ R H2) E := by
  have hl := deeds_len h.ds
  refine ⟨[.ref x, .str n.1, .str n.2.1], n.2.2.map V.str, rfl, rfl, (by rw [List.length_map]; exact Nat.le_trans hl (by decide)), fun p np => ?_⟩
  have npx : p ≠ x := fun e => by rw [e, upd_same] at np; cases np
  refine ⟨x, dx, p, n.1, n.2.1, n.2.2, rfl, by rw [upd_ne npx.symm]; exact upd_same, upd_same, h.l1, h.l2, h.b1, h.b2, h.ds, fun R H' rd hx off => ⟨rfl, q H' (fun b o e => ?_) ⟨dx, p, ⟨R, hx⟩, off p _ npx upd_same⟩⟩⟩
  have nbx : b ≠ x := ne_of_none e nx
  have nbd : b ≠ dx := ne_of_none e ndx
  refine off b o nbx ?_
  have e1 : (upd (upd H dx (.own x)) x (.ins C dx [])) b = some o := by rw [upd_ne nbx, upd_ne nbd]; exact e
  rw [upd_ne (ne_of_none e1 np)]
  exact e1
def nestOf : List Str → NestD
  | o :: i :: ds => (Txt.removeprefix o ofrom, Txt.removeprefix i jfrom, ds)
  | _ => ("", "", [])
theorem behind_str {bs : List Str} {y x : Str} (h : okLoop bs (behindV y x) = true) : behindV y x = .str (Txt.removeprefix x y) ∧ loopB bs (Txt.removeprefix x y) = true := by
  unfold behindV at h ⊢
  split
  · rename_i e
    rw [if_pos e] at h
    exact ⟨rfl, h⟩
  · rename_i e
    rw [if_neg e] at h
    cases h
theorem nest_rows {g : List Str} (h : nestB g = true) (hz : ∀ r ∈ g, r.length ≤ 2000) : ∃ o i ds, g = o :: i :: ds ∧ behindV ofrom o = .str (nestOf g).1 ∧ behindV jfrom i = .str (nestOf g).2.1 ∧ (nestOf g).2.2 = ds ∧ NestOk (nestOf g) := by
  match g, h, hz with
  | o :: i :: ds, h, hz =>
    rw [nestB_cons] at h
    obtain ⟨h1, h⟩ := Bool.and_eq_true_iff.mp h
    obtain ⟨h2, h3⟩ := Bool.and_eq_true_iff.mp h
    obtain ⟨a1, a2⟩ := behind_str h1
    obtain ⟨b1, b2⟩ := behind_str h2
    have ho := hz o List.mem_cons_self
    have hi := hz i (List.mem_cons_of_mem _ List.mem_cons_self)
    have big : 3000 ≤ sizeLine := by decide
    have c1 := cut_len o ofrom
    have c2 := cut_len i jfrom
    exact ⟨o, i, ds, rfl, a1, b1, rfl, ⟨by show (Txt.removeprefix o ofrom).length + 2 ≤ _; omega, by show (Txt.removeprefix i jfrom).length + 2 ≤ _; omega, a2, b2, fun d hd => hz d (List.mem_cons_of_mem _ (List.mem_cons_of_mem _ hd)), of_decide_eq_true h3⟩⟩
/-- a program stands at a -/
def ProgAt (CP CN : Addr) (H : Hp) (a : Addr) (ns : List NestD) : Prop := ∃ dx tp, ∃ xs : List Addr, H a = some (.ins CP dx (putF "_nests" (.ref tp) [])) ∧ H tp = some (.tup (xs.map V.ref)) ∧ xs.length = ns.length ∧ ∀ (i : Nat) (x : Addr) (n : NestD), xs[i]? = some x → ns[i]? = some n → NestIs CN H x n
theorem ProgAt.ext {CP CN : Addr} {H H' : Hp} {a : Addr} {ns : List NestD} (e : Same H H') (h : ProgAt CP CN H a ns) : ProgAt CP CN H' a ns := by
  obtain ⟨dx, tp, xs, h1, h2, h3, h4⟩ := h
  exact ⟨dx, tp, xs, e _ _ h1, e _ _ h2, h3, fun i x n hx hn => (h4 i x n hx hn).ext e⟩
def spPInit (CP CN : Addr) : Sp := fun vs H Q _ => ∃ (x dx tp : Addr) (xs : List Addr), vs = [.ref x, .ref tp] ∧ H x = some (.ins CP dx []) ∧ H tp = some (.tup (xs.map V.ref)) ∧ xs.length ≤ 4 ∧ (∀ y ∈ xs, ∃ dy fs, H y = some (.ins CN dy fs)) ∧
  ∀ H' : Hp, H' x = some (.ins CP dx (putF "_nests" (.ref tp) [])) → Off x H H' → Q .non H'
def spPMade (CP CN : Addr) : Sp := fun vs H Q E => ∃ ws rest, vs = ws ++ rest ∧ ws.length = (["self"] : List Str).length ∧ rest.length ≤ sizeLine ∧ ∀ p, H p = none → spPInit CP CN (ws ++ [V.ref p]) (upd H p (.tup rest)) Q E
def nestsOf (z : Str) : List NestD := (partsOf z).map nestOf
def spPRead (CP CN : Addr) : Sp := fun vs H Q _ => ∃ z : Str, vs = [.ref CP, .str z] ∧ TextOk z ∧ progB z = true ∧ ∀ (x : Addr) (H' : Hp), Same H H' → ProgAt CP CN H' x (nestsOf z) → Q (.ref x) H'
def spNestOf (K : PySem.W.Frag) (C : Addr) : Sp := fun vs H Q _ => ∃ (l : Addr) (g : List Str), vs = [.ref l] ∧ SqL K H l (g.map V.str) ∧ nestB g = true ∧ (∀ r ∈ g, r.length ≤ 2000) ∧ ∀ (x : Addr) (H' : Hp), Same H H' → NestIs C H' x (nestOf g) → Q (.ref x) H'
/-- all that is known of the class Program -/
structure Pc (K : PySem.W.Frag) (C : Addr) : Prop where
  cl : Cls K C
  nN : NoAttr K C "_nests"
section
variable {P : Program} {w : World} {K : PySem.W.Frag} {mg : Str → Option Value} {base : Heap} {C CP : Addr}
theorem scNestOf : FnScope ["rows", "outer", "inner", "deeds"] ["rows"] (defScope sNestOf) := ⟨rfl, rfl, rfl, by decide +kernel, rfl, by decide +kernel, by decide +kernel⟩
theorem ok_nestOf {f fi : Addr} {fd : FuncData} (F : Fun K "nest_of_rows" "nest_of_rows" sNestOf f fd) (T : Bt mg) (R : Rd1 P w K mg base) (mN : mg "Nest" = some (.ref C)) (mk : Mk K C fi) (GR : FnR P w K mg base CX0 4 fi (spMade K C)) : FnOk P w K mg base CX0 6 f fd ["rows"] (spNestOf K C) := by
  obtain ⟨fB, dB, mB, kB, bB, GB⟩ := R.behind
  obtain ⟨u1, mS⟩ := R.mS
  obtain ⟨u2, mJ⟩ := R.mJ
  refine F.ok scNestOf (fun vs H Q E h => ?_) (fun cdv A outer s H vs Q E hr h => ?_)
  · obtain ⟨l, g, rfl, _⟩ := h
    rfl
  · obtain ⟨l, g, rfl, hl, hg, hz, q⟩ := h
    have hr1 := hr.mono (show 1 ≤ 5 by decide)
    have big : 3000 ≤ sizeLine := by decide
    refine ⟨_, pss_cons (ps_asg (pe_ifExp (pt_cmpR op_gt (pe_callB call_len_seq (by rfl) T.len PySem.boot_len (pa_cons (pv 0) pa_nil)) pe_int (nomark _)) (pv 0) pe_never) (pg_starL (i := 2) rfl (pgs_cons (pg_name (i := 1) scNestOf.nd rfl (.inl rfl)) (pgs_cons (pg_name (i := 2) scNestOf.nd rfl (.inl rfl)) (pgs_star (pg_name (i := 3) scNestOf.nd rfl (.inl rfl)))))))
      (pss_one (ps_ret (pe_makeS2 mk GR hr (by rfl) mN pass0 (pa_cons (pe_call GB hr1 (by rfl) mB kB bB .nil pass0 (pa_cons (pe_glob (v := .str ofrom) (by rfl) mS ⟨_, rfl⟩) (pa_cons (pv 1) pa_nil)))
        (pa_cons (pe_call GB hr1 (by rfl) mB kB bB .nil pass0 (pa_cons (pe_glob (v := .str jfrom) (by rfl) mJ ⟨_, rfl⟩) (pa_cons (pv 2) pa_nil))) (StX.pa_star (pv 3) pa_nil)))))), ?_⟩
    obtain ⟨o, i, ds, rfl, e1, e2, e3, ok⟩ := nest_rows hg hz
    have ho := hz o List.mem_cons_self
    have hi := hz i (List.mem_cons_of_mem _ List.mem_cons_self)
    refine ⟨_, rfl, l, _, rfl, .inl hl, _, _, rfl, rfl, _, rfl, ?_⟩
    rw [decide_eq_true (by rw [List.length_map]; show (1 : Int) < ((ds.length + 1 + 1 : Nat) : Int); omega)]
    refine iteT ?_
    refine ⟨_, rfl, l, _, rfl, hl, (by rw [List.length_map]; show 2 ≤ (ds.length + 1) + 1; omega), fun D nD => ?_⟩
    refine ⟨_, _, rfl, _, _, rfl, _, _, rfl, rfl, ?_⟩
    refine ⟨_, rfl, ofrom, o, rfl, by omega, _, rfl, jfrom, i, rfl, by omega, _, rfl, D, ds.map V.str, rfl, .inr (SqL.of upd_same), ?_⟩
    rw [e1, e2]
    have s1 := same_new (o := .lst (((o :: i :: ds).map V.str).drop 2)) nD
    refine fun x dx nx ndx _ => ?_
    have z := made_deeds (K := K) (C := C) (n := nestOf (o :: i :: ds)) (R := fun H' => Q (.ref x) H') (E := E0) nx ndx ok fun H' s2 n => q x H' (s1.trans s2) n
    rw [List.append_nil]
    exact z
theorem scPInit : FnScope ["self", "nests", "index", "nest"] ["self", "nests"] (defScope sPInit) := ⟨rfl, rfl, rfl, by decide +kernel, rfl, by decide +kernel, by decide +kernel⟩
theorem ok_pinitR {f : Addr} {fd : FuncData} (F : Fun K "__init__" "Program.__init__" sPInit f fd) (N : Pc K CP) (Cn : Cls K C) (I : Isn K C) (mN : mg "Nest" = some (.ref C)) (Ck : Ck K mg) (R : Rd1 P w K mg base) (KF : Kn P w K mg base "first_wrong" 1 ["rights", "most"] (spFirst K)) :
    FnR P w K mg base CX0 2 f (spPMade CP C) := by
  obtain ⟨fF, dF, mF, kF, bF, GF⟩ := KF
  obtain ⟨u1, mM⟩ := R.mM
  obtain ⟨oc, od, kV, doc, pm, an, cdv, ct, osl, rfl, lk, hcd⟩ := F.ex
  refine StX.fn_star (ps := ["self"]) (pv := "nests") (sp := spPInit CP C) lk hcd scPInit StX.cxUp_none (fun us rest hl => ?_) fun A outer s H vs Q E hr h => ?_
  · match us, rest, hl with
    | [a], [], _ => rfl
    | [a], r :: rs, _ => rfl
  · obtain ⟨x, dx, tp, xs, rfl, hx, ht, hn, hins, q⟩ := h
    refine ⟨_, pss_cons (ps_set (i := 2) scPInit.nd rfl (.inl rfl) (pe_call GF hr (by rfl) mF kF bF .nil pass0 (pa_cons (pe_lc (own := [("nest", 3)]) (g := gName 3) (by rfl) scPInit.nd (pi_tup (pv 1))
      (blkOk_by (own := [("nest", 3)]) (N := ["self", "nests", "index", "nest"]) (sc := defScope sPInit) (by decide +kernel)) (fun _ _ _ _ _ => pg_name (i := 3) scPInit.nd rfl (Or.inl rfl)) (fun _ _ _ _ _ => pts_nil)
      (fun _ _ _ _ _ => (show PE _ _ (tCB (rIsi K) (tCons (tVar 3) (tCons (tC (V.ref C)) tNil))) from pe_callB call_isi (by rfl) Ck.isinstance (by decide +kernel) (pa_cons (pv 3) (pa_cons (pe_glob (v := .ref C) (by rfl) mN rfl) pa_nil))))) (pa_cons (pe_glob (v := .int 4) (by rfl) mM ⟨_, rfl⟩) pa_nil))))
      (pss_cons (ps_if (pt_cmpR op_notN (pv 2) pe_non (nomark _)) (pss_one ps_never) pss_nil)
      (pss_one (ps_fld (pv 0) (pv 1) rfl))), ?_⟩
    refine ⟨_, rfl, tp, rfl, ⟨_, SqT.of ht⟩, fun D hD => ?_⟩
    refine lc_tup (K := K) (a := tp) (xs := xs.map V.ref) (fun i H' => Same H H' ∧ H' D = some (.lst (((xs.take i).map (fun _ => true)).map V.bl))) ⟨same_new hD, upd_same⟩ (fun i H' _ h => (SqT.of ht).ext h.1) (fun i y H' hi h => ?_) (fun H' h => ?_)
    · obtain ⟨sm, hL⟩ := h
      refine ⟨rfl, ?_⟩
      obtain ⟨a, ha, rfl⟩ : ∃ a, xs[i]? = some a ∧ y = .ref a := by
        rw [List.getElem?_map] at hi
        cases e : xs[i]? with
        | none => rw [e] at hi; cases hi
        | some r => rw [e] at hi; exact ⟨r, rfl, (Option.some.inj hi).symm⟩
      obtain ⟨dy, fs, hy⟩ := hins a (List.mem_of_getElem? ha)
      refine ⟨_, rfl, _, _, .ref C, .ref C, true, rfl, .own C, .base (.ins (sm _ _ hy) Cn I.c1 I.c2 I.c3 I.c4), kit_self K C, _, hL, ?_, ?_, ?_⟩
      · rw [List.length_map, List.length_map, List.length_take]
        exact Nat.lt_of_le_of_lt (Nat.min_le_right _ _) (Nat.lt_of_le_of_lt hn (by decide))
      · intro c o hc
        rw [upd_ne (fun e => by rw [e, hD] at hc; cases hc)]
        exact sm c o hc
      · rw [upd_same, List.take_add_one, ha, List.map_append, List.map_append]
        rfl
    · obtain ⟨sm, hL⟩ := h
      rw [List.length_map, List.take_length] at hL
      refine ⟨D, 4, _, rfl, SqL.of hL, fun H2 s2 => ?_⟩
      have ef : fw 0 4 (xs.map fun _ => true) = none := fw_none _ _ _ (fun b hb => by obtain ⟨_, _, e⟩ := List.mem_map.mp hb; exact e.symm) (by rw [List.length_map]; omega)
      rw [ef]
      refine ⟨_, rfl, rfl, _, rfl, ?_⟩
      refine iteF ?_
      have hx2 := s2 _ _ (sm _ _ hx)
      refine ⟨_, rfl, _, rfl, x, CP, dx, _, rfl, hx2, N.cl, N.nN, (by show 0 < 1000; decide), ?_⟩
      refine q _ upd_same fun b u hb e => ?_
      rw [upd_ne hb]
      exact s2 _ _ (sm _ _ e)
theorem scPNests : FnScope ["self"] ["self"] (defScope sPNests) := ⟨rfl, rfl, rfl, by decide +kernel, rfl, by decide +kernel, by decide +kernel⟩
theorem ok_pnests {f : Addr} {fd : FuncData} (F : Fun K "nests" "Program.nests" sPNests f fd) (N : Pc K CP) : FnOk P w K mg base CX0 1 f fd ["self"] (getSp CP "_nests") := by
  obtain ⟨oc, od, kV, doc, pm, an, cdv, ct, osl, rfl, lk, hcd⟩ := F.ex
  exact fn_getter lk hcd scPNests rfl rfl N.cl N.nN
theorem made_prog {x dx : Addr} {H : Hp} {xs : List Addr} {R : Hp → Prop} {E : XK} (nx : H x = none) (ndx : H dx = none) (hn : xs.length ≤ 4) (hy : ∀ y ∈ xs, ∃ dy fs, H y = some (.ins C dy fs))
    (q : ∀ H' tp, Same H H' → H' x = some (.ins CP dx (putF "_nests" (.ref tp) [])) → H' tp = some (.tup (xs.map V.ref)) → R H') :
    spPMade CP C (.ref x :: xs.map V.ref) (upd (upd H dx (.own x)) x (.ins CP dx [])) (fun v H2 => v = .non ∧ R H2) E := by
  refine ⟨[.ref x], xs.map V.ref, rfl, rfl, (by rw [List.length_map]; exact Nat.le_trans hn (by decide)), fun p np => ?_⟩
  have npx : p ≠ x := fun e => by rw [e, upd_same] at np; cases np
  have up : ∀ b o, H b = some o → (upd (upd (upd H dx (.own x)) x (.ins CP dx [])) p (.tup (xs.map V.ref))) b = some o := fun b o e => by
    have nbx : b ≠ x := ne_of_none e nx
    have nbd : b ≠ dx := ne_of_none e ndx
    have e1 : (upd (upd H dx (.own x)) x (.ins CP dx [])) b = some o := by rw [upd_ne nbx, upd_ne nbd]; exact e
    rw [upd_ne (ne_of_none e1 np)]
    exact e1
  refine ⟨x, dx, p, xs, rfl, by rw [upd_ne npx.symm]; exact upd_same, upd_same, hn, fun y my => ?_, fun H' hx off => ⟨rfl, q H' p (fun b o e => off b o (ne_of_none e nx) (up b o e)) hx (off p _ npx upd_same)⟩⟩
  obtain ⟨dy, fs, e⟩ := hy y my
  exact ⟨dy, fs, up y _ e⟩
theorem scPRead : FnScope ["cls", "text", "nests", "rows"] ["cls", "text"] (defScope sPRead) := ⟨rfl, rfl, rfl, by decide +kernel, rfl, by decide +kernel, by decide +kernel⟩
theorem ok_pread {f fi : Addr} {fd : FuncData} (F : Fun K "read" "Program.read" sPRead f fd) (R : Rd1 P w K mg base) (Cc : Ck K mg) (KN : Kn P w K mg base "nest_of_rows" 6 ["rows"] (spNestOf K C))
    (mk : Mk K CP fi) (GI : FnR P w K mg base CX0 2 fi (spPMade CP C)) : FnOk P w K mg base CX0 7 f fd ["cls", "text"] (spPRead CP C) := by
  obtain ⟨fR, dR, mR, kR, bR, GR⟩ := R.rows
  obtain ⟨fN, dN, mN, kN, bN, GN⟩ := KN
  refine F.ok scPRead (fun vs H Q E h => ?_) (fun cdv A outer s H vs Q E hr h => ?_)
  · obtain ⟨z, rfl, _⟩ := h
    rfl
  · obtain ⟨z, rfl, hz, hp, q⟩ := h
    have hr1 := hr.mono (show 1 ≤ 6 by decide)
    have hr3 := hr.mono (show 3 ≤ 6 by decide)
    have hr5 := hr.mono (show 5 ≤ 6 by decide)
    refine ⟨_, pss_cons (ps_if (pt_not (pt_val (pe_callB call_isi (by rfl) Cc.isinstance (by decide +kernel) (pa_cons (pv 1) (pa_cons (pe_bltn (v := .ty "str") (by rfl) Cc.str (by decide +kernel) rfl) pa_nil))))) (pss_one ps_never) pss_nil)
      (pss_one (ps_try_thru0 (pss_cons (ps_setLc (i := 2) (own := [("rows", 3)]) (g := gName 3) (by rfl) scPRead.nd rfl rfl (sw_true rfl rfl rfl (by decide +kernel)) (pi_list (pe_call GR hr1 (by rfl) mR kR bR .nil pass0 (pa_cons (pv 1) pa_nil)))
          (blkOk_by (own := [("rows", 3)]) (N := ["cls", "text", "nests", "rows"]) (sc := defScope sPRead) (by decide +kernel)) (fun _ _ _ _ _ => pg_name (i := 3) scPRead.nd rfl (Or.inl rfl)) (fun _ _ _ _ _ => pts_nil)
          (fun _ _ _ _ _ => pe_call GN hr (by rfl) mN kN bN .nil pass0 (pa_cons (pv 3) pa_nil)))
      (pss_one (ps_ret (pe_makeSL (i := 0) mk GI hr3 rfl (.inl rfl) pass0 (pv 2))))))), ?_⟩
    refine ⟨_, rfl, _, _, .type "str", _, true, rfl, .ty "str", .base (.str z), kit_ty (by decide +kernel), true, rfl, ?_⟩
    refine iteF ?_
    have s1 : Same H H := Same.refl H
    obtain ⟨hp4, hpB⟩ := Bool.and_eq_true_iff.mp hp
    have hp4 : (partsOf z).length ≤ 4 := of_decide_eq_true hp4
    have hpB : ∀ g ∈ partsOf z, nestB g = true := fun g hg => List.all_eq_true.mp hpB g hg
    refine ⟨_, rfl, z, rfl, hz.lz, Nat.lt_of_le_of_lt hz.ln (by decide), fun r hr => Nat.le_trans (hz.lr r hr) (by decide), fun p H2 s2 hg => ?_⟩
    obtain ⟨as, h1, h2, h3, h4, h5, h6, h7⟩ := id hg
    obtain ⟨l1, l2⟩ := parts_rows hz
    refine ⟨p, rfl, ⟨_, SqL.of h1⟩, fun D hD => ?_⟩
    refine lc_list (K := K) (a := p) (xs := as.map V.ref) (fun i H' => Same H2 H' ∧ ∃ xs : List Addr, H' D = some (.lst (xs.map V.ref)) ∧ xs.length = i ∧ ∀ (j : Nat) (x : Addr) (n : NestD), xs[j]? = some x → (nestsOf z)[j]? = some n → NestIs C H' x n)
      ⟨same_new hD, [], upd_same, rfl, fun j x n hx _ => by cases hx⟩ (fun i H' _ h => (SqL.of h1).ext h.1) (fun i x H' hi h => ?_) (fun H' h => ?_)
    · obtain ⟨sm, xs, hL, hxl, hxs⟩ := h
      refine ⟨rfl, ?_⟩
      obtain ⟨a, ha, rfl⟩ : ∃ a, as[i]? = some a ∧ x = .ref a := by
        rw [List.getElem?_map] at hi
        cases e : as[i]? with
        | none => rw [e] at hi; cases hi
        | some r => rw [e] at hi; exact ⟨r, rfl, (Option.some.inj hi).symm⟩
      have hil : i < (partsOf z).length := by rw [← h2]; exact (List.getElem?_eq_some_iff.mp ha).1
      have hgi : (partsOf z)[i]? = some (partsOf z)[i] := List.getElem?_eq_getElem hil
      have ng := l2 _ (List.getElem_mem hil)
      refine ⟨_, rfl, a, (partsOf z)[i], rfl, (SqL.of (h7 i a _ ha hgi)).ext sm, hpB _ (List.getElem_mem hil), ng.2, fun x H3 s3 hx => ⟨_, s3 _ _ hL, ?_, ?_, ?_⟩⟩
      · rw [List.length_map, hxl]
        exact Nat.lt_of_lt_of_le (Nat.lt_of_lt_of_le hil hp4) (by decide)
      · intro c o hc
        rw [upd_ne (fun e => by rw [e, hD] at hc; cases hc)]
        exact s3 c o (sm c o hc)
      · have up : ∀ y n, NestIs C H3 y n → NestIs C (upd H3 D (.lst (xs.map V.ref ++ [.ref x]))) y n := fun y n hy => by
          obtain ⟨dy, dp, ⟨R2, y1⟩, y2⟩ := hy
          have hD3 := s3 _ _ hL
          exact ⟨dy, dp, ⟨R2, by rw [upd_ne (fun e => by rw [e, hD3] at y1; cases y1)]; exact y1⟩, by rw [upd_ne (fun e => by rw [e, hD3] at y2; cases y2)]; exact y2⟩
        refine ⟨xs ++ [x], by rw [upd_same, List.map_append]; rfl, by rw [List.length_append, hxl]; rfl, fun j y n hj hn => ?_⟩
        by_cases hjl : j < xs.length
        · rw [List.getElem?_append_left hjl] at hj
          exact up y n ((hxs j y n hj hn).ext s3)
        · rw [List.getElem?_append_right (by omega)] at hj
          cases hd : j - xs.length with
          | zero =>
            rw [hd] at hj
            cases hj
            have ej : j = i := by omega
            rw [ej] at hn
            unfold nestsOf at hn
            rw [List.getElem?_map, hgi] at hn
            cases hn
            exact up _ _ hx
          | succ n =>
            rw [hd] at hj
            cases hj
    · obtain ⟨sm, xs, hL, hxl, hxs⟩ := h
      rw [List.length_map, h2] at hxl
      have nl : (nestsOf z).length = (partsOf z).length := List.length_map ..
      refine ⟨rfl, _, rfl, D, xs.map V.ref, rfl, .inr (SqL.of hL), fun x dx nx ndx _ => ?_⟩
      refine made_prog nx ndx (by omega) (fun y my => ?_) fun H3 tp s3 hx ht => ?_
      · obtain ⟨j, hj⟩ := List.mem_iff_getElem?.mp my
        have hjl : j < (nestsOf z).length := by have := (List.getElem?_eq_some_iff.mp hj).1; omega
        obtain ⟨dy, dp, ⟨R2, y1⟩, _⟩ := hxs j y _ hj (List.getElem?_eq_getElem hjl)
        exact ⟨dy, _, y1⟩
      · exact q x H3 (((s1.trans s2).trans sm).trans s3) ⟨dx, tp, xs, hx, ht, by omega, fun j y n hj hn => (hxs j y n hj hn).ext s3⟩
end
end Sq.N3
namespace Sq.N3
open PySem L2 TL
abbrev sActRow : Stmt := top 61
/-! ### the rows of deeds -/
def wds : List Str := ["swap", "copy", "order", "turn"]
def wdN (i : Nat) : Str := wds.getD i ""
def plN (i : Nat) : Str := plcs.getD i ""
def nuN (i : Nat) : Str := nmz.getD i ""
def cmN (i : Nat) : Str := cmps.getD i ""
def guardW : Option (Nat × Nat × Nat) → List Str
  | none => []
  | some (a, b, c) => ["if", nuN a, cmN b, nuN c]
def actW (w : Nat) (ps : List Nat) (g : Option (Nat × Nat × Nat)) : List Str := wdN w :: (ps.map plN ++ guardW g)
def actS (w : Nat) (ps : List Nat) (g : Option (Nat × Nat × Nat)) : Str := Txt.join " " (actW w ps g)
structure ActOk (w : Nat) (ps : List Nat) (g : Option (Nat × Nat × Nat)) : Prop where
  w4 : w < 4
  two : w < 3 → ps.length = 2
  more : w = 3 → 3 ≤ ps.length ∧ ps.length ≤ 8
  nd : ps.Nodup
  lt : ∀ p ∈ ps, p < 8
  gd : ∀ a b c, g = some (a, b, c) → a < 4 ∧ b < 4 ∧ c < 4 ∧ a ≠ c
/-- a row that is a deed, as the law makes them -/
structure DeedRow (d : Str) : Prop where
  ok : deedB d = true
  ln : d.length ≤ 200
  nl : 10 ∉ tl d
  st : Txt.startswith d ofrom = false
  cp : ∀ c ∈ tl d, c < 128
def plainW (z : Str) : Bool := decide (z.length ≤ 5) && !(tl z).contains 32 && !(tl z).contains 10 && (tl z).all (· < 128)
structure PlainW (z : Str) : Prop where
  ln : z.length ≤ 5
  sp : 32 ∉ tl z
  nl : 10 ∉ tl z
  cp : ∀ c ∈ tl z, c < 128
theorem plainW_ok {z : Str} (h : plainW z = true) : PlainW z := by
  unfold plainW at h
  simp only [Bool.and_eq_true, decide_eq_true_eq, Bool.not_eq_true', List.all_eq_true] at h
  obtain ⟨⟨⟨h1, h2⟩, h3⟩, h4⟩ := h
  exact ⟨h1, fun m => (by rw [List.contains_iff_mem.mpr m] at h2; cases h2), fun m => (by rw [List.contains_iff_mem.mpr m] at h3; cases h3), fun c hc => h4 c hc⟩
theorem wd_plain : ∀ i : _root_.Fin 4, plainW (wdN i.val) = true := by decide +kernel
theorem pl_plain : ∀ i : _root_.Fin 8, plainW (plN i.val) = true := by decide +kernel
theorem nu_plain : ∀ i : _root_.Fin 4, plainW (nuN i.val) = true := by decide +kernel
theorem cm_plain : ∀ i : _root_.Fin 4, plainW (cmN i.val) = true := by decide +kernel
theorem if_plain : plainW "if" = true := by decide +kernel
theorem pl_mem : ∀ i : _root_.Fin 8, memB plcs (plN i.val) = true := by decide +kernel
theorem nu_mem : ∀ i : _root_.Fin 4, memB nmz (nuN i.val) = true := by decide +kernel
theorem cm_mem : ∀ i : _root_.Fin 4, memB cmps (cmN i.val) = true := by decide +kernel
theorem nu_inj : ∀ i j : _root_.Fin 4, nuN i.val = nuN j.val → i = j := by decide +kernel
theorem pl_inj : ∀ i j : _root_.Fin 8, plN i.val = plN j.val → i = j := by decide +kernel
theorem wd_not_if : ∀ i : _root_.Fin 4, wdN i.val ≠ "if" := by decide +kernel
theorem pl_not_if : ∀ i : _root_.Fin 8, plN i.val ≠ "if" := by decide +kernel
theorem wd_counts : ∀ i : _root_.Fin 4, counts (wdN i.val) = if i.val = 3 then some (3, 8) else some (2, 2) := by decide +kernel
theorem wd_head : ∀ i : _root_.Fin 4, (tl (wdN i.val)).head? ≠ some 105 ∧ tl (wdN i.val) ≠ [] := by decide +kernel
theorem dcount_nodup : ∀ xs : List Str, xs.Nodup → dcount xs = xs.length
  | [], _ => rfl
  | x :: r, h => by
    obtain ⟨h1, h2⟩ := List.nodup_cons.mp h
    unfold dcount
    rw [if_neg (fun e => h1 (by obtain ⟨y, hy, e⟩ := List.any_eq_true.mp e; rw [← eq_of_beq e]; exact hy)), dcount_nodup r h2]
    rfl
theorem joinL_mem {S : List Nat} {c : Nat} : ∀ {ps : List (List Nat)}, c ∈ joinL S ps → c ∈ S ∨ ∃ p ∈ ps, c ∈ p
  | [p], h => .inr ⟨p, List.mem_cons_self, h⟩
  | p :: q :: r, h => by
    rcases List.mem_append.mp (show c ∈ p ++ (S ++ joinL S (q :: r)) from h) with e | e
    · exact .inr ⟨p, List.mem_cons_self, e⟩
    · rcases List.mem_append.mp e with e | e
      · exact .inl e
      · rcases joinL_mem e with e | ⟨z, hz, e⟩
        · exact .inl e
        · exact .inr ⟨z, List.mem_cons_of_mem _ hz, e⟩
theorem joinL_len {S : List Nat} {m : Nat} : ∀ {ps : List (List Nat)}, (∀ p ∈ ps, p.length ≤ m) → (joinL S ps).length ≤ ps.length * (m + S.length)
  | [], _ => Nat.zero_le _
  | [p], h => by
    show p.length ≤ 1 * (m + S.length)
    have := h p List.mem_cons_self
    omega
  | p :: q :: r, h => by
    have ih := joinL_len (S := S) (ps := q :: r) fun x hx => h x (List.mem_cons_of_mem _ hx)
    show (p ++ (S ++ joinL S (q :: r))).length ≤ ((q :: r).length + 1) * (m + S.length)
    rw [List.length_append, List.length_append, Nat.add_mul]
    have := h p List.mem_cons_self
    omega
theorem joinL_head {S : List Nat} {p : List Nat} (hp : p ≠ []) : ∀ r : List (List Nat), (joinL S (p :: r)).head? = p.head?
  | [] => rfl
  | q :: r => by
    show (p ++ (S ++ joinL S (q :: r))).head? = _
    cases p with
    | nil => exact absurd rfl hp
    | cons a l => rfl
theorem tl_act (ws : List Str) : tl (Txt.join " " ws) = joinL [32] (ws.map tl) := by
  rw [join_eq, tl_join]
  rfl
section
variable {w : Nat} {ps : List Nat} {g : Option (Nat × Nat × Nat)}
theorem actW_plain (h : ActOk w ps g) : ∀ z ∈ actW w ps g, PlainW z := by
  intro z hz
  rcases List.mem_cons.mp hz with e | e
  · rw [e]
    exact plainW_ok (wd_plain ⟨w, h.w4⟩)
  · rcases List.mem_append.mp e with e | e
    · obtain ⟨i, hi, rfl⟩ := List.mem_map.mp e
      exact plainW_ok (pl_plain ⟨i, h.lt i hi⟩)
    · match g, h, e with
      | some (a, b, c), h, e =>
        obtain ⟨ha, hb, hc, _⟩ := h.gd a b c rfl
        rcases (by simpa [guardW] using e : z = "if" ∨ z = nuN a ∨ z = cmN b ∨ z = nuN c) with rfl | rfl | rfl | rfl
        · exact plainW_ok if_plain
        · exact plainW_ok (nu_plain ⟨a, ha⟩)
        · exact plainW_ok (cm_plain ⟨b, hb⟩)
        · exact plainW_ok (nu_plain ⟨c, hc⟩)
theorem ps_len (h : ActOk w ps g) : 2 ≤ ps.length ∧ ps.length ≤ 8 := by
  have h1 := h.w4
  by_cases e : w = 3
  · have := h.more e
    omega
  · have := h.two (by omega)
    omega
theorem actW_len (h : ActOk w ps g) : (actW w ps g).length ≤ 13 := by
  have hp := ps_len h
  unfold actW
  rw [List.length_cons, List.length_append, List.length_map]
  match g with
  | none => show ps.length + 0 + 1 ≤ 13; omega
  | some (a, b, c) => show ps.length + 4 + 1 ≤ 13; omega
theorem act_split (h : ActOk w ps g) : Txt.split (actS w ps g) " " = actW w ps g :=
  split_join (s := 32) (S := []) (by decide +kernel) (by decide +kernel) (List.cons_ne_nil _ _) fun p hp => (actW_plain h p hp).sp
theorem deedW_act (h : ActOk w ps g) : deedW (actW w ps g) = ⟨wdN w, ps.map plN, (guardW g).drop 1⟩ := by
  match g, h with
  | none, h =>
    have e : actW w ps none = wdN w :: ps.map plN := by
      unfold actW guardW
      rw [List.append_nil]
    rw [e]
    unfold deedW
    rw [if_neg]
    · rfl
    · rintro ⟨hl, he⟩
      have hm : ("if" : Str) ∈ wdN w :: ps.map plN := List.mem_of_getElem? he
      rcases List.mem_cons.mp hm with e | e
      · exact wd_not_if ⟨w, h.w4⟩ e.symm
      · obtain ⟨i, hi, e⟩ := List.mem_map.mp e
        exact pl_not_if ⟨i, h.lt i hi⟩ e
  | some (a, b, c), h =>
    have hl : (actW w ps (some (a, b, c))).length = ps.length + 5 := by
      unfold actW guardW
      rw [List.length_cons, List.length_append, List.length_map]
      rfl
    have hp := ps_len h
    have e : actW w ps (some (a, b, c)) = (wdN w :: ps.map plN) ++ guardW (some (a, b, c)) := rfl
    have pl : (wdN w :: ps.map plN).length = ps.length + 1 := by rw [List.length_cons, List.length_map]
    unfold deedW
    rw [hl, if_pos]
    · show (⟨wdN w, ((actW w ps (some (a, b, c))).drop 1).take (ps.length + 5 - 5), (actW w ps (some (a, b, c))).drop (ps.length + 5 - 3)⟩ : Deed) = _
      have e1 : ((actW w ps (some (a, b, c))).drop 1).take (ps.length + 5 - 5) = ps.map plN := by
        show ((ps.map plN) ++ guardW (some (a, b, c))).take (ps.length + 5 - 5) = _
        rw [show ps.length + 5 - 5 = (ps.map plN).length by rw [List.length_map]; omega, List.take_left]
      have e2 : (actW w ps (some (a, b, c))).drop (ps.length + 5 - 3) = [nuN a, cmN b, nuN c] := by
        rw [e, show ps.length + 5 - 3 = (wdN w :: ps.map plN).length + 1 by rw [pl]; omega, List.drop_append, List.drop_eq_nil_of_le (Nat.le_succ _), Nat.add_sub_cancel_left]
        rfl
      rw [e1, e2]
      rfl
    · refine ⟨by omega, ?_⟩
      rw [e, show ps.length + 5 - 4 = (wdN w :: ps.map plN).length by rw [pl]; omega, List.getElem?_append_right (Nat.le_refl _), Nat.sub_self]
      rfl
theorem map_nodup {f : Nat → Str} : ∀ ps : List Nat, ps.Nodup → (∀ p ∈ ps, ∀ q ∈ ps, f p = f q → p = q) → (ps.map f).Nodup
  | [], _, _ => List.nodup_nil
  | p :: ps, h, hf => by
    obtain ⟨h1, h2⟩ := List.nodup_cons.mp h
    rw [List.map_cons]
    refine List.nodup_cons.mpr ⟨fun hm => ?_, map_nodup ps h2 fun a ha b hb => hf a (List.mem_cons_of_mem _ ha) b (List.mem_cons_of_mem _ hb)⟩
    obtain ⟨q, hq, e⟩ := List.mem_map.mp hm
    exact h1 (by rw [← hf q (List.mem_cons_of_mem _ hq) p List.mem_cons_self e]; exact hq)
theorem act_places (h : ActOk w ps g) : placesB (wdN w) (ps.map plN) = true := by
  have hp := ps_len h
  have nd : (ps.map plN).Nodup := map_nodup ps h.nd fun p hp q hq e => congrArg Fin.val (pl_inj ⟨p, h.lt p hp⟩ ⟨q, h.lt q hq⟩ e)
  have d1 : dcount (ps.map plN).reverse = (ps.map plN).length := by
    rw [dcount_nodup _ ((List.reverse_perm _).nodup_iff.mpr nd), List.length_reverse]
  have m1 : (ps.map plN).all (memB plcs) = true := by
    rw [List.all_map, List.all_eq_true]
    exact fun p hp => pl_mem ⟨p, h.lt p hp⟩
  have c1 := wd_counts ⟨w, h.w4⟩
  unfold placesB
  have c2 : counts (wdN w) = if w = 3 then some (3, 8) else some (2, 2) := c1
  rw [c2]
  by_cases e : w = 3
  · have := h.more e
    rw [if_pos e]
    show ((decide (3 ≤ (ps.map plN).length) && decide ((ps.map plN).length ≤ 8)) && (decide (dcount (ps.map plN).reverse = (ps.map plN).length) && (ps.map plN).all (memB plcs))) = true
    rw [d1, m1, List.length_map, decide_eq_true this.1, decide_eq_true this.2, decide_eq_true rfl]
    rfl
  · have h1 := h.w4
    have := h.two (by omega)
    rw [if_neg e]
    show ((decide (2 ≤ (ps.map plN).length) && decide ((ps.map plN).length ≤ 2)) && (decide (dcount (ps.map plN).reverse = (ps.map plN).length) && (ps.map plN).all (memB plcs))) = true
    rw [d1, m1, List.length_map, decide_eq_true (show 2 ≤ ps.length by omega), decide_eq_true (show ps.length ≤ 2 by omega), decide_eq_true rfl]
    rfl
theorem act_cond (h : ActOk w ps g) : condB ((guardW g).drop 1) = true := by
  match g, h with
  | none, _ => rfl
  | some (a, b, c), h =>
    obtain ⟨ha, hb, hc, hn⟩ := h.gd a b c rfl
    have m1 : memB nmz (nuN a) = true := nu_mem ⟨a, ha⟩
    have m2 : memB cmps (cmN b) = true := cm_mem ⟨b, hb⟩
    have m3 : memB nmz (nuN c) = true := nu_mem ⟨c, hc⟩
    have ne : ¬ nuN a = nuN c := fun e => hn (congrArg Fin.val (nu_inj ⟨a, ha⟩ ⟨c, hc⟩ e))
    show (memB nmz (nuN a) && (memB cmps (cmN b) && (memB nmz (nuN c) && !decide (nuN a = nuN c)))) = true
    rw [m1, m2, m3, decide_eq_false ne]
    rfl
theorem act_deed (h : ActOk w ps g) : DeedRow (actS w ps g) := by
  have ht := tl_act (actW w ps g)
  have pl := actW_plain h
  have hn := actW_len h
  refine ⟨?_, ?_, fun hm => ?_, ?_, fun c hc => ?_⟩
  · unfold deedB deedD
    rw [act_split h, deedW_act h]
    show (placesB (wdN w) (ps.map plN) && condB ((guardW g).drop 1)) = true
    rw [act_places h, act_cond h]
    rfl
  · rw [len_tl]
    show (tl (Txt.join " " (actW w ps g))).length ≤ 200
    rw [ht]
    have z := joinL_len (S := [32]) (m := 5) (ps := (actW w ps g).map tl) fun p hp => by
      obtain ⟨z, hz, rfl⟩ := List.mem_map.mp hp
      have := (pl z hz).ln
      rw [len_tl] at this
      exact this
    rw [List.length_map] at z
    have : ([32] : List Nat).length = 1 := rfl
    rw [this] at z
    omega
  · have hm : 10 ∈ tl (Txt.join " " (actW w ps g)) := hm
    rw [ht] at hm
    rcases joinL_mem hm with e | ⟨p, hp, e⟩
    · exact absurd e (by decide)
    · obtain ⟨z, hz, rfl⟩ := List.mem_map.mp hp
      exact (pl z hz).nl e
  · rw [starts_pre]
    show pre (tl ofrom) (tl (Txt.join " " (actW w ps g))) = false
    have hd := wd_head ⟨w, h.w4⟩
    have e1 : (tl (Txt.join " " (actW w ps g))).head? = (tl (wdN w)).head? := by
      rw [ht]
      exact joinL_head hd.2 _
    have e2 : ∃ r, tl ofrom = 105 :: r := ⟨(tl ofrom).drop 1, by decide +kernel⟩
    obtain ⟨r, e2⟩ := e2
    rw [e2]
    cases e3 : tl (Txt.join " " (actW w ps g)) with
    | nil => rfl
    | cons c l =>
      rw [e3] at e1
      have nc : c ≠ 105 := fun e => hd.1 (by rw [e] at e1; exact e1.symm)
      show (((c :: l).take (r.length + 1)) == (105 :: r)) = false
      rw [List.take_succ_cons, List.cons_beq_cons, show (c == 105) = false from beq_eq_false_iff_ne.mpr nc, Bool.false_and]
  · have hc : c ∈ tl (Txt.join " " (actW w ps g)) := hc
    rw [ht] at hc
    rcases joinL_mem hc with e | ⟨p, hp, e⟩
    · rw [List.mem_singleton.mp e]
      decide
    · obtain ⟨z, hz, rfl⟩ := List.mem_map.mp hp
      exact (pl z hz).cp c e
end
end Sq.N3
namespace Sq.N3
open PySem L2 TL
def guardT : Option (Nat × Nat × Nat) → List V
  | none => []
  | some (a, b, c) => [.int (a : Int), .int (b : Int), .int (c : Int)]
/-- an act as the law draws it: a tuple of a word's number, a list of places, a condition -/
def ActAt (K : PySem.W.Frag) (H : Hp) (t : Addr) (w : Nat) (ps : List Nat) (g : Option (Nat × Nat × Nat)) : Prop := ∃ l u, SqT K H t [.int (w : Int), .ref l, .ref u] ∧ SqL K H l (ps.map fun p => V.int ((p : Nat) : Int)) ∧ SqT K H u (guardT g)
theorem ActAt.ext {K : PySem.W.Frag} {H H' : Hp} {t : Addr} {w : Nat} {ps : List Nat} {g : Option (Nat × Nat × Nat)} (e : Same H H') (h : ActAt K H t w ps g) : ActAt K H' t w ps g := by
  obtain ⟨l, u, h1, h2, h3⟩ := h
  exact ⟨l, u, h1.ext e, h2.ext e, h3.ext e⟩
def spActRow (K : PySem.W.Frag) : Sp := fun vs H Q _ => ∃ (t : Addr) (w : Nat) (ps : List Nat) (g : Option (Nat × Nat × Nat)), vs = [.ref t] ∧ ActAt K H t w ps g ∧ ActOk w ps g ∧ ∀ H', Same H H' → Q (.str (actS w ps g)) H'
section
variable {P : Program} {w : World} {K : PySem.W.Frag} {mg : Str → Option Value} {base : Heap}
theorem scActRow : FnScope ["_law_act_here", "_law_places", "_law_words", "_law_place", "_law_sides", "_law_signs"] ["_law_act_here"] (defScope sActRow) := ⟨rfl, rfl, rfl, by decide +kernel, rfl, by decide +kernel, by decide +kernel⟩
theorem strs_at (L : List Str) {i : Nat} (h : i < L.length) : atI (L.map V.str) ((i : Nat) : Int) = some (.str (L.getD i "")) := by
  refine atI_nat ?_
  rw [List.getElem?_map, List.getElem?_eq_getElem h]
  show some (V.str L[i]) = _
  rw [List.getD_eq_getElem?_getD, List.getElem?_eq_getElem h]
  rfl
theorem sum_le {m : Nat} : ∀ {ys : List Str}, (∀ y ∈ ys, y.length ≤ m) → (ys.map (·.length)).sum ≤ m * ys.length
  | [], _ => Nat.zero_le _
  | y :: ys, h => by
    have ih := sum_le (m := m) (ys := ys) fun z hz => h z (List.mem_cons_of_mem _ hz)
    have h1 := h y List.mem_cons_self
    rw [List.map_cons, List.sum_cons, List.length_cons, Nat.mul_add]
    omega
def strs4 (a b c d : Str) : TA := tCons (tC (.str a)) (tCons (tC (.str b)) (tCons (tC (.str c)) (tCons (tC (.str d)) tNil)))
theorem ok_actRow {f : Addr} {fd : FuncData} (F : Fun K "_law_act_row" "_law_act_row" sActRow f fd) : FnOk P w K mg base CX0 1 f fd ["_law_act_here"] (spActRow K) := by
  refine F.ok scActRow (fun vs H Q E h => ?_) (fun cdv A outer s H vs Q E hr h => ?_)
  · obtain ⟨t, w', ps, g, rfl, _⟩ := h
    rfl
  · obtain ⟨t, w', ps, g, rfl, hT, ok, q⟩ := h
    obtain ⟨l, u, hT, hL, hU⟩ := hT
    have big : 1000 ≤ sizeLine := by decide
    have hp := ps_len ok
    refine ⟨_, pss_cons (ps_set (i := 1) scActRow.nd rfl (.inr rfl) (pe_lst (pa_cons pe_str (pa_cons pe_str (pa_cons pe_str (pa_cons pe_str (pa_cons pe_str (pa_cons pe_str (pa_cons pe_str (pa_cons pe_str pa_nil))))))))))
      (pss_cons (ps_set (i := 2) scActRow.nd rfl (.inl rfl) (pe_op op_cat (pe_lst (pa_cons (pe_ix ix_list (pe_lst (pa_cons pe_str (pa_cons pe_str (pa_cons pe_str (pa_cons pe_str pa_nil))))) (pe_ix ix_tup (pv 0) pe_int (fun _ _ => rfl)) (fun _ _ => rfl)) pa_nil))
        (pe_lc (own := [("_law_place", 3)]) (g := gName 3) (by rfl) scActRow.nd (pi_list (pe_ix ix_tup (pv 0) pe_int (fun _ _ => rfl)))
          (blkOk_by (own := [("_law_place", 3)]) (N := ["_law_act_here", "_law_places", "_law_words", "_law_place", "_law_sides", "_law_signs"]) (sc := defScope sActRow) (by decide +kernel)) (fun _ _ _ _ _ => pg_name (i := 3) scActRow.nd rfl (Or.inl rfl)) (fun _ _ _ _ _ => pts_nil)
          (fun _ _ _ _ _ => (show PE _ _ (tOp (rIxL K) (tVar 1) (tVar 3)) from pe_ix ix_list (pv 1) (pv 3) (fun _ _ => rfl))))))
      (pss_cons (ps_if (pt_cmpR (op_neD hr.units) (pe_ix ix_tup (pv 0) pe_int (fun _ _ => rfl)) (pe_tup pa_nil) (nomark _))
        (pss_cons (ps_par (i := 4) (j := 5) (by rfl) scActRow.nd rfl rfl (by decide) rfl rfl (pa_cons (pe_lst (pa_cons pe_str (pa_cons pe_str (pa_cons pe_str (pa_cons pe_str pa_nil))))) (pa_cons (pe_lst (pa_cons pe_str (pa_cons pe_str (pa_cons pe_str (pa_cons pe_str pa_nil))))) pa_nil)) (by rfl))
        (pss_one (ps_set (i := 2) scActRow.nd rfl (.inl rfl) (pe_op op_cat (pv 2) (pe_lst (pa_cons pe_str (pa_cons (pe_ix ix_list (pv 4) (pe_ix ix_tup (pe_ix ix_tup (pv 0) pe_int (fun _ _ => rfl)) pe_int (fun _ _ => rfl)) (fun _ _ => rfl))
          (pa_cons (pe_ix ix_list (pv 5) (pe_ix ix_tup (pe_ix ix_tup (pv 0) pe_int (fun _ _ => rfl)) pe_int (fun _ _ => rfl)) (fun _ _ => rfl)) (pa_cons (pe_ix ix_list (pv 4) (pe_ix ix_tup (pe_ix ix_tup (pv 0) pe_int (fun _ _ => rfl)) pe_int (fun _ _ => rfl)) (fun _ _ => rfl)) pa_nil))))))))) pss_nil)
      (pss_one (ps_ret (pe_join pe_str (pv 2)))))), ?_⟩
    refine ⟨(by show 8 ≤ sizeLine; omega), fun pl npl => ?_⟩
    have k1 := same_new (o := .lst (plcs.map V.str)) npl
    refine ⟨(by show 4 ≤ sizeLine; omega), fun wl nwl => ?_⟩
    have k2 := k1.trans (same_new (o := .lst (wds.map V.str)) nwl)
    refine ⟨_, rfl, t, _, 0, _, rfl, rfl, hT.ext k2, rfl, wl, _, _, _, rfl, rfl, SqL.of upd_same, strs_at wds ok.w4, ?_⟩
    refine ⟨(by show 1 ≤ sizeLine; omega), fun ol nol => ?_⟩
    have k3 := k2.trans (same_new (o := .lst [.str (wdN w')]) nol)
    refine ⟨_, rfl, t, _, 1, _, rfl, rfl, hT.ext k3, rfl, l, rfl, ⟨_, hL.ext k3⟩, fun D hD => ?_⟩
    have hpl3 : (upd (upd (upd H pl (.lst (plcs.map V.str))) wl (.lst (wds.map V.str))) ol (.lst [.str (wdN w')])) pl = some (.lst (plcs.map V.str)) := same_new nol _ _ (same_new nwl _ _ upd_same)
    refine lc_list (K := K) (a := l) (xs := ps.map fun p => V.int ((p : Nat) : Int)) (fun i H' => Same (upd (upd (upd H pl (.lst (plcs.map V.str))) wl (.lst (wds.map V.str))) ol (.lst [.str (wdN w')])) H' ∧ H' D = some (.lst (((ps.take i).map plN).map V.str)))
      ⟨same_new hD, upd_same⟩ (fun i H' _ h => (hL.ext k3).ext h.1) (fun i x H' hi h => ?_) (fun H' h => ?_)
    · obtain ⟨sm, hLD⟩ := h
      refine ⟨rfl, ?_⟩
      obtain ⟨a, ha, rfl⟩ : ∃ a : Nat, ps[i]? = some a ∧ x = .int (a : Int) := by
        rw [List.getElem?_map] at hi
        cases e : ps[i]? with
        | none => rw [e] at hi; cases hi
        | some r => rw [e] at hi; exact ⟨r, rfl, (Option.some.inj hi).symm⟩
      have ha8 : a < 8 := ok.lt a (List.mem_of_getElem? ha)
      refine ⟨_, rfl, _, rfl, pl, _, _, _, rfl, rfl, SqL.of (sm _ _ hpl3), strs_at plcs ha8, _, hLD, ?_, ?_, ?_⟩
      · rw [List.length_map, List.length_map, List.length_take]
        have := hp.2
        omega
      · intro c o hc
        rw [upd_ne (ne_of_none hc (show _ = none from hD))]
        exact sm c o hc
      · rw [upd_same, List.take_add_one, ha, List.map_append, List.map_append]
        rfl
    · obtain ⟨sm, hLD⟩ := h
      rw [List.length_map, List.take_length] at hLD
      refine ⟨ol, D, _, _, rfl, rfl, sm _ _ upd_same, hLD, ?_, fun p np => ?_⟩
      · rw [List.length_map, List.length_map]
        show 1 + ps.length ≤ sizeLine
        omega
      have k4 := (k3.trans sm).trans (same_new (o := .lst ([.str (wdN w')] ++ (ps.map plN).map V.str)) np)
      have fin : ∀ (g' : Option (Nat × Nat × Nat)) (p : Addr) (H' : Hp) (σ : L2.St), g' = g → Same H H' → H' p = some (.lst ((actW w' ps g').map V.str)) → σ[2]? = some (some (.ref p)) → ∃ x, σ[2]? = some (some x) ∧ ∃ a q', ∃ ys : List Str, (V.str (" " : Str)) = .str a ∧ [x] = [.ref q'] ∧ (SqL K H' q' (ys.map V.str) ∨ SqT K H' q' (ys.map V.str)) ∧
          (ys.map (·.length)).sum + ys.length * a.length ≤ 16777216 ∧ Q (.str (Txt.join a ys)) H' := fun g' p H' σ eg sm hp' hσ => by
        subst eg
        refine ⟨.ref p, hσ, " ", p, actW w' ps g', rfl, rfl, .inl (SqL.of hp'), ?_, q H' sm⟩
        have h1 := sum_le (m := 5) (ys := actW w' ps g') fun y hy => (actW_plain ok y hy).ln
        have h2 := actW_len ok
        have h3 : (" " : Str).length = 1 := by decide +kernel
        rw [h3]
        omega
      refine ⟨_, rfl, t, _, 2, _, rfl, rfl, hT.ext k4, rfl, Nat.zero_le _, fun e ne => ?_⟩
      have k5 := k4.trans (same_new (o := .tup []) ne)
      have hp5 := same_new (o := .tup []) ne _ _ (show _ from upd_same (H := H') (a := p) (o := .lst ([.str (wdN w')] ++ (ps.map plN).map V.str)))
      match g, ok, hU, q, fin with
      | none, ok, hU, q, fin =>
        refine ⟨.tuple [], .tuple [], .tup (hU.ext k5) .nil, .tup (SqT.of upd_same) .nil, by decide +kernel, by decide +kernel, _, rfl, ?_⟩
        refine iteF ?_
        refine ⟨⟨_, rfl⟩, ?_⟩
        refine fin none p _ _ rfl k5 ?_ rfl
        rw [hp5]
        unfold actW guardW
        rw [List.append_nil]
        rfl
      | some (a, b, c), ok, hU, q, fin =>
        obtain ⟨ha, hb, hc, hn⟩ := ok.gd a b c rfl
        refine ⟨.tuple [.int (a : Int), .int (b : Int), .int (c : Int)], .tuple [], .tup (hU.ext k5) (.cons (.int _) (.cons (.int _) (.cons (.int _) .nil))), .tup (SqT.of upd_same) .nil, ?_, by decide +kernel, _, rfl, ?_⟩
        · rfl
        refine iteT ?_
        refine ⟨(by show 4 ≤ sizeLine; omega), fun s1 ns1 => ⟨(by show 4 ≤ sizeLine; omega), fun s2 ns2 => ⟨_, _, rfl, ?_⟩⟩⟩
        have k6 := k5.trans (same_new (o := .lst (nmz.map V.str)) ns1)
        have k7 := k6.trans (same_new (o := .lst (cmps.map V.str)) ns2)
        have u1 := same_new (o := .lst (cmps.map V.str)) ns2 _ _ (show _ from upd_same (a := s1) (o := .lst (nmz.map V.str)))
        refine ⟨_, rfl, ?_⟩
        refine ⟨_, rfl, _, rfl, t, _, 2, _, rfl, rfl, hT.ext k7, rfl, u, _, 0, _, rfl, rfl, hU.ext k7, rfl, s1, _, _, _, rfl, rfl, SqL.of u1, strs_at nmz ha, ?_⟩
        refine ⟨_, rfl, _, rfl, t, _, 2, _, rfl, rfl, hT.ext k7, rfl, u, _, 1, _, rfl, rfl, hU.ext k7, rfl, s2, _, _, _, rfl, rfl, SqL.of upd_same, strs_at cmps hb, ?_⟩
        refine ⟨_, rfl, _, rfl, t, _, 2, _, rfl, rfl, hT.ext k7, rfl, u, _, 2, _, rfl, rfl, hU.ext k7, rfl, s1, _, _, _, rfl, rfl, SqL.of u1, strs_at nmz hc, ?_⟩
        refine ⟨(by show 4 ≤ sizeLine; omega), fun gl ngl => ?_⟩
        have k8 := k7.trans (same_new (o := .lst ((guardW (some (a, b, c))).map V.str)) ngl)
        refine ⟨p, gl, _, _, rfl, rfl, same_new ngl _ _ (same_new ns2 _ _ (same_new ns1 _ _ hp5)), upd_same, ?_, fun p2 np2 => ?_⟩
        · rw [List.length_append, List.length_map, List.length_map]
          show (1 + ps.length) + 4 ≤ sizeLine
          omega
        refine ⟨⟨_, rfl⟩, ?_⟩
        refine fin (some (a, b, c)) p2 _ _ rfl (k8.trans (same_new np2)) ?_ rfl
        rw [upd_same]
        unfold actW
        rw [List.map_cons, List.map_append]
        rfl
end
end Sq.N3
namespace Sq.N3
open PySem L2 TL
abbrev sWalk : Stmt := top 63
abbrev sAct : Stmt := top 64
/-- a bag stands at p -/
def BagAt (H : Hp) (p : Addr) : Prop := ∃ m d c : Int, H p = some (.lst [.int m, .int d, .int c])
theorem Off.trans {p : Addr} {H H1 H2 : Hp} (a : Off p H H1) (b : Off p H1 H2) : Off p H H2 := fun c o n h => b c o n (a c o n h)
theorem Same.off {p : Addr} {H H1 : Hp} (a : Same H H1) : Off p H H1 := fun c o _ h => a c o h
theorem BagAt.ext {H H' : Hp} {p : Addr} (e : Same H H') (h : BagAt H p) : BagAt H' p := by
  obtain ⟨m, d, c, h⟩ := h
  exact ⟨m, d, c, e _ _ h⟩
theorem bag_new {H : Hp} {p t : Addr} (h : BagAt H p) (nt : H t = none) : t ≠ p := fun e => by
  obtain ⟨m, d, c, h⟩ := h
  rw [e, h] at nt
  cases nt
theorem new_at {H : Hp} {b : Addr} {o : HO} (_ : H b = none) : (upd H b o) b = some o := upd_same
theorem off_none' {p a : Addr} {H H' : Hp} (h : Off p H H') (na : a ≠ p) (e : H' a = none) : H a = none := by
  cases z : H a with
  | none => rfl
  | some o => rw [h a o na z] at e; cases e
def iv (n : Nat) : V := .int (n : Int)
theorem ivs_at (L : List Nat) {i : Nat} (h : i < L.length) : atI (L.map iv) ((i : Nat) : Int) = some (iv (L.getD i 0)) := by
  refine atI_nat ?_
  rw [List.getElem?_map, List.getElem?_eq_getElem h]
  show some (iv L[i]) = _
  rw [List.getD_eq_getElem?_getD, List.getElem?_eq_getElem h]
  rfl
theorem getD_lt {L : List Nat} {i N : Nat} (h : i < L.length) (hL : ∀ x ∈ L, x < N) : L.getD i 0 < N := by
  rw [List.getD_eq_getElem?_getD, List.getElem?_eq_getElem h]
  exact hL _ (List.getElem_mem h)
def spDraw : Sp := fun vs H Q _ => ∃ (p : Addr) (k : Nat), vs = [.ref p, .int (k : Int)] ∧ BagAt H p ∧ 0 < k ∧ k < 1000000 ∧ ∀ (r : Nat) (H' : Hp), r < k → BagAt H' p → Off p H H' → Q (.int (r : Int)) H'
theorem draw_of {vs : List V} {H : Hp} {Q : VK} {E : XK} (h : spDraw vs H Q E) : spTake vs H Q E := by
  obtain ⟨p, k, rfl, ⟨m, d, c, hp⟩, k0, k1, q⟩ := h
  refine ⟨p, m, d, c, k, rfl, hp, by omega, by omega, fun r m' d' c' H' r0 r1 hp' o => ?_⟩
  obtain ⟨n, rfl⟩ := Int.eq_ofNat_of_zero_le r0
  exact q n H' (by omega) ⟨_, _, _, hp'⟩ o
theorem FnOk.draw {P : Program} {w : World} {K : PySem.W.Frag} {mg : Str → Option Value} {base : Heap} {f : Addr} {fd : FuncData} {ps : List Str} (F : FnOk P w K mg base CX0 1 f fd ps spTake) : FnOk P w K mg base CX0 1 f fd ps spDraw := F.imp fun _ _ _ _ => draw_of
def spWalk : Sp := fun vs H Q _ => ∃ (p : Addr) (deep : Bool), vs = [.ref p, .bl deep] ∧ BagAt H p ∧ ∀ (t : Addr) (a b d : Nat) (H' : Hp), BagAt H' p → Off p H H' → t ≠ p → H t = none → H' t = some (.tup [iv a, iv b, iv d]) → a < (if deep = true then 18 else 12) → b < (if deep = true then 18 else 12) → d < 2 → Q (.ref t) H'
def firsts : List Nat := [1, 1, 1, 1, 2, 7, 10]
def behinds : List Nat := [4, 4, 4, 7, 10, 3]
def firstsD : List Nat := firsts ++ [13, 13, 14, 15, 16]
def behindsD : List Nat := behinds ++ [13, 14, 15, 16]
section
variable {P : Program} {w : World} {K : PySem.W.Frag} {mg : Str → Option Value} {base : Heap} {fT : Addr} {dT : FuncData}
theorem scWalk : FnScope ["_law_bag_here", "_law_deep", "_law_many", "_law_firsts", "_law_behinds", "_law_first", "_law_behind"] ["_law_bag_here", "_law_deep"] (defScope sWalk) := ⟨rfl, rfl, rfl, by decide +kernel, rfl, by decide +kernel, by decide +kernel⟩
theorem ok_walk {f : Addr} {fd : FuncData} (F : Fun K "_law_walk" "_law_walk" sWalk f fd) (T : Bt mg) (KT : Kn P w K mg base "_law_take" 1 ["_law_bag_here", "_law_many"] spDraw) : FnOk P w K mg base CX0 2 f fd ["_law_bag_here", "_law_deep"] spWalk := by
  obtain ⟨fT, dT, mT, kT, bT, GT⟩ := KT
  refine F.ok scWalk (fun vs H Q E h => ?_) (fun cdv A outer s H vs Q E hr h => ?_)
  · obtain ⟨p, deep, rfl, _⟩ := h
    rfl
  · obtain ⟨p, deep, rfl, hp, q⟩ := h
    refine ⟨_, pss_cons (ps_if (pt_cmpR op_eq (pe_call GT hr (by rfl) mT kT bT .nil pass0 (pa_cons (pv 0) (pa_cons pe_int pa_nil))) pe_int (nomark _))
        (pss_cons (ps_set (i := 2) scWalk.nd rfl (.inl rfl) (pe_ifExp (pt_val (pv 1)) pe_int pe_int))
        (pss_one (ps_ret (pe_tup (pa_cons (pe_call GT hr (by rfl) mT kT bT .nil pass0 (pa_cons (pv 0) (pa_cons (pv 2) pa_nil))) (pa_cons (pe_call GT hr (by rfl) mT kT bT .nil pass0 (pa_cons (pv 0) (pa_cons (pv 2) pa_nil)))
          (pa_cons (pe_call GT hr (by rfl) mT kT bT .nil pass0 (pa_cons (pv 0) (pa_cons pe_int pa_nil))) pa_nil))))))) pss_nil)
      (pss_cons (ps_par (i := 3) (j := 4) (by rfl) scWalk.nd rfl rfl (by decide) rfl rfl (pa_cons (pe_lst (pa_cons pe_int (pa_cons pe_int (pa_cons pe_int (pa_cons pe_int (pa_cons pe_int (pa_cons pe_int (pa_cons pe_int pa_nil))))))))
          (pa_cons (pe_lst (pa_cons pe_int (pa_cons pe_int (pa_cons pe_int (pa_cons pe_int (pa_cons pe_int (pa_cons pe_int pa_nil))))))) pa_nil)) (by rfl))
      (pss_cons (ps_if (pt_val (pv 1)) (pss_one (ps_par (i := 3) (j := 4) (by rfl) scWalk.nd rfl rfl (by decide) rfl rfl (pa_cons (pe_op op_cat (pv 3) (pe_lst (pa_cons pe_int (pa_cons pe_int (pa_cons pe_int (pa_cons pe_int (pa_cons pe_int pa_nil)))))))
          (pa_cons (pe_op op_cat (pv 4) (pe_lst (pa_cons pe_int (pa_cons pe_int (pa_cons pe_int (pa_cons pe_int pa_nil)))))) pa_nil)) (by rfl))) pss_nil)
      (pss_cons (ps_par (i := 5) (j := 6) (by rfl) scWalk.nd rfl rfl (by decide) rfl rfl (pa_cons (pe_ix ix_list (pv 3) (pe_call GT hr (by rfl) mT kT bT .nil pass0 (pa_cons (pv 0) (pa_cons (pe_callB call_len_seq (by rfl) T.len PySem.boot_len (pa_cons (pv 3) pa_nil)) pa_nil))) (fun _ _ => rfl))
          (pa_cons (pe_ix ix_list (pv 4) (pe_call GT hr (by rfl) mT kT bT .nil pass0 (pa_cons (pv 0) (pa_cons (pe_callB call_len_seq (by rfl) T.len PySem.boot_len (pa_cons (pv 4) pa_nil)) pa_nil))) (fun _ _ => rfl)) pa_nil)) (by rfl))
      (pss_one (ps_ret (pe_tup (pa_cons (pv 5) (pa_cons (pv 6) (pa_cons (pe_call GT hr (by rfl) mT kT bT .nil pass0 (pa_cons (pv 0) (pa_cons pe_int pa_nil))) pa_nil))))))))), ?_⟩
    have big : 1000 ≤ sizeLine := by decide
    cases deep
    · -- deep: False
      refine ⟨_, rfl, p, 4, rfl, hp, by decide, by decide, fun r H1 rl hp1 o1 => ?_⟩
      refine ⟨rfl, _, rfl, ?_⟩
      refine ite2 (fun _ => ?_) (fun _ => ?_)
      · refine ⟨_, rfl, _, rfl, ?_⟩
        refine iteF ?_
        refine ⟨_, rfl, _, rfl, p, 12, rfl, hp1, by decide, by decide, fun a H2 al hp2 o2 => ?_⟩
        refine ⟨_, rfl, _, rfl, p, 12, rfl, hp2, by decide, by decide, fun b H3 bl hp3 o3 => ?_⟩
        refine ⟨_, rfl, p, 2, rfl, hp3, by decide, by decide, fun d H4 dl hp4 o4 => ?_⟩
        refine ⟨(by show 3 ≤ sizeLine; omega), fun t nt => ?_⟩
        exact q t a b d _ (hp4.ext (same_new nt)) ((((o1.trans o2).trans o3).trans o4).trans (Same.off (same_new nt))) (bag_new hp4 nt) (off_none' (((o1.trans o2).trans o3).trans o4) (bag_new hp4 nt) nt) upd_same al bl dl
      · refine ⟨(by show 7 ≤ sizeLine; omega), fun f1 nf1 => ⟨(by show 6 ≤ sizeLine; omega), fun b1 nb1 => ⟨_, _, rfl, ?_⟩⟩⟩
        have x1 := same_new (o := .lst (firsts.map iv)) nf1
        have x2 := same_new (o := .lst (behinds.map iv)) nb1
        have hpa : BagAt _ p := (hp1.ext x1).ext x2
        have oa := (o1.trans (Same.off (p := p) x1)).trans (Same.off x2)
        have hf1 := x2 _ _ (new_at (o := .lst (firsts.map iv)) nf1)
        refine ⟨_, rfl, _, rfl, ?_⟩
        refine iteF ?_
        have hpb := hpa
        have ob := oa
        have hF := hf1
        have hB := (new_at (o := .lst (behinds.map iv)) nb1)
        have nf : f1 ≠ p := fun e => by
          obtain ⟨_, _, _, hh⟩ := hpb
          rw [← e, hF] at hh
          cases hh
        have nb : b1 ≠ p := fun e => by
          obtain ⟨_, _, _, hh⟩ := hpb
          rw [← e, hB] at hh
          cases hh
        refine ⟨_, rfl, _, rfl, _, rfl, f1, _, rfl, .inl (SqL.of hF), p, 7, rfl, hpb, by decide, by decide, fun i1 H5 l1 hp5 o5 => ?_⟩
        refine ⟨f1, _, _, _, rfl, rfl, SqL.of (o5 _ _ nf hF), ivs_at firsts l1, ?_⟩
        refine ⟨_, rfl, _, rfl, _, rfl, b1, _, rfl, .inl (SqL.of (o5 _ _ nb hB)), p, 6, rfl, hp5, by decide, by decide, fun i2 H6 l2 hp6 o6 => ?_⟩
        refine ⟨b1, _, _, _, rfl, rfl, SqL.of (o6 _ _ nb (o5 _ _ nb hB)), ivs_at behinds l2, _, _, rfl, ?_⟩
        refine ⟨_, rfl, _, rfl, _, rfl, p, 2, rfl, hp6, by decide, by decide, fun d H7 dl hp7 o7 => ?_⟩
        refine ⟨(by show 3 ≤ sizeLine; omega), fun t nt => ?_⟩
        exact q t _ _ d _ (hp7.ext (same_new nt)) (((((ob.trans o5).trans o6).trans o7)).trans (Same.off (same_new nt))) (bag_new hp7 nt) (off_none' ((ob.trans o5).trans o6 |>.trans o7) (bag_new hp7 nt) nt) upd_same (getD_lt l1 (by decide)) (getD_lt l2 (by decide)) dl
    · -- deep: True
      refine ⟨_, rfl, p, 4, rfl, hp, by decide, by decide, fun r H1 rl hp1 o1 => ?_⟩
      refine ⟨rfl, _, rfl, ?_⟩
      refine ite2 (fun _ => ?_) (fun _ => ?_)
      · refine ⟨_, rfl, _, rfl, ?_⟩
        refine iteT ?_
        refine ⟨_, rfl, _, rfl, p, 18, rfl, hp1, by decide, by decide, fun a H2 al hp2 o2 => ?_⟩
        refine ⟨_, rfl, _, rfl, p, 18, rfl, hp2, by decide, by decide, fun b H3 bl hp3 o3 => ?_⟩
        refine ⟨_, rfl, p, 2, rfl, hp3, by decide, by decide, fun d H4 dl hp4 o4 => ?_⟩
        refine ⟨(by show 3 ≤ sizeLine; omega), fun t nt => ?_⟩
        exact q t a b d _ (hp4.ext (same_new nt)) ((((o1.trans o2).trans o3).trans o4).trans (Same.off (same_new nt))) (bag_new hp4 nt) (off_none' (((o1.trans o2).trans o3).trans o4) (bag_new hp4 nt) nt) upd_same al bl dl
      · refine ⟨(by show 7 ≤ sizeLine; omega), fun f1 nf1 => ⟨(by show 6 ≤ sizeLine; omega), fun b1 nb1 => ⟨_, _, rfl, ?_⟩⟩⟩
        have x1 := same_new (o := .lst (firsts.map iv)) nf1
        have x2 := same_new (o := .lst (behinds.map iv)) nb1
        have hpa : BagAt _ p := (hp1.ext x1).ext x2
        have oa := (o1.trans (Same.off (p := p) x1)).trans (Same.off x2)
        have hf1 := x2 _ _ (new_at (o := .lst (firsts.map iv)) nf1)
        refine ⟨_, rfl, _, rfl, ?_⟩
        refine iteT ?_
        refine ⟨_, rfl, (by show 5 ≤ sizeLine; omega), fun g1 ng1 => ?_⟩
        have x3 := same_new (o := .lst (([13, 13, 14, 15, 16] : List Nat).map iv)) ng1
        refine ⟨f1, g1, _, _, rfl, rfl, x3 _ _ hf1, upd_same, (by show 12 ≤ sizeLine; omega), fun f2 nf2 => ?_⟩
        have x4 := same_new (o := .lst (firstsD.map iv)) nf2
        refine ⟨_, rfl, (by show 4 ≤ sizeLine; omega), fun g2 ng2 => ?_⟩
        have x5 := same_new (o := .lst (([13, 14, 15, 16] : List Nat).map iv)) ng2
        refine ⟨b1, g2, _, _, rfl, rfl, x5 _ _ (x4 _ _ (x3 _ _ (new_at (o := .lst (behinds.map iv)) nb1))), upd_same, (by show 10 ≤ sizeLine; omega), fun b2 nb2 => ⟨_, _, rfl, ?_⟩⟩
        have x6 := same_new (o := .lst (behindsD.map iv)) nb2
        have xs := ((x3.trans x4).trans x5).trans x6
        have hpb := hpa.ext xs
        have ob := oa.trans (Same.off (p := p) xs)
        have hF := x6 _ _ (x5 _ _ (new_at (o := .lst (firstsD.map iv)) nf2))
        have hB := (new_at (o := .lst (behindsD.map iv)) nb2)
        have nf : f2 ≠ p := fun e => by
          obtain ⟨_, _, _, hh⟩ := hpb
          rw [← e, hF] at hh
          cases hh
        have nb : b2 ≠ p := fun e => by
          obtain ⟨_, _, _, hh⟩ := hpb
          rw [← e, hB] at hh
          cases hh
        refine ⟨_, rfl, _, rfl, _, rfl, f2, _, rfl, .inl (SqL.of hF), p, 12, rfl, hpb, by decide, by decide, fun i1 H5 l1 hp5 o5 => ?_⟩
        refine ⟨f2, _, _, _, rfl, rfl, SqL.of (o5 _ _ nf hF), ivs_at firstsD l1, ?_⟩
        refine ⟨_, rfl, _, rfl, _, rfl, b2, _, rfl, .inl (SqL.of (o5 _ _ nb hB)), p, 10, rfl, hp5, by decide, by decide, fun i2 H6 l2 hp6 o6 => ?_⟩
        refine ⟨b2, _, _, _, rfl, rfl, SqL.of (o6 _ _ nb (o5 _ _ nb hB)), ivs_at behindsD l2, _, _, rfl, ?_⟩
        refine ⟨_, rfl, _, rfl, _, rfl, p, 2, rfl, hp6, by decide, by decide, fun d H7 dl hp7 o7 => ?_⟩
        refine ⟨(by show 3 ≤ sizeLine; omega), fun t nt => ?_⟩
        exact q t _ _ d _ (hp7.ext (same_new nt)) (((((ob.trans o5).trans o6).trans o7)).trans (Same.off (same_new nt))) (bag_new hp7 nt) (off_none' ((ob.trans o5).trans o6 |>.trans o7) (bag_new hp7 nt) nt) upd_same (getD_lt l1 (by decide)) (getD_lt l2 (by decide)) dl
end
end Sq.N3
namespace Sq.N3
open PySem L2 TL
theorem erase_perm : ∀ (l : List Nat) (i : Nat), i < l.length → (l.getD i 0 :: l.eraseIdx i).Perm l
  | [], i, h => absurd h (Nat.not_lt_zero _)
  | a :: l, 0, _ => List.Perm.refl _
  | a :: l, i + 1, h => by
    have ih := erase_perm l i (Nat.lt_of_succ_lt_succ h)
    show (l.getD i 0 :: a :: l.eraseIdx i).Perm (a :: l)
    exact (List.Perm.swap _ _ _).trans (ih.cons a)
theorem seq_nat {i n : Nat} (h : i < n) : seqIndex? ((i : Nat) : Int) n = some i := by
  unfold seqIndex?
  simp [show ¬ ((i : Int) < 0) by omega, h]
theorem ivs_get (L : List Nat) {i : Nat} (h : i < L.length) : (L.map iv)[i]? = some (iv (L.getD i 0)) := by
  rw [List.getElem?_map, List.getElem?_eq_getElem h]
  show some (iv L[i]) = _
  rw [List.getD_eq_getElem?_getD, List.getElem?_eq_getElem h]
  rfl
theorem off_upd {p a : Addr} {H H' : Hp} {o : HO} (h : Off p H H') (ha : H a = none) : Off p H (upd H' a o) := fun b u nb e => by
  rw [upd_ne (fun z => by rw [z, ha] at e; cases e)]
  exact h b u nb e
theorem off_none {p a : Addr} {H H' : Hp} (h : Off p H H') (na : a ≠ p) (e : H' a = none) : H a = none := by
  cases z : H a with
  | none => rfl
  | some o => rw [h a o na z] at e; cases e
theorem iv_erase (l : List Nat) (i : Nat) : (l.map iv).eraseIdx i = (l.eraseIdx i).map iv := by
  induction l generalizing i with
  | nil => rfl
  | cons a l ih => cases i with
    | zero => rfl
    | succ i => exact congrArg (iv a :: ·) (ih i)
/-- an act as it is drawn, all of it where N holds -/
def ActH (N : Addr → Prop) (H : Hp) (t : Addr) (w : Nat) (ps : List Nat) (g : Option (Nat × Nat × Nat)) : Prop := ∃ l u, N t ∧ N l ∧ N u ∧ H t = some (.tup [iv w, .ref l, .ref u]) ∧ H l = some (.lst (ps.map iv)) ∧ H u = some (.tup (guardT g))
theorem ActH.at {K : PySem.W.Frag} {N : Addr → Prop} {H : Hp} {t : Addr} {w : Nat} {ps : List Nat} {g : Option (Nat × Nat × Nat)} (h : ActH N H t w ps g) : ActAt K H t w ps g := by
  obtain ⟨l, u, _, _, _, h1, h2, h3⟩ := h
  exact ⟨l, u, SqT.of h1, SqL.of h2, SqT.of h3⟩
theorem ActH.keep {N N' : Addr → Prop} {H H' : Hp} {t : Addr} {w : Nat} {ps : List Nat} {g : Option (Nat × Nat × Nat)} (n : ∀ a, N a → N' a) (e : ∀ b o, N b → H b = some o → H' b = some o) (h : ActH N H t w ps g) : ActH N' H' t w ps g := by
  obtain ⟨l, u, n1, n2, n3, h1, h2, h3⟩ := h
  exact ⟨l, u, n _ n1, n _ n2, n _ n3, e _ _ n1 h1, e _ _ n2 h2, e _ _ n3 h3⟩
def spAct (K : PySem.W.Frag) : Sp := fun vs H Q _ => ∃ p : Addr, vs = [.ref p] ∧ BagAt H p ∧ ∀ (t : Addr) (w : Nat) (ps : List Nat) (g : Option (Nat × Nat × Nat)) (H' : Hp), BagAt H' p → Off p H H' → ActH (fun a => H a = none) H' t w ps g → ActOk w ps g → Q (.ref t) H'
section
variable {P : Program} {w : World} {K : PySem.W.Frag} {mg : Str → Option Value} {base : Heap}
theorem scAct : FnScope ["_law_bag_here", "_law_word", "_law_left", "_law_places", "_law_k", "_law_one", "_law_sign", "_law_step"] ["_law_bag_here"] (defScope sAct) := ⟨rfl, rfl, rfl, by decide +kernel, rfl, by decide +kernel, by decide +kernel⟩
theorem ok_act {f : Addr} {fd : FuncData} (F : Fun K "_law_act" "_law_act" sAct f fd) (T : Bt mg) (hli : mg "list" = none) (KT : Kn P w K mg base "_law_take" 1 ["_law_bag_here", "_law_many"] spDraw) : FnOk P w K mg base CX0 2 f fd ["_law_bag_here"] (spAct K) := by
  obtain ⟨fT, dT, mT, kT, bT, GT⟩ := KT
  refine F.ok scAct (fun vs H Q E h => ?_) (fun cdv A outer s H vs Q E hr h => ?_)
  · obtain ⟨p, rfl, _⟩ := h
    rfl
  · obtain ⟨p, rfl, hp, q⟩ := h
    have big : 1000 ≤ sizeLine := by decide
    refine ⟨_, pss_cons (ps_par3 (i := 1) (j := 2) (l := 3) (by rfl) scAct.nd rfl rfl rfl (by decide) (by decide) (by decide) rfl rfl rfl (pa_cons (pe_call GT hr (by rfl) mT kT bT .nil pass0 (pa_cons (pv 0) (pa_cons pe_int pa_nil)))
        (pa_cons (pe_listRg (by rfl) (by rfl) hli (prg_1 (by rfl) T.range pe_int)) (pa_cons (pe_lst pa_nil) pa_nil))) (by rfl))
      (pss_cons (ps_for PassesOwn.never rfl (pi_range1 (by rfl) T.range (pa_cons (pe_ifExp (pt_cmpR op_eq (pv 1) pe_int (nomark _)) (pe_op op_add pe_int (pe_call GT hr (by rfl) mT kT bT .nil pass0 (pa_cons (pv 0) (pa_cons pe_int pa_nil)))) pe_int) pa_nil)) (pg_name (i := 4) scAct.nd rfl (.inl rfl))
        (pss_one (ps_expr (pe_bm PySem.F.plainAttrs_list PySem.F.slot_list_append PySem.F.type_list_append mt_append (pv 3) (pa_cons (pe_bm PySem.F.plainAttrs_list PySem.F.slot_list_pop PySem.F.type_list_pop mt_popAt (pv 2)
          (pa_cons (pe_call GT hr (by rfl) mT kT bT .nil pass0 (pa_cons (pv 0) (pa_cons (pe_callB call_len_seq (by rfl) T.len PySem.boot_len (pa_cons (pv 2) pa_nil)) pa_nil))) pa_nil)) pa_nil)))))
      (pss_cons (ps_if (pt_cmpR op_gt (pe_call GT hr (by rfl) mT kT bT .nil pass0 (pa_cons (pv 0) (pa_cons pe_int pa_nil))) pe_int (nomark _)) (pss_one (ps_ret (pe_tup (pa_cons (pv 1) (pa_cons (pv 3) (pa_cons (pe_tup pa_nil) pa_nil)))))) pss_nil)
      (pss_cons (ps_par3 (i := 5) (j := 6) (l := 7) (by rfl) scAct.nd rfl rfl rfl (by decide) (by decide) (by decide) rfl rfl rfl (pa_cons (pe_call GT hr (by rfl) mT kT bT .nil pass0 (pa_cons (pv 0) (pa_cons pe_int pa_nil)))
        (pa_cons (pe_call GT hr (by rfl) mT kT bT .nil pass0 (pa_cons (pv 0) (pa_cons pe_int pa_nil))) (pa_cons (pe_call GT hr (by rfl) mT kT bT .nil pass0 (pa_cons (pv 0) (pa_cons pe_int pa_nil))) pa_nil))) (by rfl))
      (pss_one (ps_ret (pe_tup (pa_cons (pv 1) (pa_cons (pv 3) (pa_cons (pe_tup (pa_cons (pv 5) (pa_cons (pv 6) (pa_cons (pe_op op_mod (pe_callTy call_int1 (by rfl) T.int (by decide +kernel) (pa_cons (pe_op op_add (pe_op op_add (pv 5) pe_int) (pv 7)) pa_nil)) pe_int) pa_nil)))) pa_nil)))))))))
      , ?_⟩
    refine ⟨_, rfl, p, 4, rfl, hp, by decide, by decide, fun wd H1 wl hp1 o1 => ?_⟩
    refine ⟨8, rfl, ⟨by decide, by decide, by decide, by decide, by decide⟩, fun l nl => ?_⟩
    refine ⟨Nat.zero_le _, fun pl npl => ⟨_, _, _, rfl, ?_⟩⟩
    have nlp := bag_new hp1 nl
    have x1 := same_new (o := .lst ((List.range 8).map iv)) nl
    have hp2 := hp1.ext x1
    have nplp := bag_new hp2 npl
    have x2 := same_new (o := .lst []) npl
    have npll : pl ≠ l := fun e => by
      rw [e] at npl
      exact absurd (npl.symm.trans (new_at (o := .lst (rgV 0 8)) nl)) (by intro z; cases z)
    have hp3 := hp2.ext x2
    have o3 := (o1.trans (Same.off (p := p) x1)).trans (Same.off x2)
    have hl3 := x2 _ _ (new_at (o := .lst ((List.range 8).map iv)) nl)
    have hpl3 := new_at (o := .lst []) npl
    have lH : H l = none := off_none o1 nlp nl
    have plH : H pl = none := off_none (o1.trans (Same.off (p := p) x1)) nplp npl
    refine ⟨_, rfl, rfl, _, rfl, ?_⟩
    refine ite2 (fun e3 => ?_) (fun e3 => ?_)
    · have w3 : wd = 3 := Int.ofNat.inj (V.int.inj (of_decide_eq_true e3))
      refine ⟨_, rfl, p, 6, rfl, hp3, by decide, by decide, fun rr HS rrl hpS o4 => ?_⟩
      refine ⟨_, _, rfl, rfl, _, rfl, by omega, by omega, ?_⟩
      have oS := o3.trans o4
      have hlS := o4 l _ nlp hl3
      have hplS := o4 pl _ nplp hpl3
      have hn8 : 3 + rr ≤ 8 := by omega
      refine for_range (lo := 0) (fun i σ H' => (∃ v, σ = [some (.ref p), some (iv wd), some (.ref l), some (.ref pl), v, none, none, none]) ∧ BagAt H' p ∧ Off p H H' ∧ ∃ ls qs : List Nat, H' l = some (.lst (ls.map iv)) ∧ H' pl = some (.lst (qs.map iv)) ∧ (qs ++ ls).Perm (List.range 8) ∧ qs.length = i)
        ⟨⟨_, rfl⟩, hpS, oS, List.range 8, [], hlS, hplS, List.Perm.refl _, rfl⟩ (fun i σ H' hi h => ?_) (fun σ H' h => ?_)
      · obtain ⟨⟨v, rfl⟩, hpB, oo, ls, qs, hl, hq, pm, ql⟩ := h
        have lens := pm.length_eq
        rw [List.length_append, List.length_range] at lens
        have hi : i < 3 + rr := by have := hi; omega
        refine ⟨_, rfl, .inl ⟨rfl, _, SqL.of hq⟩, _, rfl, .inl ⟨rfl, _, SqL.of hl⟩, _, rfl, _, rfl, l, _, rfl, .inl (SqL.of hl), p, ls.length, (by rw [List.length_map]; rfl), hpB, by omega, by omega, fun r H2 rl hp2 o2 => ?_⟩
        have hl2 := o2 l _ nlp hl
        have hq2 := o2 pl _ nplp hq
        refine ⟨l, _, (r : Int), r, _, rfl, rfl, hl2, by omega, by omega, seq_nat (by rw [List.length_map]; exact rl), ivs_get ls rl, ?_⟩
        refine ⟨pl, _, _, rfl, rfl, by rw [upd_ne npll]; exact hq2, by rw [List.length_map]; omega, ?_⟩
        have bag : BagAt (upd (upd H2 l (.lst ((ls.map iv).eraseIdx r))) pl (.lst (qs.map iv ++ [iv (ls.getD r 0)]))) p := by
          obtain ⟨m, d, c, e⟩ := hp2
          exact ⟨m, d, c, by rw [upd_ne nplp.symm, upd_ne nlp.symm]; exact e⟩
        refine ⟨⟨_, rfl⟩, bag, off_upd (off_upd (oo.trans o2) lH) plH, ls.eraseIdx r, qs ++ [ls.getD r 0], ?_, ?_, ?_, ?_⟩
        · rw [upd_ne npll.symm, upd_same, iv_erase]
        · rw [upd_same, List.map_append]
          rfl
        · rw [List.append_assoc]
          exact ((erase_perm ls r rl).append_left qs).trans pm
        · rw [List.length_append, ql]
          rfl
      · obtain ⟨⟨v, rfl⟩, hpB, oo, ls, qs, hl, hq, pm, ql⟩ := h
        have nd : qs.Nodup := (List.nodup_append.mp (pm.nodup_iff.mpr List.nodup_range)).1
        have lt8 : ∀ x ∈ qs, x < 8 := fun x hx => List.mem_range.mp (pm.mem_iff.mp (List.mem_append_left _ hx))
        have qlen : qs.length = 3 + rr := by rw [ql]; omega
        have okN : ∀ g, (∀ a b c, g = some (a, b, c) → a < 4 ∧ b < 4 ∧ c < 4 ∧ a ≠ c) → ActOk wd qs g := fun g hg => ⟨wl, fun e => by omega, fun e => by omega, nd, lt8, hg⟩
        refine ⟨_, rfl, p, 3, rfl, hpB, by decide, by decide, fun r3 H5 r3l hp5 o5 => ?_⟩
        refine ⟨_, _, rfl, rfl, _, rfl, ?_⟩
        have hq5 := o5 pl _ nplp hq
        refine ite2 (fun _ => ?_) (fun _ => ?_)
        · refine ⟨_, rfl, _, rfl, Nat.zero_le _, fun u nu => ?_⟩
          refine ⟨(by show 3 ≤ sizeLine; omega), fun t nt => ?_⟩
          have y1 := same_new (o := .tup []) nu
          have y2 := same_new (o := .tup [iv wd, .ref pl, .ref u]) nt
          have y := y1.trans y2
          exact q t wd qs none _ (hp5.ext y) ((oo.trans o5).trans (Same.off y)) ⟨pl, u, off_none ((oo.trans o5).trans (Same.off y1)) (bag_new (hp5.ext y1) nt) nt, plH, off_none (oo.trans o5) (bag_new hp5 nu) nu, upd_same, y _ _ hq5, y2 _ _ (new_at nu)⟩ (okN none fun a b c e => by cases e)
        · refine ⟨_, rfl, p, 4, rfl, hp5, by decide, by decide, fun ga H6 gal hp6 o6 => ?_⟩
          refine ⟨_, rfl, p, 4, rfl, hp6, by decide, by decide, fun gb H7 gbl hp7 o7 => ?_⟩
          refine ⟨_, rfl, p, 3, rfl, hp7, by decide, by decide, fun gc H8 gcl hp8 o8 => ⟨_, _, _, rfl, ?_⟩⟩
          have hq8 := o8 pl _ nplp (o7 pl _ nplp (o6 pl _ nplp hq5))
          refine ⟨_, rfl, _, rfl, _, rfl, _, rfl, _, rfl, _, _, rfl, rfl, _, rfl, _, _, rfl, rfl, .inl ⟨_, rfl, _, _, rfl, rfl, (by show (0 : Int) < 4; decide), ?_⟩⟩
          have em : ((ga : Int) + 1 + (gc : Int)) % 4 = (((ga + 1 + gc) % 4 : Nat) : Int) := by omega
          refine ⟨(by show 3 ≤ sizeLine; omega), fun u nu => ?_⟩
          refine ⟨(by show 3 ≤ sizeLine; omega), fun t nt => ?_⟩
          have y1 := same_new (o := .tup [.int (ga : Int), .int (gb : Int), .int (((ga : Int) + 1 + (gc : Int)) % 4)]) nu
          have y2 := same_new (o := .tup [iv wd, .ref pl, .ref u]) nt
          have y := y1.trans y2
          exact q t wd qs (some (ga, gb, (ga + 1 + gc) % 4)) _ (hp8.ext y) (((((oo.trans o5).trans o6).trans o7).trans o8).trans (Same.off y)) ⟨pl, u, off_none (((((oo.trans o5).trans o6).trans o7).trans o8).trans (Same.off y1)) (bag_new (hp8.ext y1) nt) nt, plH, off_none ((((oo.trans o5).trans o6).trans o7).trans o8) (bag_new hp8 nu) nu, upd_same, y _ _ hq8, ((y2 _ _ (new_at nu)).trans (congrArg (fun z => some (HO.tup [V.int (ga : Int), V.int (gb : Int), V.int z])) em))⟩ (okN _ fun a b c e => by
            cases e
            exact ⟨gal, gbl, Nat.mod_lt _ (by decide), by omega⟩)
    · have w3 : ¬ wd = 3 := fun e => e3 (decide_eq_true (by rw [e]; rfl))
      refine ⟨_, rfl, by omega, by omega, ?_⟩
      have hpS := hp3
      have oS := o3
      have hlS := hl3
      have hplS := hpl3
      have hn8 : 2 ≤ 8 := by omega
      refine for_range (lo := 0) (fun i σ H' => (∃ v, σ = [some (.ref p), some (iv wd), some (.ref l), some (.ref pl), v, none, none, none]) ∧ BagAt H' p ∧ Off p H H' ∧ ∃ ls qs : List Nat, H' l = some (.lst (ls.map iv)) ∧ H' pl = some (.lst (qs.map iv)) ∧ (qs ++ ls).Perm (List.range 8) ∧ qs.length = i)
        ⟨⟨_, rfl⟩, hpS, oS, List.range 8, [], hlS, hplS, List.Perm.refl _, rfl⟩ (fun i σ H' hi h => ?_) (fun σ H' h => ?_)
      · obtain ⟨⟨v, rfl⟩, hpB, oo, ls, qs, hl, hq, pm, ql⟩ := h
        have lens := pm.length_eq
        rw [List.length_append, List.length_range] at lens
        have hi : i < 2 := by have := hi; omega
        refine ⟨_, rfl, .inl ⟨rfl, _, SqL.of hq⟩, _, rfl, .inl ⟨rfl, _, SqL.of hl⟩, _, rfl, _, rfl, l, _, rfl, .inl (SqL.of hl), p, ls.length, (by rw [List.length_map]; rfl), hpB, by omega, by omega, fun r H2 rl hp2 o2 => ?_⟩
        have hl2 := o2 l _ nlp hl
        have hq2 := o2 pl _ nplp hq
        refine ⟨l, _, (r : Int), r, _, rfl, rfl, hl2, by omega, by omega, seq_nat (by rw [List.length_map]; exact rl), ivs_get ls rl, ?_⟩
        refine ⟨pl, _, _, rfl, rfl, by rw [upd_ne npll]; exact hq2, by rw [List.length_map]; omega, ?_⟩
        have bag : BagAt (upd (upd H2 l (.lst ((ls.map iv).eraseIdx r))) pl (.lst (qs.map iv ++ [iv (ls.getD r 0)]))) p := by
          obtain ⟨m, d, c, e⟩ := hp2
          exact ⟨m, d, c, by rw [upd_ne nplp.symm, upd_ne nlp.symm]; exact e⟩
        refine ⟨⟨_, rfl⟩, bag, off_upd (off_upd (oo.trans o2) lH) plH, ls.eraseIdx r, qs ++ [ls.getD r 0], ?_, ?_, ?_, ?_⟩
        · rw [upd_ne npll.symm, upd_same, iv_erase]
        · rw [upd_same, List.map_append]
          rfl
        · rw [List.append_assoc]
          exact ((erase_perm ls r rl).append_left qs).trans pm
        · rw [List.length_append, ql]
          rfl
      · obtain ⟨⟨v, rfl⟩, hpB, oo, ls, qs, hl, hq, pm, ql⟩ := h
        have nd : qs.Nodup := (List.nodup_append.mp (pm.nodup_iff.mpr List.nodup_range)).1
        have lt8 : ∀ x ∈ qs, x < 8 := fun x hx => List.mem_range.mp (pm.mem_iff.mp (List.mem_append_left _ hx))
        have qlen : qs.length = 2 := by rw [ql]; omega
        have okN : ∀ g, (∀ a b c, g = some (a, b, c) → a < 4 ∧ b < 4 ∧ c < 4 ∧ a ≠ c) → ActOk wd qs g := fun g hg => ⟨wl, fun e => by omega, fun e => by omega, nd, lt8, hg⟩
        refine ⟨_, rfl, p, 3, rfl, hpB, by decide, by decide, fun r3 H5 r3l hp5 o5 => ?_⟩
        refine ⟨_, _, rfl, rfl, _, rfl, ?_⟩
        have hq5 := o5 pl _ nplp hq
        refine ite2 (fun _ => ?_) (fun _ => ?_)
        · refine ⟨_, rfl, _, rfl, Nat.zero_le _, fun u nu => ?_⟩
          refine ⟨(by show 3 ≤ sizeLine; omega), fun t nt => ?_⟩
          have y1 := same_new (o := .tup []) nu
          have y2 := same_new (o := .tup [iv wd, .ref pl, .ref u]) nt
          have y := y1.trans y2
          exact q t wd qs none _ (hp5.ext y) ((oo.trans o5).trans (Same.off y)) ⟨pl, u, off_none ((oo.trans o5).trans (Same.off y1)) (bag_new (hp5.ext y1) nt) nt, plH, off_none (oo.trans o5) (bag_new hp5 nu) nu, upd_same, y _ _ hq5, y2 _ _ (new_at nu)⟩ (okN none fun a b c e => by cases e)
        · refine ⟨_, rfl, p, 4, rfl, hp5, by decide, by decide, fun ga H6 gal hp6 o6 => ?_⟩
          refine ⟨_, rfl, p, 4, rfl, hp6, by decide, by decide, fun gb H7 gbl hp7 o7 => ?_⟩
          refine ⟨_, rfl, p, 3, rfl, hp7, by decide, by decide, fun gc H8 gcl hp8 o8 => ⟨_, _, _, rfl, ?_⟩⟩
          have hq8 := o8 pl _ nplp (o7 pl _ nplp (o6 pl _ nplp hq5))
          refine ⟨_, rfl, _, rfl, _, rfl, _, rfl, _, rfl, _, _, rfl, rfl, _, rfl, _, _, rfl, rfl, .inl ⟨_, rfl, _, _, rfl, rfl, (by show (0 : Int) < 4; decide), ?_⟩⟩
          have em : ((ga : Int) + 1 + (gc : Int)) % 4 = (((ga + 1 + gc) % 4 : Nat) : Int) := by omega
          refine ⟨(by show 3 ≤ sizeLine; omega), fun u nu => ?_⟩
          refine ⟨(by show 3 ≤ sizeLine; omega), fun t nt => ?_⟩
          have y1 := same_new (o := .tup [.int (ga : Int), .int (gb : Int), .int (((ga : Int) + 1 + (gc : Int)) % 4)]) nu
          have y2 := same_new (o := .tup [iv wd, .ref pl, .ref u]) nt
          have y := y1.trans y2
          exact q t wd qs (some (ga, gb, (ga + 1 + gc) % 4)) _ (hp8.ext y) (((((oo.trans o5).trans o6).trans o7).trans o8).trans (Same.off y)) ⟨pl, u, off_none (((((oo.trans o5).trans o6).trans o7).trans o8).trans (Same.off y1)) (bag_new (hp8.ext y1) nt) nt, plH, off_none ((((oo.trans o5).trans o6).trans o7).trans o8) (bag_new hp8 nu) nu, upd_same, y _ _ hq8, ((y2 _ _ (new_at nu)).trans (congrArg (fun z => some (HO.tup [V.int (ga : Int), V.int (gb : Int), V.int z])) em))⟩ (okN _ fun a b c e => by
            cases e
            exact ⟨gal, gbl, Nat.mod_lt _ (by decide), by omega⟩)
end
end Sq.N3
namespace Sq.N3
open PySem L2 TL
/-! ### the text of a program and what is read of it -/
/-- nests whose texts are as the law makes them -/
structure NestT (n : NestD) : Prop where
  l1 : n.1.length ≤ 40
  l2 : n.2.1.length ≤ 40
  c1 : ∀ c ∈ tl n.1, c < 128
  c2 : ∀ c ∈ tl n.2.1, c < 128
  n1 : 10 ∉ tl n.1
  n2 : 10 ∉ tl n.2.1
  b1 : loopB obs n.1 = true
  b2 : loopB (obs ++ ibs) n.2.1 = true
  dl : n.2.2.length ≤ 6
  ds : ∀ d ∈ n.2.2, DeedRow d
theorem NestT.ok {n : NestD} (h : NestT n) : NestOk n := by
  have big : 100 ≤ sizeLine := by decide
  have h1 := h.l1
  have h2 := h.l2
  exact ⟨by omega, by omega, h.b1, h.b2, fun d hd => Nat.le_trans (h.ds d hd).ln (by decide), fw_none _ _ _ (fun b hb => by obtain ⟨d, hd, rfl⟩ := List.mem_map.mp hb; exact (h.ds d hd).ok) (by rw [List.length_map]; have := h.dl; omega)⟩
def rowsOf (n : NestD) : List Str := (ofrom ++ n.1) :: (jfrom ++ n.2.1) :: n.2.2
def progT (ns : List NestD) : Str := Txt.join "\n" (ns.map rowsOf).flatten
theorem nestOf_rows (n : NestD) : nestOf (rowsOf n) = n := by
  show (Txt.removeprefix (ofrom ++ n.1) ofrom, Txt.removeprefix (jfrom ++ n.2.1) jfrom, n.2.2) = n
  rw [cut_app, cut_app]
theorem nestB_rows {n : NestD} (h : NestT n) : nestB (rowsOf n) = true := by
  unfold rowsOf
  rw [nestB_cons, behind_app, behind_app, show okLoop obs (.str n.1) = true from h.b1, show okLoop (obs ++ ibs) (.str n.2.1) = true from h.b2, h.ok.ds.2]
  rfl
theorem j_not (x : Str) : Txt.startswith (jfrom ++ x) ofrom = false := by
  rw [starts_pre, tl_append]
  have e1 : tl ofrom = [105, 32, 102, 114, 111, 109, 32] := by decide +kernel
  have e2 : tl jfrom = [106, 32, 102, 114, 111, 109, 32] := by decide +kernel
  rw [e1, e2]
  rfl
theorem add_first {gs : List (List Str)} {r : Str} (h : Txt.startswith r ofrom = true) : addRow gs r = gs ++ [[r]] := by
  unfold addRow
  rw [if_pos (.inr h)]
theorem add_next {gs : List (List Str)} {g : List Str} {r : Str} (h : Txt.startswith r ofrom = false) : addRow (gs ++ [g]) r = gs ++ [g ++ [r]] := by
  unfold addRow
  rw [if_neg (fun e => e.elim (fun e => by simp at e) (fun e => by rw [h] at e; cases e)), List.dropLast_concat, List.getLast?_concat]
  rfl
theorem add_all {gs : List (List Str)} : ∀ (rs g : List Str), (∀ r ∈ rs, Txt.startswith r ofrom = false) → rs.foldl addRow (gs ++ [g]) = gs ++ [g ++ rs]
  | [], g, _ => by rw [List.append_nil]; rfl
  | r :: rs, g, h => by
    show rs.foldl addRow (addRow (gs ++ [g]) r) = _
    rw [add_next (h r List.mem_cons_self), add_all rs (g ++ [r]) fun x hx => h x (List.mem_cons_of_mem _ hx), List.append_assoc]
    rfl
theorem add_nest {gs : List (List Str)} {n : NestD} (h : NestT n) : (rowsOf n).foldl addRow gs = gs ++ [rowsOf n] := by
  show ((jfrom ++ n.2.1) :: n.2.2).foldl addRow (addRow gs (ofrom ++ n.1)) = _
  rw [add_first (starts_app ofrom n.1), add_all]
  · rfl
  · intro r hr
    rcases List.mem_cons.mp hr with e | e
    · rw [e]
      exact j_not _
    · exact (h.ds r e).st
theorem add_nests : ∀ (ns : List NestD) (gs : List (List Str)), (∀ n ∈ ns, NestT n) → (ns.map rowsOf).flatten.foldl addRow gs = gs ++ ns.map rowsOf
  | [], gs, _ => by simp
  | n :: ns, gs, h => by
    rw [List.map_cons, List.flatten_cons, List.foldl_append, add_nest (h n List.mem_cons_self), add_nests ns _ fun m hm => h m (List.mem_cons_of_mem _ hm), List.append_assoc]
    rfl
theorem rows_nl {n : NestD} (h : NestT n) : ∀ r ∈ rowsOf n, 10 ∉ tl r ∧ r.length ≤ 200 := by
  have e1 : 10 ∉ tl ofrom := by decide +kernel
  have e2 : 10 ∉ tl jfrom := by decide +kernel
  have l1 : ofrom.length = 7 := by decide +kernel
  have l2 : jfrom.length = 7 := by decide +kernel
  have h1 := h.l1
  have h2 := h.l2
  intro r hr
  rcases List.mem_cons.mp hr with e | e
  · rw [e, tl_append, str_len_append]
    exact ⟨fun m => (List.mem_append.mp m).elim e1 h.n1, by omega⟩
  · rcases List.mem_cons.mp e with e | e
    · rw [e, tl_append, str_len_append]
      exact ⟨fun m => (List.mem_append.mp m).elim e2 h.n2, by omega⟩
    · exact ⟨(h.ds r e).nl, (h.ds r e).ln⟩
theorem flat_all {ns : List NestD} (h : ∀ n ∈ ns, NestT n) : ∀ r ∈ (ns.map rowsOf).flatten, 10 ∉ tl r ∧ r.length ≤ 200 := by
  intro r hr
  obtain ⟨g, hg, hr⟩ := List.mem_flatten.mp hr
  obtain ⟨n, hn, rfl⟩ := List.mem_map.mp hg
  exact rows_nl (h n hn) r hr
theorem flat_len : ∀ {ns : List NestD}, (∀ n ∈ ns, NestT n) → (ns.map rowsOf).flatten.length ≤ 8 * ns.length
  | [], _ => Nat.zero_le _
  | n :: ns, h => by
    have ih := flat_len (ns := ns) fun m hm => h m (List.mem_cons_of_mem _ hm)
    rw [List.map_cons, List.flatten_cons, List.length_append, List.length_cons]
    have h1 : (rowsOf n).length = n.2.2.length + 2 := rfl
    have h2 := (h n List.mem_cons_self).dl
    omega
theorem prog_split {ns : List NestD} (h : ∀ n ∈ ns, NestT n) (hne : ns ≠ []) : Txt.split (progT ns) "\n" = (ns.map rowsOf).flatten := by
  refine split_join (s := 10) (S := []) (by decide +kernel) (by decide +kernel) ?_ fun r hr => (flat_all h r hr).1
  cases ns with
  | nil => exact absurd rfl hne
  | cons n ns => exact List.cons_ne_nil _ _
theorem prog_len {ns : List NestD} (h : ∀ n ∈ ns, NestT n) (hl : ns.length ≤ 5) : (progT ns).length ≤ 8040 := by
  rw [len_tl]
  unfold progT
  rw [join_eq, tl_join, show tl ("\n" : Str) = [10] from by decide +kernel]
  have z := joinL_len (S := [10]) (m := 200) (ps := ((ns.map rowsOf).flatten).map tl) fun p hp => by
    obtain ⟨r, hr, rfl⟩ := List.mem_map.mp hp
    have := (flat_all h r hr).2
    rw [len_tl] at this
    exact this
  rw [List.length_map] at z
  have y := flat_len h
  have : ([10] : List Nat).length = 1 := rfl
  rw [this] at z
  have k : (ns.map rowsOf).flatten.length * (200 + 1) ≤ 40 * 201 := Nat.mul_le_mul_right _ (by omega)
  omega
theorem prog_ne {ns : List NestD} (hne : ns ≠ []) : progT ns ≠ "" := by
  intro e
  have e1 := congrArg tl e
  unfold progT at e1
  rw [join_eq, tl_join] at e1
  cases ns with
  | nil => exact hne rfl
  | cons n ns =>
    have e2 : tl (ofrom ++ n.1) ≠ [] := by
      rw [tl_append, show tl ofrom = [105, 32, 102, 114, 111, 109, 32] from by decide +kernel]
      exact List.cons_ne_nil _ _
    have e3 := congrArg List.head? e1
    rw [List.map_cons, List.flatten_cons] at e3
    have e4 := joinL_head (S := tl ("\n" : Str)) e2 (((jfrom ++ n.2.1) :: n.2.2 ++ (ns.map rowsOf).flatten).map tl)
    have e5 : (tl ("" : Str)).head? = none := by decide +kernel
    rw [e5] at e3
    have e6 : (tl (ofrom ++ n.1)).head? = none := e4.symm.trans e3
    rw [tl_append, show tl ofrom = [105, 32, 102, 114, 111, 109, 32] from by decide +kernel] at e6
    cases e6
theorem prog_parts {ns : List NestD} (h : ∀ n ∈ ns, NestT n) : partsOf (progT ns) = ns.map rowsOf := by
  unfold partsOf
  by_cases hne : ns = []
  · rw [hne]
    rfl
  · rw [if_neg (prog_ne hne), prog_split h hne]
    exact add_nests ns [] h
theorem prog_nests {ns : List NestD} (h : ∀ n ∈ ns, NestT n) : nestsOf (progT ns) = ns := by
  unfold nestsOf
  rw [prog_parts h, List.map_map]
  have e : (nestOf ∘ rowsOf) = id := funext nestOf_rows
  rw [e, List.map_id]
theorem prog_right {ns : List NestD} (h : ∀ n ∈ ns, NestT n) (hl : ns.length ≤ 4) : progB (progT ns) = true := by
  unfold progB
  rw [prog_parts h, List.length_map, decide_eq_true hl, Bool.true_and, List.all_map, List.all_eq_true]
  exact fun n hn => nestB_rows (h n hn)
theorem split_empty : Txt.split "" "\n" = [("" : Str)] := by
  exact split_join (y := "\n") (s := 10) (S := []) (by decide +kernel) (by decide +kernel) (parts := [("" : Str)]) (List.cons_ne_nil _ _) fun p hp => by
    rw [List.mem_singleton.mp hp]
    decide +kernel
theorem prog_ok {ns : List NestD} (h : ∀ n ∈ ns, NestT n) (hl : ns.length ≤ 5) : TextOk (progT ns) := by
  have h1 := prog_len h hl
  have big : 10000 ≤ sizeLine := by decide
  by_cases hne : ns = []
  · rw [hne]
    have e : progT [] = "" := rfl
    rw [e]
    have l0 : ("" : Str).length = 0 := by decide +kernel
    refine ⟨by omega, by rw [split_empty]; exact Nat.succ_le_of_lt (by decide), fun r hr => ?_⟩
    rw [split_empty] at hr
    rw [List.mem_singleton.mp hr, l0]
    exact Nat.zero_le _
  · have h2 := flat_len h
    exact ⟨by omega, by rw [prog_split h hne]; omega, fun r hr => by rw [prog_split h hne] at hr; exact Nat.le_trans (flat_all h r hr).2 (by decide)⟩
/-! ### data to be shown -/
theorem strs_show : ∀ ds : List Str, PyData.showableAll (ds.map PyData.str) = true
  | [] => by rw [List.map_nil]; simp [PyData.showableAll]
  | d :: ds => by rw [List.map_cons]; simp [PyData.showableAll, PyData.showable, strs_show ds]
theorem strs_dict : ∀ ds : List Str, PyData.hasDictAll (ds.map PyData.str) = false
  | [] => by rw [List.map_nil]; simp [PyData.hasDictAll]
  | d :: ds => by rw [List.map_cons]; simp [PyData.hasDictAll, PyData.hasDict, strs_dict ds]
theorem strs_depth : ∀ ds : List Str, PyData.depthAll (ds.map PyData.str) ≤ 1
  | [] => by rw [List.map_nil]; simp [PyData.depthAll]
  | d :: ds => by rw [List.map_cons]; simp [PyData.depthAll, PyData.depth, strs_depth ds]
theorem strs_short : ∀ ds : List Str, (∀ d ∈ ds, ∀ c ∈ tl d, c < 128) → PyData.leavesShortAll 8 (ds.map PyData.str) = true
  | [], _ => by rw [List.map_nil]; simp [PyData.leavesShortAll]
  | d :: ds, h => by
    have h1 : d.cps.toList.all (fun c => decide (c < 16 ^ 8)) = true := List.all_eq_true.mpr fun c hc => decide_eq_true (Nat.lt_trans (h d List.mem_cons_self c hc) (by decide))
    rw [List.map_cons]
    simp only [PyData.leavesShortAll, PyData.leavesShort, h1, Bool.true_and]
    exact strs_short ds fun e he => h e (List.mem_cons_of_mem _ he)
theorem strs_bulk {m : Nat} : ∀ ds : List Str, (∀ d ∈ ds, d.length ≤ m) → PyData.bulkAll (ds.map PyData.str) ≤ (m + 1) * ds.length
  | [], _ => by rw [List.map_nil]; simp [PyData.bulkAll]
  | d :: ds, h => by
    have ih := strs_bulk (m := m) ds fun e he => h e (List.mem_cons_of_mem _ he)
    have h1 : d.cps.size ≤ m := h d List.mem_cons_self
    rw [List.map_cons, List.length_cons, Nat.mul_add]
    simp only [PyData.bulkAll, PyData.bulk]
    omega
def dR (n : NestD) : PyData := .list [.str n.1, .str n.2.1, .tuple (n.2.2.map .str), .int (n.2.2.length : Int)]
def dT (ds : List Str) : PyData := .tuple (ds.map .str)
structure Shows (d : PyData) : Prop where
  sh : d.showable = true
  di : d.hasDict = false
  de : d.depth ≤ 20
  ln : d.shown.length ≤ sizeLine
theorem int_short : ∀ n : _root_.Fin 7, (PyData.shown (.int (n.val : Int))).length ≤ 8 := by decide +kernel
theorem dT_ok {n : NestD} (h : NestT n) : Shows (dT n.2.2) := by
  have dl := h.dl
  have hd := strs_depth n.2.2
  refine ⟨by simp [dT, PyData.showable, strs_show], by simp [dT, PyData.hasDict, strs_dict], by simp only [dT, PyData.depth]; omega, ?_⟩
  have z := PyData.shown_le_bulk 8 (Nat.le_refl _) (dT n.2.2) (by simp only [dT, PyData.leavesShort]; exact strs_short _ fun d hd => (h.ds d hd).cp)
  have b := strs_bulk (m := 200) n.2.2 fun d hd => (h.ds d hd).ln
  have e : (dT n.2.2).bulk = PyData.bulkAll (n.2.2.map .str) := by simp only [dT, PyData.bulk]
  have k : (200 + 1) * n.2.2.length ≤ 201 * 6 := Nat.mul_le_mul_left _ dl
  have big : 20000 ≤ sizeLine := by decide
  rw [e] at z
  omega
theorem log_small {n : Nat} (h : n ≤ 6) : n.log2 < 1920 :=
  have k : ∀ i : _root_.Fin 7, i.val.log2 < 1920 := by decide +kernel
  k ⟨n, by omega⟩
theorem dR_ok {n : NestD} (h : NestT n) : Shows (dR n) := by
  have dl := h.dl
  have hd := strs_depth n.2.2
  have h1 : n.1.cps.toList.all (fun c => decide (c < 16 ^ 8)) = true := List.all_eq_true.mpr fun c hc => decide_eq_true (Nat.lt_trans (h.c1 c hc) (by decide))
  have h2 : n.2.1.cps.toList.all (fun c => decide (c < 16 ^ 8)) = true := List.all_eq_true.mpr fun c hc => decide_eq_true (Nat.lt_trans (h.c2 c hc) (by decide))
  have h3 := strs_short n.2.2 fun d hd => (h.ds d hd).cp
  have h4 : (PyData.shown (.int (n.2.2.length : Int))).length ≤ 8 := int_short ⟨n.2.2.length, by omega⟩
  refine ⟨by simp [dR, PyData.showable, PyData.showableAll, strs_show]; exact log_small dl, by simp [dR, PyData.hasDict, PyData.hasDictAll, strs_dict], by simp only [dR, PyData.depth, PyData.depthAll]; omega, ?_⟩
  have z := PyData.shown_le_bulk 8 (Nat.le_refl _) (dR n) (by simp only [dR, PyData.leavesShort, PyData.leavesShortAll, h1, h2, h3, decide_eq_true h4, Bool.and_true])
  have b := strs_bulk (m := 200) n.2.2 fun d hd => (h.ds d hd).ln
  have e : (dR n).bulk = n.1.cps.size + 1 + (n.2.1.cps.size + 1 + (PyData.bulkAll (n.2.2.map .str) + 1 + (0 + 1 + 0))) := by simp only [dR, PyData.bulk, PyData.bulkAll]
  have k : (200 + 1) * n.2.2.length ≤ 201 * 6 := Nat.mul_le_mul_left _ dl
  have l1 : n.1.cps.size ≤ 40 := h.l1
  have l2 : n.2.1.cps.size ≤ 40 := h.l2
  have big : 20000 ≤ sizeLine := by decide
  rw [e] at z
  omega
end Sq.N3
namespace Sq.N3
open PySem L2 TL
abbrev sMadeN : Stmt := top 67
/-- all that is known of the class Nest -/
structure NestK (P : Program) (w : World) (K : PySem.W.Frag) (mg : Str → Option Value) (base : Heap) (C : Addr) : Prop where
  nc : Nc K C
  isn : Isn K C
  mN : mg "Nest" = some (.ref C)
  mks : ∃ fi, Mk K C fi ∧ FnR P w K mg base CX0 4 fi (spMade K C)
  p1 : ∃ p g d, PropOf K C "outer" p g ∧ FnOk P w K mg base CX0 1 g d ["self"] (getSp C "_outer") ∧ Binds K d ["self"] []
  p2 : ∃ p g d, PropOf K C "inner" p g ∧ FnOk P w K mg base CX0 1 g d ["self"] (getSp C "_inner") ∧ Binds K d ["self"] []
  p3 : ∃ p g d, PropOf K C "deeds" p g ∧ FnOk P w K mg base CX0 1 g d ["self"] (getSp C "_deeds") ∧ Binds K d ["self"] []
  len : ∃ f, PySem.W.findIn K (.ref C) "__len__" = some (some (.ref f)) ∧ PySem.W.isFn K (.ref f) = true ∧ FnR P w K mg base CX0 1 f (spNLen C)
  bool : ∃ f, PySem.W.findIn K (.ref C) "__bool__" = some (some (.ref f)) ∧ PySem.W.isFn K (.ref f) = true ∧ FnR P w K mg base CX0 1 f (spNBool C)
  eq : ∃ f, PySem.W.findIn K (.ref C) "__eq__" = some (some (.ref f)) ∧ PySem.W.isFn K (.ref f) = true ∧ FnR P w K mg base CX0 1 f (spNEq C)
def spMadeN (K : PySem.W.Frag) (C : Addr) : Sp := fun vs H Q _ => ∃ (n : NestD) (l : Addr), vs = [.str n.1, .str n.2.1, .ref l] ∧ SqL K H l (n.2.2.map V.str) ∧ NestOk n ∧ ∀ (x : Addr) (H' : Hp), Same H H' → NestIs C H' x n → Q (.ref x) H'
section
variable {P : Program} {w : World} {K : PySem.W.Frag} {mg : Str → Option Value} {base : Heap} {C : Addr}
theorem scMadeN : FnScope ["_law_over", "_law_under", "_law_deeds", "_law_a", "_law_b", "_law_c", "_law_d", "_law_e", "_law_f", "_law_g", "_law_h"] ["_law_over", "_law_under", "_law_deeds"] (defScope sMadeN) := ⟨rfl, rfl, rfl, by decide +kernel, rfl, by decide +kernel, by decide +kernel⟩
theorem ok_madeN {f : Addr} {fd : FuncData} (F : Fun K "_law_made_nest" "_law_made_nest" sMadeN f fd) (T : Bt mg) (hli : mg "list" = none) (NK : NestK P w K mg base C) : FnOk P w K mg base CX0 6 f fd ["_law_over", "_law_under", "_law_deeds"] (spMadeN K C) := by
  obtain ⟨fi, mk, GR⟩ := NK.mks
  have mN := NK.mN
  refine F.ok scMadeN (fun vs H Q E h => ?_) (fun cdv A outer s H vs Q E hr h => ?_)
  · obtain ⟨n, l, rfl, _⟩ := h
    rfl
  · obtain ⟨⟨o, i, ds⟩, l, rfl, hl, ok, q⟩ := h
    have big : 1000 ≤ sizeLine := by decide
    have hl : SqL K H l (ds.map V.str) := hl
    have h6 : ds.length ≤ 6 := deeds_len ok.ds
    refine ⟨_, pss_cons (ps_asg (pe_slice sl_list (pe_op op_cat (pe_callTy call_list_of (by rfl) hli (by decide +kernel) (pa_cons (pv 2) pa_nil)) (pe_op op_rep (pe_lst (pa_cons pe_non pa_nil)) pe_int)) po_none (po_some pe_int)) (pg_unl rfl (pgs_cons (pg_name (i := 3) scMadeN.nd rfl (.inl rfl)) (pgs_cons (pg_name (i := 4) scMadeN.nd rfl (.inl rfl)) (pgs_cons (pg_name (i := 5) scMadeN.nd rfl (.inl rfl)) (pgs_cons (pg_name (i := 6) scMadeN.nd rfl (.inl rfl)) (pgs_cons (pg_name (i := 7) scMadeN.nd rfl (.inl rfl)) (pgs_cons (pg_name (i := 8) scMadeN.nd rfl (.inl rfl)) (pgs_cons (pg_name (i := 9) scMadeN.nd rfl (.inl rfl)) (pgs_cons (pg_name (i := 10) scMadeN.nd rfl (.inl rfl)) pgs_nil))))))))))
      (pss_cons (ps_if (pt_cmpR op_eq (pe_callB call_len_seq (by rfl) T.len PySem.boot_len (pa_cons (pv 2) pa_nil)) pe_int (nomark _)) (pss_one (ps_ret (StX.pe_makeR mk GR hr (by rfl) mN pass0 (pa_cons (pv 0) (pa_cons (pv 1) pa_nil))))) pss_nil)
      (pss_cons (ps_if (pt_cmpR op_eq (pe_callB call_len_seq (by rfl) T.len PySem.boot_len (pa_cons (pv 2) pa_nil)) pe_int (nomark _)) (pss_one (ps_ret (StX.pe_makeR mk GR hr (by rfl) mN pass0 (pa_cons (pv 0) (pa_cons (pv 1) (pa_cons (pv 3) pa_nil)))))) pss_nil)
      (pss_cons (ps_if (pt_cmpR op_eq (pe_callB call_len_seq (by rfl) T.len PySem.boot_len (pa_cons (pv 2) pa_nil)) pe_int (nomark _)) (pss_one (ps_ret (StX.pe_makeR mk GR hr (by rfl) mN pass0 (pa_cons (pv 0) (pa_cons (pv 1) (pa_cons (pv 3) (pa_cons (pv 4) pa_nil))))))) pss_nil)
      (pss_cons (ps_if (pt_cmpR op_eq (pe_callB call_len_seq (by rfl) T.len PySem.boot_len (pa_cons (pv 2) pa_nil)) pe_int (nomark _)) (pss_one (ps_ret (StX.pe_makeR mk GR hr (by rfl) mN pass0 (pa_cons (pv 0) (pa_cons (pv 1) (pa_cons (pv 3) (pa_cons (pv 4) (pa_cons (pv 5) pa_nil)))))))) pss_nil)
      (pss_cons (ps_if (pt_cmpR op_eq (pe_callB call_len_seq (by rfl) T.len PySem.boot_len (pa_cons (pv 2) pa_nil)) pe_int (nomark _)) (pss_one (ps_ret (StX.pe_makeR mk GR hr (by rfl) mN pass0 (pa_cons (pv 0) (pa_cons (pv 1) (pa_cons (pv 3) (pa_cons (pv 4) (pa_cons (pv 5) (pa_cons (pv 6) pa_nil))))))))) pss_nil)
      (pss_cons (ps_if (pt_cmpR op_eq (pe_callB call_len_seq (by rfl) T.len PySem.boot_len (pa_cons (pv 2) pa_nil)) pe_int (nomark _)) (pss_one (ps_ret (StX.pe_makeR mk GR hr (by rfl) mN pass0 (pa_cons (pv 0) (pa_cons (pv 1) (pa_cons (pv 3) (pa_cons (pv 4) (pa_cons (pv 5) (pa_cons (pv 6) (pa_cons (pv 7) pa_nil)))))))))) pss_nil)
      (pss_cons (ps_if (pt_cmpR op_eq (pe_callB call_len_seq (by rfl) T.len PySem.boot_len (pa_cons (pv 2) pa_nil)) pe_int (nomark _)) (pss_one (ps_ret (StX.pe_makeR mk GR hr (by rfl) mN pass0 (pa_cons (pv 0) (pa_cons (pv 1) (pa_cons (pv 3) (pa_cons (pv 4) (pa_cons (pv 5) (pa_cons (pv 6) (pa_cons (pv 7) (pa_cons (pv 8) pa_nil))))))))))) pss_nil)
      (pss_cons (ps_if (pt_cmpR op_eq (pe_callB call_len_seq (by rfl) T.len PySem.boot_len (pa_cons (pv 2) pa_nil)) pe_int (nomark _)) (pss_one (ps_ret (StX.pe_makeR mk GR hr (by rfl) mN pass0 (pa_cons (pv 0) (pa_cons (pv 1) (pa_cons (pv 3) (pa_cons (pv 4) (pa_cons (pv 5) (pa_cons (pv 6) (pa_cons (pv 7) (pa_cons (pv 8) (pa_cons (pv 9) pa_nil)))))))))))) pss_nil)
      (pss_one (ps_ret (StX.pe_makeR mk GR hr (by rfl) mN pass0 (pa_cons (pv 0) (pa_cons (pv 1) (pa_cons (pv 3) (pa_cons (pv 4) (pa_cons (pv 5) (pa_cons (pv 6) (pa_cons (pv 7) (pa_cons (pv 8) (pa_cons (pv 9) (pa_cons (pv 10) pa_nil))))))))))))))))))))), ?_⟩
    refine ⟨_, rfl, l, _, rfl, .inl hl, fun l1 nl1 => ?_⟩
    have x1 := same_new (o := .lst (ds.map V.str)) nl1
    refine ⟨(by show 1 ≤ sizeLine; omega), fun l2 nl2 => ?_⟩
    have x2 := same_new (o := .lst [.non]) nl2
    refine ⟨l2, _, _, rfl, rfl, upd_same, by decide, by decide, (by show 1 * 8 ≤ sizeLine; omega), fun l3 nl3 => ?_⟩
    have x3 := same_new (o := .lst [.non, .non, .non, .non, .non, .non, .non, .non]) nl3
    refine ⟨l1, l3, _, _, rfl, rfl, x3 _ _ (x2 _ _ upd_same), upd_same, (by rw [List.length_map]; show ds.length + 8 ≤ sizeLine; omega), fun l4 nl4 => ?_⟩
    have x4 := same_new (o := .lst (ds.map V.str ++ [.non, .non, .non, .non, .non, .non, .non, .non])) nl4
    refine ⟨_, rfl, l4, _, rfl, SqL.of upd_same, fun l5 nl5 => ?_⟩
    have x5 := same_new (o := .lst (cutV (ds.map V.str ++ [.non, .non, .non, .non, .non, .non, .non, .non]) none (some 8))) nl5
    have x := (((x1.trans x2).trans x3).trans x4).trans x5
    have hlx := hl.ext x
    match ds, ok, h6, hl, q, nl1, x1, nl2, x2, nl3, x3, nl4, x4, nl5, x5, x, hlx with
    | [], ok, h6, hl, q, nl1, x1, nl2, x2, nl3, x3, nl4, x4, nl5, x5, x, hlx =>
      refine ⟨l5, _, rfl, SqL.of upd_same, rfl, _, _, rfl, _, _, rfl, _, _, rfl, _, _, rfl, _, _, rfl, _, _, rfl, _, _, rfl, _, _, rfl, rfl, ?_⟩
      refine ⟨_, rfl, l, _, rfl, .inl hlx, rfl, _, rfl, ?_⟩
      refine iteT ?_
      refine ⟨_, rfl, _, rfl, fun y dy ny ndy _ => ?_⟩
      exact made_deeds (n := (o, i, [])) (R := fun H' => Q (.ref y) H') ny ndy ok fun H' s h => q y H' (x.trans s) h
    | [d0], ok, h6, hl, q, nl1, x1, nl2, x2, nl3, x3, nl4, x4, nl5, x5, x, hlx =>
      refine ⟨l5, _, rfl, SqL.of upd_same, rfl, _, _, rfl, _, _, rfl, _, _, rfl, _, _, rfl, _, _, rfl, _, _, rfl, _, _, rfl, _, _, rfl, rfl, ?_⟩
      refine ⟨_, rfl, l, _, rfl, .inl hlx, rfl, _, rfl, ?_⟩
      refine iteF ?_
      refine ⟨_, rfl, l, _, rfl, .inl hlx, rfl, _, rfl, ?_⟩
      refine iteT ?_
      refine ⟨_, rfl, _, rfl, _, rfl, fun y dy ny ndy _ => ?_⟩
      exact made_deeds (n := (o, i, [d0])) (R := fun H' => Q (.ref y) H') ny ndy ok fun H' s h => q y H' (x.trans s) h
    | [d0, d1], ok, h6, hl, q, nl1, x1, nl2, x2, nl3, x3, nl4, x4, nl5, x5, x, hlx =>
      refine ⟨l5, _, rfl, SqL.of upd_same, rfl, _, _, rfl, _, _, rfl, _, _, rfl, _, _, rfl, _, _, rfl, _, _, rfl, _, _, rfl, _, _, rfl, rfl, ?_⟩
      refine ⟨_, rfl, l, _, rfl, .inl hlx, rfl, _, rfl, ?_⟩
      refine iteF ?_
      refine ⟨_, rfl, l, _, rfl, .inl hlx, rfl, _, rfl, ?_⟩
      refine iteF ?_
      refine ⟨_, rfl, l, _, rfl, .inl hlx, rfl, _, rfl, ?_⟩
      refine iteT ?_
      refine ⟨_, rfl, _, rfl, _, rfl, _, rfl, fun y dy ny ndy _ => ?_⟩
      exact made_deeds (n := (o, i, [d0, d1])) (R := fun H' => Q (.ref y) H') ny ndy ok fun H' s h => q y H' (x.trans s) h
    | [d0, d1, d2], ok, h6, hl, q, nl1, x1, nl2, x2, nl3, x3, nl4, x4, nl5, x5, x, hlx =>
      refine ⟨l5, _, rfl, SqL.of upd_same, rfl, _, _, rfl, _, _, rfl, _, _, rfl, _, _, rfl, _, _, rfl, _, _, rfl, _, _, rfl, _, _, rfl, rfl, ?_⟩
      refine ⟨_, rfl, l, _, rfl, .inl hlx, rfl, _, rfl, ?_⟩
      refine iteF ?_
      refine ⟨_, rfl, l, _, rfl, .inl hlx, rfl, _, rfl, ?_⟩
      refine iteF ?_
      refine ⟨_, rfl, l, _, rfl, .inl hlx, rfl, _, rfl, ?_⟩
      refine iteF ?_
      refine ⟨_, rfl, l, _, rfl, .inl hlx, rfl, _, rfl, ?_⟩
      refine iteT ?_
      refine ⟨_, rfl, _, rfl, _, rfl, _, rfl, _, rfl, fun y dy ny ndy _ => ?_⟩
      exact made_deeds (n := (o, i, [d0, d1, d2])) (R := fun H' => Q (.ref y) H') ny ndy ok fun H' s h => q y H' (x.trans s) h
    | [d0, d1, d2, d3], ok, h6, hl, q, nl1, x1, nl2, x2, nl3, x3, nl4, x4, nl5, x5, x, hlx =>
      refine ⟨l5, _, rfl, SqL.of upd_same, rfl, _, _, rfl, _, _, rfl, _, _, rfl, _, _, rfl, _, _, rfl, _, _, rfl, _, _, rfl, _, _, rfl, rfl, ?_⟩
      refine ⟨_, rfl, l, _, rfl, .inl hlx, rfl, _, rfl, ?_⟩
      refine iteF ?_
      refine ⟨_, rfl, l, _, rfl, .inl hlx, rfl, _, rfl, ?_⟩
      refine iteF ?_
      refine ⟨_, rfl, l, _, rfl, .inl hlx, rfl, _, rfl, ?_⟩
      refine iteF ?_
      refine ⟨_, rfl, l, _, rfl, .inl hlx, rfl, _, rfl, ?_⟩
      refine iteF ?_
      refine ⟨_, rfl, l, _, rfl, .inl hlx, rfl, _, rfl, ?_⟩
      refine iteT ?_
      refine ⟨_, rfl, _, rfl, _, rfl, _, rfl, _, rfl, _, rfl, fun y dy ny ndy _ => ?_⟩
      exact made_deeds (n := (o, i, [d0, d1, d2, d3])) (R := fun H' => Q (.ref y) H') ny ndy ok fun H' s h => q y H' (x.trans s) h
    | [d0, d1, d2, d3, d4], ok, h6, hl, q, nl1, x1, nl2, x2, nl3, x3, nl4, x4, nl5, x5, x, hlx =>
      refine ⟨l5, _, rfl, SqL.of upd_same, rfl, _, _, rfl, _, _, rfl, _, _, rfl, _, _, rfl, _, _, rfl, _, _, rfl, _, _, rfl, _, _, rfl, rfl, ?_⟩
      refine ⟨_, rfl, l, _, rfl, .inl hlx, rfl, _, rfl, ?_⟩
      refine iteF ?_
      refine ⟨_, rfl, l, _, rfl, .inl hlx, rfl, _, rfl, ?_⟩
      refine iteF ?_
      refine ⟨_, rfl, l, _, rfl, .inl hlx, rfl, _, rfl, ?_⟩
      refine iteF ?_
      refine ⟨_, rfl, l, _, rfl, .inl hlx, rfl, _, rfl, ?_⟩
      refine iteF ?_
      refine ⟨_, rfl, l, _, rfl, .inl hlx, rfl, _, rfl, ?_⟩
      refine iteF ?_
      refine ⟨_, rfl, l, _, rfl, .inl hlx, rfl, _, rfl, ?_⟩
      refine iteT ?_
      refine ⟨_, rfl, _, rfl, _, rfl, _, rfl, _, rfl, _, rfl, _, rfl, fun y dy ny ndy _ => ?_⟩
      exact made_deeds (n := (o, i, [d0, d1, d2, d3, d4])) (R := fun H' => Q (.ref y) H') ny ndy ok fun H' s h => q y H' (x.trans s) h
    | [d0, d1, d2, d3, d4, d5], ok, h6, hl, q, nl1, x1, nl2, x2, nl3, x3, nl4, x4, nl5, x5, x, hlx =>
      refine ⟨l5, _, rfl, SqL.of upd_same, rfl, _, _, rfl, _, _, rfl, _, _, rfl, _, _, rfl, _, _, rfl, _, _, rfl, _, _, rfl, _, _, rfl, rfl, ?_⟩
      refine ⟨_, rfl, l, _, rfl, .inl hlx, rfl, _, rfl, ?_⟩
      refine iteF ?_
      refine ⟨_, rfl, l, _, rfl, .inl hlx, rfl, _, rfl, ?_⟩
      refine iteF ?_
      refine ⟨_, rfl, l, _, rfl, .inl hlx, rfl, _, rfl, ?_⟩
      refine iteF ?_
      refine ⟨_, rfl, l, _, rfl, .inl hlx, rfl, _, rfl, ?_⟩
      refine iteF ?_
      refine ⟨_, rfl, l, _, rfl, .inl hlx, rfl, _, rfl, ?_⟩
      refine iteF ?_
      refine ⟨_, rfl, l, _, rfl, .inl hlx, rfl, _, rfl, ?_⟩
      refine iteF ?_
      refine ⟨_, rfl, l, _, rfl, .inl hlx, rfl, _, rfl, ?_⟩
      refine iteT ?_
      refine ⟨_, rfl, _, rfl, _, rfl, _, rfl, _, rfl, _, rfl, _, rfl, _, rfl, fun y dy ny ndy _ => ?_⟩
      exact made_deeds (n := (o, i, [d0, d1, d2, d3, d4, d5])) (R := fun H' => Q (.ref y) H') ny ndy ok fun H' s h => q y H' (x.trans s) h
    | _ :: _ :: _ :: _ :: _ :: _ :: _ :: _, ok, h6, hl, q, nl1, x1, nl2, x2, nl3, x3, nl4, x4, nl5, x5, x, hlx => exact absurd h6 (by simp only [List.length_cons]; omega)
end
end Sq.N3
namespace Sq.N3
open PySem L2 TL
/-- what is known of the class Program -/
structure ProgK (P : Program) (w : World) (K : PySem.W.Frag) (mg : Str → Option Value) (base : Heap) (CP C : Addr) : Prop where
  pc : Pc K CP
  mP : mg "Program" = some (.ref CP)
  read : ∃ mc p g, ClX.CRead K CP mc ∧ ClX.CMet K CP mc "read" p g ∧ FnR P w K mg base CX0 7 g (spPRead CP C)
  p1 : ∃ p g d, PropOf K CP "nests" p g ∧ FnOk P w K mg base CX0 1 g d ["self"] (getSp CP "_nests") ∧ Binds K d ["self"] []
theorem strs_lay : ∀ ds : List Str, (∀ d ∈ ds, ∀ c ∈ tl d, c < 128) → PyData.canLayAll0 (ds.map PyData.str) = true
  | [], _ => by rw [List.map_nil]; simp [PyData.canLayAll0]
  | d :: ds, h => by
    rw [List.map_cons]
    have e : PyData.strOk d = true := by
      unfold PyData.strOk
      rw [← Array.all_toList, List.all_eq_true]
      exact fun c hc => decide_eq_true (Nat.lt_trans (h d List.mem_cons_self c hc) (by decide))
    simp only [PyData.canLayAll0, PyData.canLay0, strs_lay ds fun e he => h e (List.mem_cons_of_mem _ he), Bool.and_true, e]
theorem strs_shaped {n : NestD} (h : NestT n) : SeqAt.shaped (.tuple (n.2.2.map .str)) = true := by
  have hd := strs_depth n.2.2
  have h1 := strs_lay n.2.2 fun d hd => (h.ds d hd).cp
  unfold SeqAt.shaped
  have e1 : PyData.canLay0 (.tuple (n.2.2.map .str)) = true := by simp only [PyData.canLay0, h1]
  have e2 : PyData.depth (.tuple (n.2.2.map .str)) ≤ 64 := by simp only [PyData.depth]; omega
  rw [e1, decide_eq_true e2]
  rfl
end Sq.N3
namespace Sq.N3
open PySem L2 TL
theorem edge_codes : ∀ a : _root_.Fin 18, (∀ c ∈ tl (edge a.val), c < 128) ∧ 10 ∉ tl (edge a.val) := by decide +kernel
theorem row_codes {a b : Nat} (d : Nat) (ha : a < 18) (hb : b < 18) : (∀ c ∈ tl (rowOf a b d), c < 128) ∧ 10 ∉ tl (rowOf a b d) := by
  have e : tl (rowOf a b d) = tl (edge a) ++ tl (" to " : Str) ++ tl (edge b) ++ tl (if decide (d = 1) = true then (" down" : Str) else "") := by
    unfold rowOf walkS
    rw [tl_append, tl_append, tl_append]
  have k1 : (∀ c ∈ tl (" to " : Str), c < 128) ∧ 10 ∉ tl (" to " : Str) := by decide +kernel
  have k2 : (∀ c ∈ tl (if decide (d = 1) = true then (" down" : Str) else ""), c < 128) ∧ 10 ∉ tl (if decide (d = 1) = true then (" down" : Str) else "") := by split <;> decide +kernel
  have k3 := edge_codes ⟨a, ha⟩
  have k4 := edge_codes ⟨b, hb⟩
  rw [e]
  refine ⟨fun c hc => ?_, fun hc => ?_⟩
  · rw [List.mem_append, List.mem_append, List.mem_append] at hc
    rcases hc with ((h | h) | h) | h
    · exact k3.1 c h
    · exact k1.1 c h
    · exact k4.1 c h
    · exact k2.1 c h
  · rw [List.mem_append, List.mem_append, List.mem_append] at hc
    rcases hc with ((h | h) | h) | h
    · exact k3.2 h
    · exact k1.2 h
    · exact k4.2 h
    · exact k2.2 h
theorem nestT_of {a b a2 b2 : Nat} (d d2 : Nat) {ds : List Str} (ha : a < 12) (hb : b < 12) (ha2 : a2 < 18) (hb2 : b2 < 18) (hl : ds.length ≤ 6) (hd : ∀ x ∈ ds, DeedRow x) : NestT (rowOf a b d, rowOf a2 b2 d2, ds) :=
  ⟨row_len d (by omega) (by omega), row_len d2 ha2 hb2, (row_codes d (by omega) (by omega)).1, (row_codes d2 ha2 hb2).1, (row_codes d (by omega) (by omega)).2, (row_codes d2 ha2 hb2).2, row_outer d ha hb, row_inner d2 ha2 hb2, hl, hd⟩
end Sq.N3
namespace Sq.N3
open PySem L2 TL
abbrev sNestText : Stmt := top 51
abbrev sPLen : Stmt := inClass (top 50) 3
abbrev sPBool : Stmt := inClass (top 50) 4
abbrev sPEq : Stmt := inClass (top 50) 5
abbrev sPStr : Stmt := inClass (top 50) 6
/-! ### joined texts, joined -/
theorem joinL_cons {S p : List Nat} : ∀ {r : List (List Nat)}, r ≠ [] → joinL S (p :: r) = p ++ (S ++ joinL S r)
  | [], h => absurd rfl h
  | _ :: _, _ => rfl
theorem joinL_app {S : List Nat} : ∀ {a b : List (List Nat)}, a ≠ [] → b ≠ [] → joinL S (a ++ b) = joinL S a ++ (S ++ joinL S b)
  | [], _, h, _ => absurd rfl h
  | [p], b, _, hb => joinL_cons hb
  | p :: q :: r, b, _, hb => by
    show p ++ (S ++ joinL S ((q :: r) ++ b)) = (p ++ (S ++ joinL S (q :: r))) ++ (S ++ joinL S b)
    rw [joinL_app (List.cons_ne_nil q r) hb]
    simp only [List.append_assoc]
theorem joinL_flat {S : List Nat} : ∀ {gs : List (List (List Nat))}, (∀ g ∈ gs, g ≠ []) → joinL S (gs.map (joinL S)) = joinL S gs.flatten
  | [], _ => rfl
  | [g], _ => by
    show joinL S g = joinL S (g ++ [].flatten)
    rw [List.flatten_nil, List.append_nil]
  | g :: h :: r, hne => by
    have ih := joinL_flat (S := S) (gs := h :: r) fun x hx => hne x (List.mem_cons_of_mem _ hx)
    have hf : (h :: r).flatten ≠ [] := by
      rw [List.flatten_cons]
      exact fun e => hne h (List.mem_cons_of_mem _ List.mem_cons_self) (List.append_eq_nil_iff.mp e).1
    rw [List.flatten_cons, joinL_app (hne g List.mem_cons_self) hf, ← ih]
    exact joinL_cons (List.cons_ne_nil _ _)
def nestT (n : NestD) : Str := Txt.join "\n" (rowsOf n)
theorem join_nests (ns : List NestD) : Txt.join "\n" (ns.map nestT) = progT ns := by
  refine ext_tl ?_
  unfold progT
  rw [join_eq, tl_join, join_eq, tl_join, List.map_map, List.map_flatten, List.map_map]
  have e : (tl ∘ nestT) = (joinL (tl ("\n" : Str))) ∘ (List.map tl ∘ rowsOf) := by
    funext n
    show tl (Txt.join "\n" (rowsOf n)) = _
    rw [join_eq, tl_join]
    rfl
  rw [e, ← List.map_map]
  refine joinL_flat fun g hg => ?_
  obtain ⟨n, _, rfl⟩ := List.mem_map.mp hg
  exact List.cons_ne_nil _ _
def spNestText (C : Addr) : Sp := fun vs H Q _ => ∃ (a : Addr) (n : NestD), vs = [.ref a] ∧ NestIs C H a n ∧ NestT n ∧ ∀ H', Same H H' → Q (.str (nestT n)) H'
section
variable {P : Program} {w : World} {K : PySem.W.Frag} {mg : Str → Option Value} {base : Heap} {C CP : Addr}
theorem scNestText : FnScope ["nest", "deeds"] ["nest"] (defScope sNestText) := ⟨rfl, rfl, rfl, by decide +kernel, rfl, by decide +kernel, by decide +kernel⟩
theorem ok_nestText {f : Addr} {fd : FuncData} (F : Fun K "nest_text" "nest_text" sNestText f fd) (R : Rd1 P w K mg base) (NK : NestK P w K mg base C) : FnOk P w K mg base CX0 3 f fd ["nest"] (spNestText C) := by
  obtain ⟨p1, g1, d1, P1, G1, B1⟩ := NK.p1
  obtain ⟨p2, g2, d2, P2, G2, B2⟩ := NK.p2
  obtain ⟨p3, g3, d3, P3, G3, B3⟩ := NK.p3
  obtain ⟨u1, mS⟩ := R.mS
  obtain ⟨u2, mJ⟩ := R.mJ
  refine F.ok scNestText (fun vs H Q E h => ?_) (fun cdv A outer s H vs Q E hr h => ?_)
  · obtain ⟨a, n, rfl, _⟩ := h
    rfl
  · obtain ⟨a, n, rfl, hn, ok, q⟩ := h
    obtain ⟨dx, dp, ⟨R1, x1⟩, x2⟩ := id hn
    have big : 10000 ≤ sizeLine := by decide
    have dl := ok.dl
    have l1 := ok.l1
    have l2 := ok.l2
    have o7 : ofrom.length = 7 := by decide +kernel
    have j7 : jfrom.length = 7 := by decide +kernel
    refine ⟨_, pss_cons (ps_set (i := 1) scNestText.nd rfl (.inl rfl) (pe_prop (pv 0) NK.nc.cl P3 G3 hr B3 .nil pass0 rfl))
      (pss_one (ps_ret (pe_join pe_str (pe_lst (pa_cons (pe_joined (.cons (pe_fmt (pe_glob (v := .str ofrom) (by rfl) mS ⟨_, rfl⟩)) (.cons (pe_fmt (pe_prop (pv 0) NK.nc.cl P1 G1 hr B1 .nil pass0 rfl)) .nil)))
        (pa_cons (pe_joined (.cons (pe_fmt (pe_glob (v := .str jfrom) (by rfl) mJ ⟨_, rfl⟩)) (.cons (pe_fmt (pe_prop (pv 0) NK.nc.cl P2 G2 hr B2 .nil pass0 rfl)) .nil))) (StX.pa_star (pv 1) pa_nil))))))), ?_⟩
    refine ⟨_, rfl, a, _, _, rfl, x1, a, _, _, .ref dp, rfl, x1, nfl_deeds _ _ _ _, ?_⟩
    have z0 : Str.empty.length = 0 := rfl
    have b1 : (Str.empty ++ ofrom).length ≤ sizeLine := by rw [str_len_append]; omega
    have b2 : (Str.empty ++ ofrom ++ n.1).length ≤ sizeLine := by rw [str_len_append, str_len_append]; omega
    have c1 : (Str.empty ++ jfrom).length ≤ sizeLine := by rw [str_len_append]; omega
    have c2 : (Str.empty ++ jfrom ++ n.2.1).length ≤ sizeLine := by rw [str_len_append, str_len_append]; omega
    refine ⟨⟨_, rfl⟩, ?_⟩
    refine .inl ⟨ofrom, rfl, by omega, ofrom, rfl, b1, ?_⟩
    refine ⟨_, rfl, a, _, _, rfl, x1, a, _, _, .str n.1, rfl, x1, nfl_outer _ _ _ _, .inl ⟨n.1, rfl, by omega, n.1, rfl, b2, ?_⟩⟩
    refine .inl ⟨jfrom, rfl, by omega, jfrom, rfl, c1, ?_⟩
    refine ⟨_, rfl, a, _, _, rfl, x1, a, _, _, .str n.2.1, rfl, x1, nfl_inner _ _ _ _, .inl ⟨n.2.1, rfl, by omega, n.2.1, rfl, c2, ?_⟩⟩
    refine ⟨_, rfl, dp, n.2.2.map V.str, rfl, .inl (SqT.of x2), ?_⟩
    rw [Str.empty_append, Str.empty_append]
    have hlen : ((rowsOf n).map V.str).length ≤ sizeLine := by rw [List.length_map]; show n.2.2.length + 1 + 1 ≤ sizeLine; omega
    refine ⟨by rw [List.append_nil]; exact hlen, fun l nl => ?_⟩
    rw [List.append_nil]
    refine ⟨"\n", l, rowsOf n, rfl, rfl, .inl (SqL.of upd_same), ?_, q _ (same_new nl)⟩
    have b1 := sum_le (m := 200) (ys := rowsOf n) fun r hr => (rows_nl ok r hr).2
    have b2 : (rowsOf n).length = n.2.2.length + 2 := rfl
    have b3 : ("\n" : Str).length = 1 := by decide +kernel
    rw [b3, b2]
    rw [b2] at b1
    omega
end
end Sq.N3
namespace Sq.N3
open PySem L2 TL
def spPStr (CP C : Addr) : Sp := fun vs H Q _ => ∃ (a : Addr) (ns : List NestD), vs = [.ref a] ∧ ProgAt CP C H a ns ∧ (∀ n ∈ ns, NestT n) ∧ ns.length ≤ 5 ∧ ∀ H', Same H H' → Q (.str (progT ns)) H'
def spPLen (CP C : Addr) : Sp := fun vs H Q _ => ∃ (a : Addr) (ns : List NestD), vs = [.ref a] ∧ ProgAt CP C H a ns ∧ Q (.int (ns.length : Int)) H
def NestEq (C : Addr) : Addr → Addr → Hp → Prop := fun a b H => ∃ n, NestIs C H a n ∧ NestIs C H b n ∧ NestT n
def ProgEq (CP C : Addr) : Addr → Addr → Hp → Prop := fun a b H => ∃ ns, ProgAt CP C H a ns ∧ ProgAt CP C H b ns ∧ ∀ n ∈ ns, NestT n
theorem same_ext {H H' : Hp} (e : L2.Ext H H') : Same H H' := e
theorem mon_nest (C : Addr) : Mon (DIns C (NestEq C)) := mon_ins fun a b H H' e h => by
  obtain ⟨n, h1, h2, h3⟩ := h
  exact ⟨n, NestAt.ext e h1, NestAt.ext e h2, h3⟩
section
variable {P : Program} {w : World} {K : PySem.W.Frag} {mg : Str → Option Value} {base : Heap} {C CP : Addr}
theorem putN (tp : Addr) : (putF "_nests" (.ref tp) []).lookup ("_nests" : Str) = some (V.ref tp) := by rw [lookup_putF, if_pos rfl]
theorem scPStr : FnScope ["self", "nest"] ["self"] (defScope sPStr) := ⟨rfl, rfl, rfl, by decide +kernel, rfl, by decide +kernel, by decide +kernel⟩
theorem ok_pstr {f : Addr} {fd : FuncData} (F : Fun K "__str__" "Program.__str__" sPStr f fd) (N : Pc K CP) (KT : Kn P w K mg base "nest_text" 3 ["nest"] (spNestText C)) : FnOk P w K mg base CX0 4 f fd ["self"] (spPStr CP C) := by
  obtain ⟨fT, dT, mT, kT, bT, GT⟩ := KT
  refine F.ok scPStr (fun vs H Q E h => ?_) (fun cdv A outer s H vs Q E hr h => ?_)
  · obtain ⟨a, ns, rfl, _⟩ := h
    rfl
  · obtain ⟨a, ns, rfl, ha, ok, hl, q⟩ := h
    obtain ⟨dx, tp, xs, h1, h2, h3, h4⟩ := ha
    have big : 10000 ≤ sizeLine := by decide
    refine ⟨_, pss_one (ps_ret (pe_join pe_str (pe_lc (own := [("nest", 1)]) (g := gName 1) (by rfl) scPStr.nd (pi_tup (pe_fld (pv 0) rfl)) (blkOk_by (own := [("nest", 1)]) (N := ["self", "nest"]) (sc := defScope sPStr) (by decide +kernel))
      (fun _ _ _ _ _ => pg_name (i := 1) scPStr.nd rfl (Or.inl rfl)) (fun _ _ _ _ _ => pts_nil) (fun _ _ _ _ _ => pe_call GT hr (by rfl) mT kT bT .nil pass0 (pa_cons (pv 1) pa_nil))))), ?_⟩
    refine ⟨⟨_, rfl⟩, ?_⟩
    refine ⟨_, rfl, a, CP, dx, _, _, rfl, h1, N.cl, N.nN, putN tp, tp, rfl, ⟨_, SqT.of h2⟩, fun D hD => ?_⟩
    refine lc_tup (K := K) (a := tp) (xs := xs.map V.ref) (fun i H' => Same H H' ∧ H' D = some (.lst (((ns.take i).map nestT).map V.str))) ⟨same_new hD, upd_same⟩ (fun i H' _ h => (SqT.of h2).ext h.1) (fun i x H' hi h => ?_) (fun H' h => ?_)
    · obtain ⟨sm, hL⟩ := h
      refine ⟨rfl, ?_⟩
      obtain ⟨b, hb, rfl⟩ : ∃ b, xs[i]? = some b ∧ x = .ref b := by
        rw [List.getElem?_map] at hi
        cases e : xs[i]? with
        | none => rw [e] at hi; cases hi
        | some r => rw [e] at hi; exact ⟨r, rfl, (Option.some.inj hi).symm⟩
      have hil : i < ns.length := by rw [← h3]; exact (List.getElem?_eq_some_iff.mp hb).1
      have hgi : ns[i]? = some ns[i] := List.getElem?_eq_getElem hil
      refine ⟨_, rfl, b, ns[i], rfl, (h4 i b _ hb hgi).ext sm, ok _ (List.getElem_mem hil), fun H2 s2 => ⟨_, s2 _ _ hL, ?_, ?_, ?_⟩⟩
      · rw [List.length_map, List.length_map, List.length_take]
        omega
      · intro c o hc
        rw [upd_ne (fun e => by rw [e, hD] at hc; cases hc)]
        exact s2 c o (sm c o hc)
      · rw [upd_same, List.take_add_one, hgi, List.map_append, List.map_append]
        rfl
    · obtain ⟨sm, hL⟩ := h
      rw [List.length_map, h3, List.take_length] at hL
      refine ⟨"\n", D, ns.map nestT, rfl, rfl, .inl (SqL.of hL), ?_, ?_⟩
      · have b0 : ∀ y ∈ ns.map nestT, y.length ≤ 8040 := fun y hy => by
          obtain ⟨n, hn, rfl⟩ := List.mem_map.mp hy
          have z := prog_len (ns := [n]) (fun m hm => by rw [List.mem_singleton.mp hm]; exact ok n hn) (by show 1 ≤ 5; omega)
          unfold progT at z
          rw [List.map_cons, List.map_nil, List.flatten_cons, List.flatten_nil, List.append_nil] at z
          exact z
        have b1 := sum_le (m := 8040) b0
        have b3 : ("\n" : Str).length = 1 := by decide +kernel
        rw [List.length_map] at b1
        rw [b3, List.length_map]
        omega
      · rw [join_nests]
        exact q H' sm
theorem scPLen : FnScope ["self"] ["self"] (defScope sPLen) := ⟨rfl, rfl, rfl, by decide +kernel, rfl, by decide +kernel, by decide +kernel⟩
theorem ok_plen {f : Addr} {fd : FuncData} (F : Fun K "__len__" "Program.__len__" sPLen f fd) (N : Pc K CP) (T : Bt mg) : FnOk P w K mg base CX0 1 f fd ["self"] (spPLen CP C) := by
  refine F.ok scPLen (fun vs H Q E h => ?_) (fun cdv A outer s H vs Q E hr h => ?_)
  · obtain ⟨a, ns, rfl, _⟩ := h
    rfl
  · obtain ⟨a, ns, rfl, ha, q⟩ := h
    obtain ⟨dx, tp, xs, h1, h2, h3, h4⟩ := ha
    refine ⟨_, pss_one (ps_ret (pe_callB call_len_seq (by rfl) T.len PySem.boot_len (pa_cons (pe_fld (pv 0) rfl) pa_nil))), ?_⟩
    refine ⟨_, rfl, a, CP, dx, _, _, rfl, h1, N.cl, N.nN, putN tp, tp, _, rfl, .inr (SqT.of h2), ?_⟩
    rw [List.length_map, h3]
    exact q
theorem scPEq : FnScope ["self", "other"] ["self", "other"] (defScope sPEq) := ⟨rfl, rfl, rfl, by decide +kernel, rfl, by decide +kernel, by decide +kernel⟩
/-- equal programs are equal -/
theorem ok_peq {f : Addr} {fd : FuncData} (F : Fun K "__eq__" "Program.__eq__" sPEq f fd) (N : Pc K CP) (I : Isn K CP) (mP : mg "Program" = some (.ref CP)) (Ck : Ck K mg) {fe : Addr} {de : FuncData} (GE : FnOk P w K mg base CX0 1 fe de ["self", "other"] (spNEq C)) (he1 : PySem.W.findIn K (.ref C) "__eq__" = some (some (.ref fe))) (he2 : PySem.W.isFn K (.ref fe) = true) (be : Binds K de ["self", "other"] []) :
    FnOk P w K mg base CX0 3 f fd ["self", "other"] (spEq (ProgEq CP C)) := by
  have GE' : FnOk P w K mg base CX0 1 fe de ["self", "other"] (spEq (NestEq C)) := GE.imp fun vs H Q E h => by
    obtain ⟨a, b, rfl, ⟨n, h1, h2, h3⟩, q⟩ := h
    refine ⟨a, b, n.1, n.2.1, n.1, n.2.1, n.2.2, n.2.2, rfl, h1, h2, strs_shaped h3, strs_shaped h3, ?_⟩
    have z := q H L2.Ext.rfl'
    simpa using z
  refine F.ok scPEq (fun vs H Q E h => ?_) (fun cdv A outer s H vs Q E hr h => ?_)
  · obtain ⟨a, b, rfl, _⟩ := h
    rfl
  · obtain ⟨a, b, rfl, ⟨ns, ⟨dx, tp, xs, h1, h2, h3, h4⟩, ⟨dy, tq, ys, g1, g2, g3, g4⟩, ok⟩, q⟩ := h
    refine ⟨_, pss_one (ps_ret (pe_and (pe_callB call_isi (by rfl) Ck.isinstance (by decide +kernel) (pa_cons (pv 1) (pa_cons (pe_glob (v := .ref CP) (by rfl) mP rfl) pa_nil)))
      (pe_one (pe_cmpR (op_eqG (rcG_tup (mon_nest C) (eqG_ins GE' he1 he2 be pass0)) hr) (pe_fld (pv 0) rfl) (pe_fld (pv 1) rfl) (nomark _))))), ?_⟩
    refine ⟨_, rfl, _, _, .ref CP, .ref CP, true, rfl, .own CP, .base (.ins g1 N.cl I.c1 I.c2 I.c3 I.c4), kit_self K CP, true, rfl, ?_⟩
    refine iteT ?_
    refine ⟨_, rfl, a, CP, dx, _, _, rfl, h1, N.cl, N.nN, putN tp, _, rfl, b, CP, dy, _, _, rfl, g1, N.cl, N.nN, putN tq, ?_⟩
    refine ⟨⟨tp, tq, xs.map V.ref, ys.map V.ref, rfl, rfl, SqT.of h2, SqT.of g2, by rw [List.length_map, List.length_map, h3, g3], fun i x y hx hy => ?_⟩, fun H' e => q H' e⟩
    rw [List.getElem?_map] at hx hy
    cases ex : xs[i]? with
    | none => rw [ex] at hx; cases hx
    | some u =>
      cases ey : ys[i]? with
      | none => rw [ey] at hy; cases hy
      | some v =>
        rw [ex] at hx
        rw [ey] at hy
        cases hx
        cases hy
        have hil : i < ns.length := by rw [← h3]; exact (List.getElem?_eq_some_iff.mp ex).1
        have hgi : ns[i]? = some ns[i] := List.getElem?_eq_getElem hil
        have k1 := h4 i u _ ex hgi
        have k2 := g4 i v _ ey hgi
        obtain ⟨ux, ud, ⟨R3, w1⟩, _⟩ := id k1
        obtain ⟨vx, vd, ⟨R4, w2⟩, _⟩ := id k2
        exact ⟨u, v, _, _, _, _, rfl, rfl, w1, w2, ns[i], k1, k2, ok _ (List.getElem_mem hil)⟩
end
end Sq.N3
namespace Sq.N3
open PySem L2 TL
abbrev sPart : Stmt := top 65
abbrev sScheme : Stmt := top 66
abbrev Act3 := Nat × List Nat × Option (Nat × Nat × Nat)
structure Part where
  o : Nat × Nat × Nat
  u : Nat × Nat × Nat
  acts : List Act3
def Part.nest (q : Part) : NestD := (rowOf q.o.1 q.o.2.1 q.o.2.2, rowOf q.u.1 q.u.2.1 q.u.2.2, q.acts.map fun x => actS x.1 x.2.1 x.2.2)
structure PartOk (q : Part) : Prop where
  o1 : q.o.1 < 12
  o2 : q.o.2.1 < 12
  u1 : q.u.1 < 18
  u2 : q.u.2.1 < 18
  al : q.acts.length ≤ 6
  ok : ∀ x ∈ q.acts, ActOk x.1 x.2.1 x.2.2
theorem PartOk.nest {q : Part} (h : PartOk q) : NestT q.nest :=
  nestT_of _ _ h.o1 h.o2 h.u1 h.u2 (by rw [List.length_map]; exact h.al) fun d hd => by
    obtain ⟨x, hx, rfl⟩ := List.mem_map.mp hd
    exact act_deed (h.ok x hx)
def PartH (N : Addr → Prop) (H : Hp) (t : Addr) (q : Part) : Prop := ∃ (o u l : Addr) (ts : List Addr), N t ∧ N o ∧ N u ∧ N l ∧ H t = some (.tup [.ref o, .ref u, .ref l]) ∧ H o = some (.tup [iv q.o.1, iv q.o.2.1, iv q.o.2.2]) ∧ H u = some (.tup [iv q.u.1, iv q.u.2.1, iv q.u.2.2]) ∧
  H l = some (.lst (ts.map V.ref)) ∧ ts.length = q.acts.length ∧ ∀ (i : Nat) (s : Addr) (x : Act3), ts[i]? = some s → q.acts[i]? = some x → ActH N H s x.1 x.2.1 x.2.2
theorem PartH.keep {N N' : Addr → Prop} {H H' : Hp} {t : Addr} {q : Part} (n : ∀ a, N a → N' a) (e : ∀ b o, N b → H b = some o → H' b = some o) (h : PartH N H t q) : PartH N' H' t q := by
  obtain ⟨o, u, l, ts, n1, n2, n3, n4, h1, h2, h3, h4, h5, h6⟩ := h
  exact ⟨o, u, l, ts, n _ n1, n _ n2, n _ n3, n _ n4, e _ _ n1 h1, e _ _ n2 h2, e _ _ n3 h3, e _ _ n4 h4, h5, fun i s x hs hx => (h6 i s x hs hx).keep n e⟩
def PlanH (N : Addr → Prop) (H : Hp) (D : Addr) (qs : List Part) : Prop := N D ∧ ∃ ts : List Addr, H D = some (.lst (ts.map V.ref)) ∧ ts.length = qs.length ∧ ∀ (i : Nat) (s : Addr) (q : Part), ts[i]? = some s → qs[i]? = some q → PartH N H s q
theorem PlanH.keep {N N' : Addr → Prop} {H H' : Hp} {t : Addr} {qs : List Part} (n : ∀ a, N a → N' a) (e : ∀ b o, N b → H b = some o → H' b = some o) (h : PlanH N H t qs) : PlanH N' H' t qs := by
  obtain ⟨n1, ts, h1, h2, h3⟩ := h
  exact ⟨n _ n1, ts, e _ _ n1 h1, h2, fun i s q hs hq => (h3 i s q hs hq).keep n e⟩
def spPart : Sp := fun vs H Q _ => ∃ (p : Addr) (m : Nat), vs = [.ref p, .int (m : Int)] ∧ 0 < m ∧ m ≤ 6 ∧ BagAt H p ∧ ∀ (t : Addr) (q : Part) (H' : Hp), BagAt H' p → Off p H H' → PartH (fun a => H a = none) H' t q → PartOk q → Q (.ref t) H'
def spScheme : Sp := fun vs H Q _ => ∃ (p : Addr) (k m : Nat), vs = [.ref p, .int (k : Int), .int (m : Int)] ∧ 0 < k ∧ k ≤ 6 ∧ 0 < m ∧ m ≤ 6 ∧ BagAt H p ∧ ∀ (D : Addr) (qs : List Part) (H' : Hp), BagAt H' p → Off p H H' → PlanH (fun a => H a = none) H' D qs → qs.length ≤ k → (∀ q ∈ qs, PartOk q) → Q (.ref D) H'
theorem free_of {p D a : Addr} {H H' : Hp} {o : HO} (hp : BagAt H' p) (off : Off p H H') (hD : H' D = some o) (h : H' a = none) : H a = none ∧ a ≠ D := by
  have nap : a ≠ p := fun e => by
    obtain ⟨_, _, _, z⟩ := hp
    rw [e, z] at h
    cases h
  exact ⟨off_none off nap h, fun e => by rw [e, hD] at h; cases h⟩
theorem bag_ne {p a : Addr} {H : Hp} (hp : BagAt H p) (h : H a = none) : a ≠ p := fun e => by
  obtain ⟨_, _, _, z⟩ := hp
  rw [e, z] at h
  cases h
section
variable {P : Program} {w : World} {K : PySem.W.Frag} {mg : Str → Option Value} {base : Heap}
theorem scPart : FnScope ["_law_bag_here", "_law_most", "_law_acts", "_law_over", "_law_under", "_law_k"] ["_law_bag_here", "_law_most"] (defScope sPart) := ⟨rfl, rfl, rfl, by decide +kernel, rfl, by decide +kernel, by decide +kernel⟩
theorem ok_part {f : Addr} {fd : FuncData} (F : Fun K "_law_part" "_law_part" sPart f fd) (T : Bt mg) (KT : Kn P w K mg base "_law_take" 1 ["_law_bag_here", "_law_many"] spDraw) (KA : Kn P w K mg base "_law_act" 2 ["_law_bag_here"] (spAct K)) (KW : Kn P w K mg base "_law_walk" 2 ["_law_bag_here", "_law_deep"] spWalk) :
    FnOk P w K mg base CX0 3 f fd ["_law_bag_here", "_law_most"] spPart := by
  obtain ⟨fT, dT, mT, kT, bT, GT⟩ := KT
  obtain ⟨fA, dA, mA, kA, bA, GA⟩ := KA
  obtain ⟨fW, dW, mW, kW, bW, GW⟩ := KW
  refine F.ok scPart (fun vs H Q E h => ?_) (fun cdv A outer s H vs Q E hr h => ?_)
  · obtain ⟨p, m, rfl, _⟩ := h
    rfl
  · obtain ⟨p, m, rfl, m0, m6, hp, q⟩ := h
    have big : 10000 ≤ sizeLine := by decide
    have hr1 := hr.mono (show 1 ≤ 2 by decide)
    refine ⟨_, pss_cons (ps_set (i := 2) scPart.nd rfl (.inl rfl) (pe_ifExp (pt_cmpR op_gt (pe_call GT hr1 (by rfl) mT kT bT .nil pass0 (pa_cons (pv 0) (pa_cons pe_int pa_nil))) pe_int (nomark _)) (pe_op op_add pe_int (pe_call GT hr1 (by rfl) mT kT bT .nil pass0 (pa_cons (pv 0) (pa_cons (pv 1) pa_nil)))) pe_int))
      (pss_cons (ps_par (i := 3) (j := 4) (by rfl) scPart.nd rfl rfl (by decide) rfl rfl (pa_cons (pe_call GW hr (by rfl) mW kW bW .nil pass0 (pa_cons (pv 0) (pa_cons pe_bl pa_nil))) (pa_cons (pe_call GW hr (by rfl) mW kW bW .nil pass0 (pa_cons (pv 0) (pa_cons pe_bl pa_nil))) pa_nil)) (by rfl))
      (pss_one (ps_ret (pe_tup (pa_cons (pv 3) (pa_cons (pv 4) (pa_cons (pe_lc (own := [("_law_k", 5)]) (g := gName 5) (by rfl) scPart.nd (pi_range1 (by rfl) T.range (pa_cons (pv 2) pa_nil))
          (blkOk_by (own := [("_law_k", 5)]) (N := ["_law_bag_here", "_law_most", "_law_acts", "_law_over", "_law_under", "_law_k"]) (sc := defScope sPart) (by decide +kernel)) (fun _ _ _ _ _ => pg_name (i := 5) scPart.nd rfl (Or.inl rfl)) (fun _ _ _ _ _ => pts_nil)
          (fun _ _ _ _ _ => pe_call GA hr (by rfl) mA kA bA .nil pass0 (pa_cons (pv 0) pa_nil))) pa_nil))))))), ?_⟩
    refine ⟨_, rfl, p, 8, rfl, hp, by decide, by decide, fun r H1 rl hp1 o1 => ?_⟩
    refine ⟨_, _, rfl, rfl, _, rfl, ?_⟩
    refine ite2 (fun _ => ?_) (fun _ => ?_)
    · refine ⟨_, rfl, _, rfl, p, m, rfl, hp1, m0, by omega, fun r2 H2 r2l hp2 o2 => ?_⟩
      refine ⟨_, _, rfl, rfl, ?_⟩
      have O2 := o1.trans o2
      refine ⟨_, rfl, p, false, rfl, hp2, fun t1 a1 b1 e1 H3 hp3 o3 nt1 ft1 ht1 al1 bl1 _ => ?_⟩
      have al1 : a1 < 12 := al1
      have bl1 : b1 < 12 := bl1
      refine ⟨_, rfl, p, true, rfl, hp3, fun t2 a2 b2 e2 H4 hp4 o4 nt2 ft2 ht2 al2 bl2 _ => ⟨_, _, rfl, ?_⟩⟩
      have al2 : a2 < 18 := al2
      have bl2 : b2 < 18 := bl2
      have o34 := o3.trans o4
      have ht1' := o4 _ _ nt1 ht1
      refine ⟨_, rfl, _, rfl, _, rfl, _, rfl, by omega, by omega, fun D nD => ?_⟩
      have nDp := bag_ne hp4 nD
      have oH4 := O2.trans o34
      have hDn : H D = none := off_none oH4 nDp nD
      refine lc_range (lo := 0) (fun i H' => BagAt H' p ∧ Off p H4 H' ∧ ∃ (ts : List Addr) (as : List Act3), H' D = some (.lst (ts.map V.ref)) ∧ ts.length = i ∧ as.length = i ∧ (∀ (j : Nat) (s : Addr) (x : Act3), ts[j]? = some s → as[j]? = some x → ActH (fun a => H4 a = none ∧ a ≠ D) H' s x.1 x.2.1 x.2.2) ∧ ∀ x ∈ as, ActOk x.1 x.2.1 x.2.2)
        ⟨hp4.ext (same_new nD), Same.off (same_new nD), [], [], upd_same, rfl, rfl, fun j s x hs _ => (by cases hs), fun x hx => absurd hx List.not_mem_nil⟩ (fun i H' hi h => ?_) (fun H' h => ?_)
      · obtain ⟨hb, oo, ts, as, hD, tl', al', hts, hok⟩ := h
        refine ⟨rfl, ?_⟩
        refine ⟨_, rfl, p, rfl, hb, fun t w' ps g H5 hb5 o5 hA hO => ⟨_, o5 D _ nDp hD, ?_, ?_, ?_, ts ++ [t], as ++ [(w', ps, g)], ?_, ?_, ?_, fun j s x hs hx => ?_, fun x hx => ?_⟩⟩
        · rw [List.length_map]
          omega
        · obtain ⟨x1, x2, x3, hx⟩ := hb5
          exact ⟨x1, x2, x3, by rw [upd_ne nDp.symm]; exact hx⟩
        · exact off_upd (oo.trans o5) nD
        · rw [upd_same, List.map_append]
          rfl
        · rw [List.length_append, tl']
          rfl
        · rw [List.length_append, al']
          rfl
        · by_cases hj : j < ts.length
          · rw [List.getElem?_append_left hj] at hs
            rw [List.getElem?_append_left (by omega)] at hx
            refine (hts j s x hs hx).keep (fun a h => h) fun b o hb' e => ?_
            rw [upd_ne hb'.2]
            exact o5 b o (bag_ne hp4 hb'.1) e
          · rw [List.getElem?_append_right (by omega)] at hs
            rw [List.getElem?_append_right (by omega)] at hx
            have e0 : j - ts.length = j - as.length := by omega
            cases hd : j - ts.length with
            | zero =>
              rw [hd] at hs
              rw [← e0, hd] at hx
              cases hs
              cases hx
              refine hA.keep (fun a h => free_of hb oo hD h) fun b o hb' e => ?_
              rw [upd_ne (free_of hb oo hD hb').2]
              exact e
            | succ n =>
              rw [hd] at hs
              cases hs
        · rcases List.mem_append.mp hx with e | e
          · exact hok x e
          · rw [List.mem_singleton.mp e]
            exact hO
      · obtain ⟨hb, oo, ts, as, hD, tl', al', hts, hok⟩ := h
        refine ⟨(by show 3 ≤ sizeLine; omega), fun t nt => ?_⟩
        have k := same_new (o := .tup [.ref t1, .ref t2, .ref D]) nt
        have oA := (oH4.trans oo).trans (Same.off k)
        have nin : ∀ a, (H4 a = none ∧ a ≠ D) → H a = none := fun a h => off_none oH4 (bag_ne hp4 h.1) h.1
        have f2 : H t2 = none := off_none (O2.trans o3) nt2 ft2
        refine q t ⟨(a1, b1, e1), (a2, b2, e2), as⟩ _ (hb.ext k) oA ⟨t1, t2, D, ts, off_none (oH4.trans oo) (bag_ne hb nt) nt, off_none O2 nt1 ft1, f2, hDn, upd_same, k _ _ (oo _ _ nt1 ht1'), k _ _ (oo _ _ nt2 ht2), k _ _ hD, by rw [tl', al'], fun j s x hs hx => (hts j s x hs hx).keep nin fun b o _ e => k _ _ e⟩
          ⟨al1, bl1, al2, bl2, by show as.length ≤ 6; omega, hok⟩
    · have O2 := o1
      refine ⟨_, rfl, p, false, rfl, hp1, fun t1 a1 b1 e1 H3 hp3 o3 nt1 ft1 ht1 al1 bl1 _ => ?_⟩
      have al1 : a1 < 12 := al1
      have bl1 : b1 < 12 := bl1
      refine ⟨_, rfl, p, true, rfl, hp3, fun t2 a2 b2 e2 H4 hp4 o4 nt2 ft2 ht2 al2 bl2 _ => ⟨_, _, rfl, ?_⟩⟩
      have al2 : a2 < 18 := al2
      have bl2 : b2 < 18 := bl2
      have o34 := o3.trans o4
      have ht1' := o4 _ _ nt1 ht1
      refine ⟨_, rfl, _, rfl, _, rfl, _, rfl, by omega, by omega, fun D nD => ?_⟩
      have nDp := bag_ne hp4 nD
      have oH4 := O2.trans o34
      have hDn : H D = none := off_none oH4 nDp nD
      refine lc_range (lo := 0) (fun i H' => BagAt H' p ∧ Off p H4 H' ∧ ∃ (ts : List Addr) (as : List Act3), H' D = some (.lst (ts.map V.ref)) ∧ ts.length = i ∧ as.length = i ∧ (∀ (j : Nat) (s : Addr) (x : Act3), ts[j]? = some s → as[j]? = some x → ActH (fun a => H4 a = none ∧ a ≠ D) H' s x.1 x.2.1 x.2.2) ∧ ∀ x ∈ as, ActOk x.1 x.2.1 x.2.2)
        ⟨hp4.ext (same_new nD), Same.off (same_new nD), [], [], upd_same, rfl, rfl, fun j s x hs _ => (by cases hs), fun x hx => absurd hx List.not_mem_nil⟩ (fun i H' hi h => ?_) (fun H' h => ?_)
      · obtain ⟨hb, oo, ts, as, hD, tl', al', hts, hok⟩ := h
        refine ⟨rfl, ?_⟩
        refine ⟨_, rfl, p, rfl, hb, fun t w' ps g H5 hb5 o5 hA hO => ⟨_, o5 D _ nDp hD, ?_, ?_, ?_, ts ++ [t], as ++ [(w', ps, g)], ?_, ?_, ?_, fun j s x hs hx => ?_, fun x hx => ?_⟩⟩
        · rw [List.length_map]
          omega
        · obtain ⟨x1, x2, x3, hx⟩ := hb5
          exact ⟨x1, x2, x3, by rw [upd_ne nDp.symm]; exact hx⟩
        · exact off_upd (oo.trans o5) nD
        · rw [upd_same, List.map_append]
          rfl
        · rw [List.length_append, tl']
          rfl
        · rw [List.length_append, al']
          rfl
        · by_cases hj : j < ts.length
          · rw [List.getElem?_append_left hj] at hs
            rw [List.getElem?_append_left (by omega)] at hx
            refine (hts j s x hs hx).keep (fun a h => h) fun b o hb' e => ?_
            rw [upd_ne hb'.2]
            exact o5 b o (bag_ne hp4 hb'.1) e
          · rw [List.getElem?_append_right (by omega)] at hs
            rw [List.getElem?_append_right (by omega)] at hx
            have e0 : j - ts.length = j - as.length := by omega
            cases hd : j - ts.length with
            | zero =>
              rw [hd] at hs
              rw [← e0, hd] at hx
              cases hs
              cases hx
              refine hA.keep (fun a h => free_of hb oo hD h) fun b o hb' e => ?_
              rw [upd_ne (free_of hb oo hD hb').2]
              exact e
            | succ n =>
              rw [hd] at hs
              cases hs
        · rcases List.mem_append.mp hx with e | e
          · exact hok x e
          · rw [List.mem_singleton.mp e]
            exact hO
      · obtain ⟨hb, oo, ts, as, hD, tl', al', hts, hok⟩ := h
        refine ⟨(by show 3 ≤ sizeLine; omega), fun t nt => ?_⟩
        have k := same_new (o := .tup [.ref t1, .ref t2, .ref D]) nt
        have oA := (oH4.trans oo).trans (Same.off k)
        have nin : ∀ a, (H4 a = none ∧ a ≠ D) → H a = none := fun a h => off_none oH4 (bag_ne hp4 h.1) h.1
        have f2 : H t2 = none := off_none (O2.trans o3) nt2 ft2
        refine q t ⟨(a1, b1, e1), (a2, b2, e2), as⟩ _ (hb.ext k) oA ⟨t1, t2, D, ts, off_none (oH4.trans oo) (bag_ne hb nt) nt, off_none O2 nt1 ft1, f2, hDn, upd_same, k _ _ (oo _ _ nt1 ht1'), k _ _ (oo _ _ nt2 ht2), k _ _ hD, by rw [tl', al'], fun j s x hs hx => (hts j s x hs hx).keep nin fun b o _ e => k _ _ e⟩
          ⟨al1, bl1, al2, bl2, by show as.length ≤ 6; omega, hok⟩
end
end Sq.N3
namespace Sq.N3
open PySem L2 TL
abbrev sPage : Stmt := top 62
section
variable {P : Program} {w : World} {K : PySem.W.Frag} {mg : Str → Option Value} {base : Heap}
theorem scScheme : FnScope ["_law_bag_here", "_law_parts", "_law_acts", "_law_many", "_law_k"] ["_law_bag_here", "_law_parts", "_law_acts"] (defScope sScheme) := ⟨rfl, rfl, rfl, by decide +kernel, rfl, by decide +kernel, by decide +kernel⟩
theorem ok_scheme {f : Addr} {fd : FuncData} (F : Fun K "_law_scheme" "_law_scheme" sScheme f fd) (T : Bt mg) (KT : Kn P w K mg base "_law_take" 1 ["_law_bag_here", "_law_many"] spDraw) (KP : Kn P w K mg base "_law_part" 3 ["_law_bag_here", "_law_most"] spPart) :
    FnOk P w K mg base CX0 4 f fd ["_law_bag_here", "_law_parts", "_law_acts"] spScheme := by
  obtain ⟨fT, dT, mT, kT, bT, GT⟩ := KT
  obtain ⟨fA, dA, mA, kA, bA, GA⟩ := KP
  refine F.ok scScheme (fun vs H Q E h => ?_) (fun cdv A outer s H vs Q E hr h => ?_)
  · obtain ⟨p, k, m, rfl, _⟩ := h
    rfl
  · obtain ⟨p, k, m, rfl, k0, k6, m0, m6, hp, q⟩ := h
    have big : 10000 ≤ sizeLine := by decide
    have hr1 := hr.mono (show 1 ≤ 3 by decide)
    refine ⟨_, pss_cons (ps_set (i := 3) scScheme.nd rfl (.inl rfl) (pe_ifExp (pt_cmpR op_gt (pe_call GT hr1 (by rfl) mT kT bT .nil pass0 (pa_cons (pv 0) (pa_cons pe_int pa_nil))) pe_int (nomark _)) (pe_op op_add pe_int (pe_call GT hr1 (by rfl) mT kT bT .nil pass0 (pa_cons (pv 0) (pa_cons (pv 1) pa_nil)))) pe_int))
      (pss_one (ps_ret (pe_lc (own := [("_law_k", 4)]) (g := gName 4) (by rfl) scScheme.nd (pi_range1 (by rfl) T.range (pa_cons (pv 3) pa_nil))
          (blkOk_by (own := [("_law_k", 4)]) (N := ["_law_bag_here", "_law_parts", "_law_acts", "_law_many", "_law_k"]) (sc := defScope sScheme) (by decide +kernel)) (fun _ _ _ _ _ => pg_name (i := 4) scScheme.nd rfl (Or.inl rfl)) (fun _ _ _ _ _ => pts_nil)
          (fun _ _ _ _ _ => pe_call GA hr (by rfl) mA kA bA .nil pass0 (pa_cons (pv 0) (pa_cons (pv 2) pa_nil)))))), ?_⟩
    refine ⟨_, rfl, p, 10, rfl, hp, by decide, by decide, fun r H1 rl hp1 o1 => ?_⟩
    refine ⟨_, _, rfl, rfl, _, rfl, ?_⟩
    refine ite2 (fun _ => ?_) (fun _ => ?_)
    · refine ⟨_, rfl, _, rfl, p, k, rfl, hp1, k0, by omega, fun r2 H2 r2l hp2 o2 => ?_⟩
      refine ⟨_, _, rfl, rfl, ?_⟩
      have O2 := o1.trans o2
      refine ⟨_, rfl, _, rfl, by omega, by omega, fun D nD => ?_⟩
      have nDp := bag_ne hp2 nD
      have hDn : H D = none := off_none O2 nDp nD
      refine lc_range (lo := 0) (fun i H' => BagAt H' p ∧ Off p H2 H' ∧ ∃ (ts : List Addr) (as : List Part), H' D = some (.lst (ts.map V.ref)) ∧ ts.length = i ∧ as.length = i ∧ (∀ (j : Nat) (s : Addr) (x : Part), ts[j]? = some s → as[j]? = some x → PartH (fun a => H2 a = none ∧ a ≠ D) H' s x) ∧ ∀ x ∈ as, PartOk x)
        ⟨hp2.ext (same_new nD), Same.off (same_new nD), [], [], upd_same, rfl, rfl, fun j s x hs _ => (by cases hs), fun x hx => absurd hx List.not_mem_nil⟩ (fun i H' hi h => ?_) (fun H' h => ?_)
      · obtain ⟨hb, oo, ts, as, hD, tl', al', hts, hok⟩ := h
        refine ⟨rfl, ?_⟩
        refine ⟨_, rfl, _, rfl, p, m, rfl, m0, m6, hb, fun t x0 H5 hb5 o5 hA hO => ⟨_, o5 D _ nDp hD, ?_, ?_, ?_, ts ++ [t], as ++ [x0], ?_, ?_, ?_, fun j s x hs hx => ?_, fun x hx => ?_⟩⟩
        · rw [List.length_map]
          omega
        · obtain ⟨x1, x2, x3, hx⟩ := hb5
          exact ⟨x1, x2, x3, by rw [upd_ne nDp.symm]; exact hx⟩
        · exact off_upd (oo.trans o5) nD
        · rw [upd_same, List.map_append]
          rfl
        · rw [List.length_append, tl']
          rfl
        · rw [List.length_append, al']
          rfl
        · by_cases hj : j < ts.length
          · rw [List.getElem?_append_left hj] at hs
            rw [List.getElem?_append_left (by omega)] at hx
            refine (hts j s x hs hx).keep (fun a h => h) fun b o hb' e => ?_
            rw [upd_ne hb'.2]
            exact o5 b o (bag_ne hp2 hb'.1) e
          · rw [List.getElem?_append_right (by omega)] at hs
            rw [List.getElem?_append_right (by omega)] at hx
            have e0 : j - ts.length = j - as.length := by omega
            cases hd : j - ts.length with
            | zero =>
              rw [hd] at hs
              rw [← e0, hd] at hx
              cases hs
              cases hx
              refine hA.keep (fun a h => free_of hb oo hD h) fun b o hb' e => ?_
              rw [upd_ne (free_of hb oo hD hb').2]
              exact e
            | succ n =>
              rw [hd] at hs
              cases hs
        · rcases List.mem_append.mp hx with e | e
          · exact hok x e
          · rw [List.mem_singleton.mp e]
            exact hO
      · obtain ⟨hb, oo, ts, as, hD, tl', al', hts, hok⟩ := h
        have nin : ∀ a, (H2 a = none ∧ a ≠ D) → H a = none := fun a h => off_none O2 (bag_ne hp2 h.1) h.1
        exact q D as _ hb (O2.trans oo) ⟨hDn, ts, hD, by rw [tl', al'], fun j s x hs hx => (hts j s x hs hx).keep nin fun b o _ e => e⟩ (by omega) hok
    · have O2 := o1
      refine ⟨_, rfl, _, rfl, by omega, by omega, fun D nD => ?_⟩
      have nDp := bag_ne hp1 nD
      have hDn : H D = none := off_none O2 nDp nD
      refine lc_range (lo := 0) (fun i H' => BagAt H' p ∧ Off p H1 H' ∧ ∃ (ts : List Addr) (as : List Part), H' D = some (.lst (ts.map V.ref)) ∧ ts.length = i ∧ as.length = i ∧ (∀ (j : Nat) (s : Addr) (x : Part), ts[j]? = some s → as[j]? = some x → PartH (fun a => H1 a = none ∧ a ≠ D) H' s x) ∧ ∀ x ∈ as, PartOk x)
        ⟨hp1.ext (same_new nD), Same.off (same_new nD), [], [], upd_same, rfl, rfl, fun j s x hs _ => (by cases hs), fun x hx => absurd hx List.not_mem_nil⟩ (fun i H' hi h => ?_) (fun H' h => ?_)
      · obtain ⟨hb, oo, ts, as, hD, tl', al', hts, hok⟩ := h
        refine ⟨rfl, ?_⟩
        refine ⟨_, rfl, _, rfl, p, m, rfl, m0, m6, hb, fun t x0 H5 hb5 o5 hA hO => ⟨_, o5 D _ nDp hD, ?_, ?_, ?_, ts ++ [t], as ++ [x0], ?_, ?_, ?_, fun j s x hs hx => ?_, fun x hx => ?_⟩⟩
        · rw [List.length_map]
          omega
        · obtain ⟨x1, x2, x3, hx⟩ := hb5
          exact ⟨x1, x2, x3, by rw [upd_ne nDp.symm]; exact hx⟩
        · exact off_upd (oo.trans o5) nD
        · rw [upd_same, List.map_append]
          rfl
        · rw [List.length_append, tl']
          rfl
        · rw [List.length_append, al']
          rfl
        · by_cases hj : j < ts.length
          · rw [List.getElem?_append_left hj] at hs
            rw [List.getElem?_append_left (by omega)] at hx
            refine (hts j s x hs hx).keep (fun a h => h) fun b o hb' e => ?_
            rw [upd_ne hb'.2]
            exact o5 b o (bag_ne hp1 hb'.1) e
          · rw [List.getElem?_append_right (by omega)] at hs
            rw [List.getElem?_append_right (by omega)] at hx
            have e0 : j - ts.length = j - as.length := by omega
            cases hd : j - ts.length with
            | zero =>
              rw [hd] at hs
              rw [← e0, hd] at hx
              cases hs
              cases hx
              refine hA.keep (fun a h => free_of hb oo hD h) fun b o hb' e => ?_
              rw [upd_ne (free_of hb oo hD hb').2]
              exact e
            | succ n =>
              rw [hd] at hs
              cases hs
        · rcases List.mem_append.mp hx with e | e
          · exact hok x e
          · rw [List.mem_singleton.mp e]
            exact hO
      · obtain ⟨hb, oo, ts, as, hD, tl', al', hts, hok⟩ := h
        have nin : ∀ a, (H1 a = none ∧ a ≠ D) → H a = none := fun a h => off_none O2 (bag_ne hp1 h.1) h.1
        exact q D as _ hb (O2.trans oo) ⟨hDn, ts, hD, by rw [tl', al'], fun j s x hs hx => (hts j s x hs hx).keep nin fun b o _ e => e⟩ (by omega) hok
end
end Sq.N3
namespace Sq.N3
open PySem L2 TL
def spPage : Sp := fun vs H Q _ => ∃ (N : Addr → Prop) (D : Addr) (qs : List Part), vs = [.ref D] ∧ PlanH N H D qs ∧ (∀ q ∈ qs, PartOk q) ∧ qs.length ≤ 5 ∧ ∀ H', Same H H' → Q (.str (progT (qs.map Part.nest))) H'
def pageRows (qs : List Part) : List Str := ((qs.map Part.nest).map rowsOf).flatten
theorem pageRows_succ {qs : List Part} {i : Nat} {q : Part} (h : qs[i]? = some q) : pageRows (qs.take (i + 1)) = pageRows (qs.take i) ++ rowsOf q.nest := by
  unfold pageRows
  rw [List.take_add_one, h]
  simp
theorem pageRows_len {qs : List Part} (ok : ∀ q ∈ qs, PartOk q) : (pageRows qs).length ≤ 8 * qs.length := by
  have z := flat_len (ns := qs.map Part.nest) fun n hn => by
    obtain ⟨q, hq, rfl⟩ := List.mem_map.mp hn
    exact (ok q hq).nest
  rw [List.length_map] at z
  exact z
theorem pageRows_rows {qs : List Part} (ok : ∀ q ∈ qs, PartOk q) : ∀ r ∈ pageRows qs, r.length ≤ 200 := fun r hr =>
  (flat_all (ns := qs.map Part.nest) (fun n hn => by
    obtain ⟨q, hq, rfl⟩ := List.mem_map.mp hn
    exact (ok q hq).nest) r hr).2
section
variable {P : Program} {w : World} {K : PySem.W.Frag} {mg : Str → Option Value} {base : Heap}
theorem scPage : FnScope ["_law_plan", "_law_rows", "_law_over", "_law_under", "_law_acts", "_law_act_here"] ["_law_plan"] (defScope sPage) := ⟨rfl, rfl, rfl, by decide +kernel, rfl, by decide +kernel, by decide +kernel⟩
theorem ok_page {f : Addr} {fd : FuncData} (F : Fun K "_law_page" "_law_page" sPage f fd) (KQ : Kn P w K mg base "_law_act_row" 1 ["_law_act_here"] (spActRow K)) (KV : Kn P w K mg base "_law_walk_row" 2 ["_law_walk_here"] (spWalkRow K)) : FnOk P w K mg base CX0 3 f fd ["_law_plan"] spPage := by
  obtain ⟨fQ, dQ, mQ, kQ, bQ, GQ⟩ := KQ
  obtain ⟨fR, dR, mR, kR, bR, GR⟩ := KV
  refine F.ok scPage (fun vs H Q E h => ?_) (fun cdv A outer s H vs Q E hr h => ?_)
  · obtain ⟨N, D, qs, rfl, _⟩ := h
    rfl
  · obtain ⟨N, D, qs, rfl, ⟨_, ts, hD, tl', hts⟩, ok, ql, q⟩ := h
    have big : 10000 ≤ sizeLine := by decide
    have hr1 := hr.mono (show 1 ≤ 2 by decide)
    refine ⟨_, pss_cons (ps_set (i := 1) scPage.nd rfl (.inl rfl) (pe_lst pa_nil))
      (pss_cons (ps_for PassesOwn.never rfl (pi_list (pv 0)) (pg_tup (by rfl) (pgs_cons (pg_name (i := 2) scPage.nd rfl (.inl rfl)) (pgs_cons (pg_name (i := 3) scPage.nd rfl (.inl rfl)) (pgs_cons (pg_name (i := 4) scPage.nd rfl (.inl rfl)) pgs_nil))))
        (pss_cons (ps_set (i := 1) scPage.nd rfl (.inl rfl) (pe_op op_cat (pv 1) (pe_lst (pa_cons (pe_op op_add_str pe_str (pe_call GR hr (by rfl) mR kR bR .nil pass0 (pa_cons (pv 2) pa_nil))) (pa_cons (pe_op op_add_str pe_str (pe_call GR hr (by rfl) mR kR bR .nil pass0 (pa_cons (pv 3) pa_nil))) pa_nil)))))
        (pss_one (ps_set (i := 1) scPage.nd rfl (.inl rfl) (pe_op op_cat (pv 1) (pe_lc (own := [("_law_act_here", 5)]) (g := gName 5) (by rfl) scPage.nd (pi_list (pv 4))
          (blkOk_by (own := [("_law_act_here", 5)]) (N := ["_law_plan", "_law_rows", "_law_over", "_law_under", "_law_acts", "_law_act_here"]) (sc := defScope sPage) (by decide +kernel)) (fun _ _ _ _ _ => pg_name (i := 5) scPage.nd rfl (Or.inl rfl)) (fun _ _ _ _ _ => pts_nil)
          (fun _ _ _ _ _ => pe_call GQ hr1 (by rfl) mQ kQ bQ .nil pass0 (pa_cons (pv 5) pa_nil))))))))
      (pss_one (ps_ret (pe_join pe_str (pv 1))))), ?_⟩
    refine ⟨Nat.zero_le _, fun R0 nR => ?_⟩
    have k0 := same_new (o := .lst []) nR
    refine ⟨_, rfl, D, rfl, ⟨_, SqL.of (k0 _ _ hD)⟩, ?_⟩
    refine for_list (xs := ts.map V.ref) (fun i σ H' => (∃ R v2 v3 v4 v5, σ = [some (.ref D), some (.ref R), v2, v3, v4, v5] ∧ H' R = some (.lst ((pageRows (qs.take i)).map V.str))) ∧ Same H H') ⟨⟨R0, _, _, _, _, rfl, upd_same⟩, k0⟩ (fun i σ H' _ h => SqL.of (h.2 _ _ hD)) (fun i x σ H' hi h => ?_) (fun σ H' h => ?_)
    · obtain ⟨⟨R, v2, v3, v4, v5, rfl, hR⟩, sm⟩ := h
      obtain ⟨t, ht, rfl⟩ : ∃ t, ts[i]? = some t ∧ x = .ref t := by
        rw [List.getElem?_map] at hi
        cases e : ts[i]? with
        | none => rw [e] at hi; cases hi
        | some r => rw [e] at hi; exact ⟨r, rfl, (Option.some.inj hi).symm⟩
      have hil : i < qs.length := by rw [← tl']; exact (List.getElem?_eq_some_iff.mp ht).1
      have hqi : qs[i]? = some qs[i] := List.getElem?_eq_getElem hil
      have okq := ok _ (List.getElem_mem hil)
      obtain ⟨o, u, l, as, _, _, _, _, h1, h2, h3, h4, h5, h6⟩ := hts i t _ ht hqi
      generalize qs[i] = p at *
      have T1 := okq.nest.l1
      have T2 := okq.nest.l2
      have o7 : ofrom.length = 7 := by decide +kernel
      have j7 : jfrom.length = 7 := by decide +kernel
      have plen : (pageRows (qs.take i)).length ≤ 40 := by
        have := pageRows_len (qs := qs.take i) fun q hq => ok q (List.mem_of_mem_take hq)
        rw [List.length_take] at this
        omega
      refine ⟨t, _, rfl, SqT.of (sm _ _ h1), rfl, _, _, rfl, _, _, rfl, _, _, rfl, rfl, ?_⟩
      refine ⟨_, rfl, ?_⟩
      refine ⟨_, rfl, o, p.o.1, p.o.2.1, p.o.2.2, rfl, SqT.of (sm _ _ h2), by have := okq.o1; omega, by have := okq.o2; omega, fun H1 s1 => ?_⟩
      refine ⟨ofrom, p.nest.1, rfl, rfl, by omega, ?_⟩
      refine ⟨_, rfl, u, p.u.1, p.u.2.1, p.u.2.2, rfl, SqT.of (s1 _ _ (sm _ _ h3)), okq.u1, okq.u2, fun H2 s2 => ?_⟩
      refine ⟨jfrom, p.nest.2.1, rfl, rfl, by omega, ?_⟩
      refine ⟨(by show 2 ≤ sizeLine; omega), fun a2 na2 => ?_⟩
      have k1 := (s1.trans s2).trans (same_new (o := .lst [.str (ofrom ++ p.nest.1), .str (jfrom ++ p.nest.2.1)]) na2)
      refine ⟨R, a2, _, _, rfl, rfl, k1 _ _ hR, upd_same, (by rw [List.length_map]; show (pageRows (qs.take i)).length + 2 ≤ sizeLine; omega), fun R2 nR2 => ?_⟩
      have k2 := k1.trans (same_new (o := .lst ((pageRows (qs.take i)).map V.str ++ [.str (ofrom ++ p.nest.1), .str (jfrom ++ p.nest.2.1)])) nR2)
      refine ⟨_, rfl, ?_⟩
      refine ⟨_, rfl, l, rfl, ⟨_, SqL.of (k2 _ _ (sm _ _ h4))⟩, fun D2 nD2 => ?_⟩
      have hR2 := new_at (o := .lst ((pageRows (qs.take i)).map V.str ++ [.str (ofrom ++ p.nest.1), .str (jfrom ++ p.nest.2.1)])) nR2
      refine lc_list (K := K) (a := l) (xs := as.map V.ref) (fun j H'' => Same _ H'' ∧ H'' D2 = some (.lst (((p.nest.2.2).take j).map V.str))) ⟨same_new nD2, upd_same⟩ (fun j H'' _ h => SqL.of (h.1 _ _ (k2 _ _ (sm _ _ h4)))) (fun j y H'' hj h => ?_) (fun H'' h => ?_)
      · obtain ⟨sj, hL⟩ := h
        refine ⟨rfl, ?_⟩
        obtain ⟨a, ha, rfl⟩ : ∃ a, as[j]? = some a ∧ y = .ref a := by
          rw [List.getElem?_map] at hj
          cases e : as[j]? with
          | none => rw [e] at hj; cases hj
          | some r => rw [e] at hj; exact ⟨r, rfl, (Option.some.inj hj).symm⟩
        have hjl : j < p.acts.length := by rw [← h5]; exact (List.getElem?_eq_some_iff.mp ha).1
        have hpj : p.acts[j]? = some p.acts[j] := List.getElem?_eq_getElem hjl
        have hA := (ActH.at (K := K) (h6 j a _ ha hpj)).ext ((sm.trans k2).trans sj)
        refine ⟨_, rfl, a, _, _, _, rfl, hA, okq.ok _ (List.getElem_mem hjl), fun H3 s3 => ⟨_, s3 _ _ hL, ?_, ?_, ?_⟩⟩
        · rw [List.length_map, List.length_take]
          have := okq.nest.dl
          omega
        · intro c z hc
          rw [upd_ne (ne_of_none hc nD2)]
          exact s3 c z (sj c z hc)
        · rw [upd_same, List.take_add_one, show p.nest.2.2[j]? = some (actS p.acts[j].1 p.acts[j].2.1 p.acts[j].2.2) from by unfold Part.nest; rw [List.getElem?_map, hpj]; rfl, List.map_append]
          rfl
      · obtain ⟨sj, hL⟩ := h
        rw [List.length_map, h5, show p.acts.length = p.nest.2.2.length from (List.length_map ..).symm, List.take_length] at hL
        refine ⟨R2, D2, _, _, rfl, rfl, sj _ _ hR2, hL, ?_, fun R3 nR3 => ?_⟩
        · have := okq.nest.dl
          rw [List.length_append, List.length_map, List.length_map]
          show (pageRows (qs.take i)).length + 2 + p.nest.2.2.length ≤ sizeLine
          omega
        · refine ⟨⟨R3, _, _, _, _, rfl, ?_⟩, ((sm.trans k2).trans sj).trans (same_new nR3)⟩
          rw [upd_same, pageRows_succ hqi, List.map_append, List.append_assoc]
          rfl
    · obtain ⟨⟨R, v2, v3, v4, v5, rfl, hR⟩, sm⟩ := h
      rw [List.length_map, tl', List.take_length] at hR
      refine ⟨⟨_, rfl⟩, _, rfl, "\n", R, pageRows qs, rfl, rfl, .inl (SqL.of hR), ?_, q H' sm⟩
      have b1 := sum_le (m := 200) (pageRows_rows ok)
      have b2 := pageRows_len ok
      have b3 : ("\n" : Str).length = 1 := by decide +kernel
      rw [b3]
      omega
end
end Sq.N3
namespace Sq
open PySem L2 PySem.Spec PyProof.Rows
/-! ### a op b, both instances of one class of the text; C(*b) -/
def rBin (C : Addr) (sp : Sp) (E : XK) : R2 := fun x y H Q => ∃ a b dx dy fs gs, x = .ref a ∧ y = .ref b ∧ H a = some (.ins C dx fs) ∧ H b = some (.ins C dy gs) ∧ sp [.ref a, .ref b] H Q E
section
variable {X : Cx} {CX : CXT} {n k : Nat} {f g C : Addr} {sp : Sp} {E : XK} {x : Str} {e : Expr} {te : TE} {p sp_ pos : Pos}
theorem op_bin {op : Operator} (hc : PySem.W.selfFirst X.K C = true) (hs : PySem.W.findIn X.K (.ref C) (PySem.dunder op.info.2) = some (some (.ref g))) (hf : PySem.W.isFn X.K (.ref g) = true) (F : FnR X.prog X.w X.K X.mg X.base CX n g sp) (hr : Room n X.A) (hx : Passes CX X E) :
    OpR X (binaryOp op) (rBin C sp E) := by
  intro pins s σ H x y v u Q I rx ry h
  obtain ⟨a, b, dx, dy, fs, gs, rfl, rfl, ha, hb, q⟩ := h
  cases (show v = Value.ref a from rx)
  cases (show u = Value.ref b from ry)
  obtain ⟨_, J, _⟩ := ins_get I.hok ha
  obtain ⟨_, J, _⟩ := J.look
  obtain ⟨_, J', _⟩ := ins_get I.hok hb
  obtain ⟨_, J', _⟩ := J'.look
  obtain ⟨m, hF⟩ := I.fr
  refine PySem.W.binop_K hF I.ok.mod.kin J J'.type hc hs hf ?_
  refine wpAny_mono (wpAny_call (run_fnR (us := [.ref a, .ref b]) (vs := [.ref a, .ref b]) F hr hx I (.cons rfl (.cons rfl .nil)) q)) (fun w s' z => ?_) fun _ _ x => x
  obtain ⟨z', H', I', rz, qz⟩ := z
  exact SlX.cmpback rz ⟨z', H', I', rz, qz⟩
def tMakeG (K : PySem.W.Frag) (C : Addr) (sp : Sp) (E : XK) (te : TE) : TE := fun σ H Q => te σ H fun y H1 => ∃ a xs, y = V.ref a ∧ (SqT K H1 a xs ∨ SqL K H1 a xs) ∧ ∀ x dx, H1 x = Option.none → H1 dx = Option.none → dx ≠ x →
  sp (V.ref x :: xs) (upd (upd H1 dx (.own x)) x (.ins C dx [])) (fun v H2 => v = .non ∧ Q (.ref x) H2) E
theorem pe_makeSG (M : Mk X.K C f) (F : FnR X.prog X.w X.K X.mg X.base CX k f sp) (hr : Room (k + 1) X.A) (hg : Gl X x) (hm : X.mg x = some (.ref C)) (hx : Passes CX X E) (he : PE X e te) (hdb : (x == ("__debug__" : Str)) = false := by decide)
    (hst : starEach [.Starred e sp_] X.env = [(true, eval e X.env)] := by rfl) : PE X (.Call (.Name x p) [.Starred e sp_] [] pos) (tMakeG X.K C sp E te) := by
  refine ⟨fun pins s σ H Q I h => ?_⟩
  refine wpAny_Call_Name_kw (ld_glob I hg hm ?_ hdb)
  refine PySem.W.callWith_S (h₀ := X.base) I.ok.mod.kin M.kp (thn (he.run pins s σ _ _ I h) fun v s1 ⟨y, H1, I1, ry, a, xs, ey, hxs, q⟩ => ?_) hst
  subst ey
  obtain rfl : v = Value.ref a := ry
  exact StX.star_any I1 hxs fun us s2 I2 rv => ⟨I2.kIn, StX.run_makeR M F hr hx I2 rv q⟩
/-- an item of a list or of a tuple -/
theorem ix_or {K : PySem.W.Frag} {H : Hp} {l : Addr} {xs : List V} {i : Int} {v : V} {Q : VK} (h : SqL K H l xs ∨ SqT K H l xs) (e : atI xs i = some v) (q : Q v H) : rIxL K (.ref l) (.int i) H Q ∨ L2.rIxT K (.ref l) (.int i) H Q :=
  h.elim (fun h => .inl ⟨l, xs, i, v, rfl, rfl, h, e, q⟩) fun h => .inr ⟨l, xs, i, v, rfl, rfl, h, e, q⟩
end
end Sq
namespace Sq
open PySem L2 PySem.Spec PyProof.Rows L2H
/-- what a callee lets out, told from an earlier state -/
theorem cxUpN {P : Program} {w : World} : StX.CXUp (L2N.CX P w) := by
  intro outer s H s2 H2 E e s' un kp ho h
  obtain ⟨a, B, H', cls, d, ea, fl, hok, ub, na, os, ag, he⟩ := h
  refine ⟨a, B, H', cls, d, ea, fl, hok, ⟨fun b o q n hb => ub.keep b o (kp b o q) (un.free b o q n (by simp)) hb, fun b o q hb => ub.slot b o (kp b o q) hb, fun b o q n => ub.free b o (kp b o q) (un.free b o q n (by simp)), fun b o q hb => ub.there b o (kp b o q) hb,
    fun b xs q => ub.tups b xs (un.tups b xs q), fun b o xs q => ub.frzs b o xs (un.frzs b o xs q), fun b ps q => ?_⟩, na, os.trans ho, ag, he⟩
  obtain ⟨m1, e1⟩ := un.tbls b ps q
  obtain ⟨m2, e2⟩ := ub.tbls b _ e1
  exact ⟨m1 ++ m2, by rw [e2, Array.append_assoc]⟩
/-- __init__ at an instance and two keywords -/
def FnK2N (P : Program) (w : World) (K : PySem.W.Frag) (mg : Str → Option Value) (base : Heap) (k : Nat) (f : Addr) (n1 n2 : Str) (sp : Sp) : Prop :=
  ∀ (A : Around) (fr : List Env) (s : Shared) (H : Hp) (x : Addr) (u1 u2 : Value) (v1 v2 : V) (Q : VK) (E : XK), Room k A → Env0 P w K mg base A fr s H → RelV v1 u1 → RelV v2 u2 →
    sp [.ref x, v1, v2] H Q E → codeAny (model P w) A (.call (.ref f) ⟨[.ref x], [(n1, u1), (n2, u2)]⟩) (CR (L2N.CX P w) fr P w H s Q E) s
section
variable {P : Program} {w : World} {K : PySem.W.Frag} {mg : Str → Option Value} {base : Heap} {k : Nat} {f : Addr} {name qual : Str} {params : Arguments} {body : List Stmt} {scope : Scope} {dV kV doc pm cdv ct oc : Value} {an od : Option Addr}
  {osl : Array (Option Value)} {N : List Str} {sp : Sp} {n0 n1 n2 nv : Str}
/-- def f(self, b, a, *v) called as f(x, a = .., b = ..): the star parameter is an empty tuple -/
theorem fn_starK2N (lk : K.lookup f = some ⟨oc, od, .func (PySem.W.fnOf name qual params body scope dV kV doc pm an cdv ct), osl⟩) (hcd : PySem.W.codeIn K cdv qual = true) (S : FnScope N [n0, n2, n1, nv] scope)
    (hb : ∀ x u1 u2 : Value, bindArgs (PySem.W.fnOf name qual params body scope dV kV doc pm an cdv ct) ⟨[x], [(n1, u1), (n2, u2)]⟩ = (newTuple [] >>= fun t => pure [(n0, x), (n2, u2), (n1, u1), (nv, t)]))
    (hbody : ∀ (A : Around) (outer : List Env) (s : Shared) (H : Hp) (vs : List V) (Q : VK) (E : XK), Room k (A.deeper (envOfC qual scope s.heap.objs.size f cdv)) → sp vs H Q E →
      ∃ t, PSs (cxOf (L2N.CX P w) P w K mg base N qual scope f cdv A outer s H E) body t ∧ t { nx := fun _ H' => Q .non H', rt := Q } (L2.start N vs) H) :
    FnK2N P w K mg base (k + 1) f n1 n2 (fun vs H Q E => ∃ x v1 v2, vs = [x, v1, v2] ∧ ∀ p, H p = none → sp [x, v2, v1, .ref p] (upd H p (.tup [])) Q E) := by
  intro A fr s H x u1 u2 v1 v2 Q E hr e0 r1 r2 h
  obtain ⟨x', v1', v2', ev, hq⟩ := h
  cases ev
  have hn : H s.heap.objs.size = none := e0.hok.fresh (Nat.le_refl _)
  refine StX.run_bnd lk hcd S hr e0 (G := fun xs H2 => ∃ p, H p = none ∧ xs = [.ref x, v2, v1, .ref p] ∧ H2 = upd H p (.tup [])) (fun A' Ex Q' hz => ?_) fun s2 H2 xs hx hr' => ?_
  · rw [hb (.ref x) u1 u2]
    refine wpAny_bind (wpAny_newTuple (wpAny_pure ?_) (Nat.zero_le _))
    have new : ObjOk P w (upd H s.heap.objs.size (.tup [])) (s.heap.push ({ cls := .type "tuple", data := .seq (([] : List Value)).toArray } : Obj)) s.heap.objs.size (.tup []) := ⟨Nat.zero_le _, [], .nil, ⟨_, Heap.get?_push_size _ rfl, rfl, _, rfl⟩⟩
    exact hz _ _ [.ref x, v2, v1, .ref s.heap.objs.size] [.ref x, u2, u1, .ref s.heap.objs.size] (StX.env0_laid e0 new) (StX.un_laid hn) rfl (fun e s3 z => cxUpN _ _ _ _ _ _ _ _ (StX.un_laid hn) (fun b o y => Heap.get?_push_of_some _ y) (by rfl) z) (.cons rfl (.cons r2 (.cons r1 (.cons rfl .nil)))) rfl ⟨_, hn, rfl, rfl⟩
  · obtain ⟨p, hp, rfl, rfl⟩ := hx
    exact hbody A fr s2 _ _ Q E hr' (hq p hp)
end
section
variable {X : Cx} {k : Nat} {f C : Addr} {sp : Sp} {x n1 n2 : Str} {p pos : Pos} {kws : List Keyword} {tk : TA}
def tMakeK2N (C : Addr) (sp : Sp) (E : XK) (tk : TA) : TE := fun σ H Q => tk σ H fun zs H2 => ∃ v1 v2, zs = [v1, v2] ∧ ∀ x dx, H2 x = none → H2 dx = none → dx ≠ x →
  sp [.ref x, v1, v2] (upd (upd H2 dx (.own x)) x (.ins C dx [])) (fun v H3 => v = .non ∧ Q (.ref x) H3) E
/-- C(a = .., b = ..) -/
theorem pe_makeK2N {E : XK} (hx : Passes (L2N.CX X.prog X.w) X E) (M : Mk X.K C f) (F : FnK2N X.prog X.w X.K X.mg X.base k f n1 n2 sp) (hr : Room (k + 1) X.A) (hg : Gl X x) (hm : X.mg x = some (.ref C)) (hkw : PK X kws tk)
    (hall : (backToKw pos (keywordEach kws X.env)).all (·.1.isSome) = true := by rfl) (hks : (backToKw pos (keywordEach kws X.env)).filterMap (·.1) = [n1, n2] := by rfl) (hdb : (x == ("__debug__" : Str)) = false := by decide)
    (hpl : ((backTo pos (starEach [] X.env)).any (·.1) || (backToKw pos (keywordEach kws X.env)).any (·.1.isNone)) = false := by rfl) :
    PE X (.Call (.Name x p) [] kws pos) (tMakeK2N C sp E tk) := by
  constructor
  intro pins s σ H Q I h
  refine wpAny_Call_Name_kw (ld_glob I hg hm (PySem.W.callWith_KW0 (h₀ := X.base) I.ok.mod.kin M.kp hall ?_ hpl) hdb)
  refine thn (hkw.run pos pins s σ H _ I h) ?_
  rintro ws s2 ⟨zs, H2, I2, rz, v1, v2, ez, q⟩
  subst ez
  refine ⟨I2.kIn, ?_⟩
  rw [hks]
  obtain ⟨u1, u2, rfl, r1, r2⟩ : ∃ u1 u2, ws = [u1, u2] ∧ RelV v1 u1 ∧ RelV v2 u2 := by
    cases rz with
    | cons a b =>
      cases b with
      | cons c d =>
        cases d
        exact ⟨_, _, rfl, a, c⟩
  have hq := q (s2.heap.objs.size + 1) s2.heap.objs.size (I2.hok.fresh (Nat.le_succ _)) (I2.hok.fresh (Nat.le_refl _)) (Nat.ne_of_lt (Nat.lt_succ_self _))
  have I3 := Inv.made (C := C) I2
  have run := F _ X.stack _ _ (s2.heap.objs.size + 1) u1 u2 v1 v2 _ E (hr.make C [] [(n1, u1), (n2, u2)]) (I3.env0.make C [] [(n1, u1), (n2, u2)]) r1 r2 hq
  refine wpAny_call (make_map (f := f) I2.kIn M.makes M.init (beq_iff_eq.mp M.fn) (codeAny_mono run fun z s' hz => ?_))
  match z, hz with
  | .error e, hz => exact hx pins σ _ _ e s' I3 hz
  | .ok .next, hz => exact False.elim hz
  | .ok .brk, hz => exact False.elim hz
  | .ok .cont, hz => exact False.elim hz
  | .ok (.ret u), hz =>
    obtain ⟨v, H', I4, rv, ev, q3⟩ := I3.after hz
    subst ev
    exact ⟨rv, ⟨.ref (s2.heap.objs.size + 1), H', I4, rfl, q3⟩⟩
end
end Sq
namespace Sq
open PySem L2
abbrev Cell := Int × Int
def lexlt (a b : Cell) : Prop := a.1 < b.1 ∨ (a.1 = b.1 ∧ a.2 < b.2)
def lexle (a b : Cell) : Prop := a.1 < b.1 ∨ (a.1 = b.1 ∧ a.2 ≤ b.2)
def cells8 (n r c : Int) : List Cell := [(r, c), (c, r), (r, n - 1 - c), (n - 1 - c, r), (n - 1 - r, c), (c, n - 1 - r), (n - 1 - r, n - 1 - c), (n - 1 - c, n - 1 - r)]
def InN (n : Int) (q : Cell) : Prop := (0 ≤ q.1 ∧ q.1 < n) ∧ (0 ≤ q.2 ∧ q.2 < n)
theorem cells8_in {n r c : Int} (h : InN n (r, c)) : ∀ q ∈ cells8 n r c, InN n q := by
  obtain ⟨⟨h1, h2⟩, h3, h4⟩ := h
  simp only at h1 h2 h3 h4
  intro q hq
  unfold cells8 at hq
  simp only [List.mem_cons, List.not_mem_nil, or_false] at hq
  rcases hq with rfl | rfl | rfl | rfl | rfl | rfl | rfl | rfl <;> exact ⟨⟨by simp only; omega, by simp only; omega⟩, by simp only; omega, by simp only; omega⟩
/-- the cells L stand at their places -/
def PL (H : Hp) (L : List (Addr × Cell)) : Prop := ∀ q ∈ L, H q.1 = some (.tup [.int q.2.1, .int q.2.2])
def refs (L : List (Addr × Cell)) : List V := L.map fun q => V.ref q.1
theorem PL.same {H H' : Hp} {L : List (Addr × Cell)} (h : PL H L) (s : Same H H') : PL H' L := fun q hq => s _ _ (h q hq)
theorem perm_refs : ∀ {ys xs : List V}, ys.Perm xs → ∀ L, xs = refs L → ∃ L', L'.Perm L ∧ ys = refs L' := by
  intro ys xs h
  induction h with
  | nil => exact fun L e => ⟨L, .refl _, e⟩
  | @cons x l1 l2 p ih =>
    intro L e
    match L, e with
    | q :: L, e =>
      obtain ⟨e1, e2⟩ := List.cons.inj e
      obtain ⟨L', p', e'⟩ := ih L e2
      exact ⟨q :: L', p'.cons q, by rw [e1, e']; rfl⟩
  | swap x y l =>
    intro L e
    match L, e with
    | q :: r :: L, e =>
      obtain ⟨e1, e2⟩ := List.cons.inj e
      obtain ⟨e3, e4⟩ := List.cons.inj e2
      exact ⟨r :: q :: L, .swap _ _ _, by rw [e1, e3, e4]; rfl⟩
  | trans p1 p2 i1 i2 =>
    intro L e
    obtain ⟨L1, q1, e1⟩ := i2 L e
    obtain ⟨L2, q2, e2⟩ := i1 L1 e1
    exact ⟨L2, q2.trans q1, e2⟩
theorem code_lex {B : Int} {a b : Cell} (ha : InN B a) (hb : InN B b) (h : TS.code B [a.1, a.2] ≤ TS.code B [b.1, b.2]) : lexle a b := by
  have e : ∀ q : Cell, TS.code B [q.1, q.2] = q.1 * B + q.2 := fun q => by
    show q.1 * B ^ 1 + (q.2 * B ^ 0 + 0) = _
    rw [Int.pow_succ, Int.pow_zero, Int.one_mul, Int.mul_one, Int.add_zero]
  rw [e a, e b] at h
  obtain ⟨⟨_, _⟩, a3, a4⟩ := ha
  obtain ⟨⟨_, _⟩, b3, b4⟩ := hb
  unfold lexle
  by_cases h1 : a.1 < b.1
  · exact .inl h1
  by_cases h2 : a.1 = b.1
  · rw [h2] at h
    exact .inr ⟨h2, by omega⟩
  exfalso
  have h3 : b.1 + 1 ≤ a.1 := by omega
  have h4 := Int.mul_le_mul_of_nonneg_right h3 (show 0 ≤ B by omega)
  rw [Int.add_mul, Int.one_mul] at h4
  omega
theorem lexlt_of {a b : Cell} (h : lexle a b) (n : a ≠ b) : lexlt a b := by
  rcases h with h | ⟨h1, h2⟩
  · exact .inl h
  · refine .inr ⟨h1, ?_⟩
    by_cases e : a.2 = b.2
    · exact absurd (Prod.ext h1 e) n
    · omega
theorem tupD {K : PySem.W.Frag} {H : Hp} {t : Addr} {i j : Int} (h : H t = some (.tup [.int i, .int j])) : Dp K H (.ref t) (.tuple [.int i, .int j]) := .tup (SqT.of h) (.cons (.int _) (.cons (.int _) .nil))
def cellD (q : Cell) : PyData := .tuple [.int q.1, .int q.2]
theorem listD {K : PySem.W.Frag} {H : Hp} : ∀ {L : List (Addr × Cell)}, PL H L → DpAll K H (refs L) (L.map fun q => cellD q.2)
  | [], _ => .nil
  | q :: L, h => .cons (tupD (h q (List.mem_cons_self ..))) (listD fun x hx => h x (List.mem_cons_of_mem _ hx))
theorem cell_eqv (a b : Cell) : PyData.eqv (cellD a) (cellD b) = decide (a = b) := by
  have e : PyData.eqv (cellD a) (cellD b) = ((a.1 == b.1) && ((a.2 == b.2) && true)) := rfl
  rw [e, Bool.and_true, Bool.eq_iff_iff]
  simp [Prod.ext_iff]
theorem cell_shaped (a : Cell) : PySem.SeqAt.shaped (cellD a) = true := rfl
theorem any_cell (L : List (Addr × Cell)) (a : Cell) : ((L.map fun q => cellD q.2).any fun z => PyData.eqv z (cellD a)) = decide (a ∈ L.map (·.2)) := by
  rw [Bool.eq_iff_iff, List.any_map, List.any_eq_true, decide_eq_true_eq, List.mem_map]
  constructor
  · rintro ⟨q, hq, e⟩
    refine ⟨q, hq, ?_⟩
    have e : PyData.eqv (cellD q.2) (cellD a) = true := e
    rw [cell_eqv] at e
    exact of_decide_eq_true e
  · rintro ⟨q, hq, e⟩
    refine ⟨q, hq, ?_⟩
    show PyData.eqv (cellD q.2) (cellD a) = true
    rw [cell_eqv]
    exact decide_eq_true e
theorem layAll_of : ∀ {ds : List PyData}, (∀ d ∈ ds, d.canLay0 = true ∧ d.depth ≤ 60) → PyData.canLayAll0 ds = true ∧ PyData.depthAll ds ≤ 60
  | [], _ => ⟨by simp [PyData.canLayAll0], by simp [PyData.depthAll]⟩
  | d :: ds, h => by
    obtain ⟨h1, h2⟩ := h d (List.mem_cons_self ..)
    obtain ⟨h3, h4⟩ := layAll_of fun x hx => h x (List.mem_cons_of_mem _ hx)
    refine ⟨by simp [PyData.canLayAll0, h1, h3], ?_⟩
    simp only [PyData.depthAll]
    omega
theorem shaped_lst {ds : List PyData} (h : ∀ d ∈ ds, d.canLay0 = true ∧ d.depth ≤ 60) : PySem.SeqAt.shaped (.list ds) = true := by
  obtain ⟨h1, h2⟩ := layAll_of h
  show (PyData.canLay0 (.list ds) && decide (PyData.depth (.list ds) ≤ 64)) = true
  rw [Bool.and_eq_true]
  refine ⟨by simp only [PyData.canLay0]; exact h1, decide_eq_true ?_⟩
  simp only [PyData.depth]
  omega
theorem shaped_tup {ds : List PyData} (h : ∀ d ∈ ds, d.canLay0 = true ∧ d.depth ≤ 60) : PySem.SeqAt.shaped (.tuple ds) = true := by
  obtain ⟨h1, h2⟩ := layAll_of h
  show (PyData.canLay0 (.tuple ds) && decide (PyData.depth (.tuple ds) ≤ 64)) = true
  rw [Bool.and_eq_true]
  refine ⟨by simp only [PyData.canLay0]; exact h1, decide_eq_true ?_⟩
  simp only [PyData.depth]
  omega
theorem cell_lay (q : Cell) : (cellD q).canLay0 = true ∧ (cellD q).depth ≤ 60 := by
  refine ⟨by simp [cellD, PyData.canLay0, PyData.canLayAll0], ?_⟩
  simp [cellD, PyData.depth, PyData.depthAll]
theorem cells_lay (L : List (Addr × Cell)) : ∀ d ∈ L.map (fun q => cellD q.2), d.canLay0 = true ∧ d.depth ≤ 60 := fun d hd => by
  obtain ⟨q, _, rfl⟩ := List.mem_map.mp hd
  exact cell_lay _
/-! ### the kind of a cell -/
def srt (l : List Int) : List Int := l.mergeSort fun x y => decide (x ≤ y)
theorem srt_of {a b : List Int} (h : a.Perm b) (s : a.Pairwise (· ≤ ·)) : a = srt b := PySem.W.os_sorted_mergeSort h s
theorem srt_perm (l : List Int) : (srt l).Perm l := List.mergeSort_perm _ _
theorem srt_le (l : List Int) : (srt l).Pairwise (· ≤ ·) := by
  have hs := List.pairwise_mergeSort (le := fun x y : Int => decide (x ≤ y)) (by intro x y z hxy hyz; simp only [decide_eq_true_eq] at *; omega) (by intro x y; simp only [Bool.or_eq_true, decide_eq_true_eq]; omega) l
  simpa [srt] using hs
theorem srt_congr {a b : List Int} (h : a.Perm b) : srt a = srt b := srt_of ((srt_perm a).trans h) (srt_le a)
theorem srt_add (l : List Int) (d : Int) : srt (l.map (· + d)) = (srt l).map (· + d) := by
  refine (srt_of ((srt_perm l).map _) ?_).symm
  rw [List.pairwise_map]
  exact (srt_le l).imp fun h => by omega
def nums (n r c : Int) : List Int := [r, c, n - 1 - r, n - 1 - c]
theorem four_of (n r c : Int) : ∃ x y z w, srt (nums n r c) = [x, y, z, w] := by
  have h : (srt (nums n r c)).length = 4 := by rw [(srt_perm _).length_eq]; rfl
  match srt (nums n r c), h with
  | [x, y, z, w], _ => exact ⟨x, y, z, w, rfl⟩
def mn (a m : Int) : Int := if m < a then m else a
def kindL : List Int → Int × Int × Int
  | [x, y, z, _] => (mn x 1, mn (y - x) 2, mn (z - y) 3)
  | _ => (0, 0, 0)
def kindN (n r c : Int) : Int × Int × Int := kindL (srt (nums n r c))
theorem kind_img {n r c : Int} : ∀ q ∈ cells8 n r c, kindN n q.1 q.2 = kindN n r c := by
  intro q hq
  unfold cells8 at hq
  simp only [List.mem_cons, List.not_mem_nil, or_false] at hq
  have e : ∀ x : Int, n - 1 - (n - 1 - x) = x := fun x => by omega
  unfold kindN
  refine congrArg kindL (srt_congr ?_)
  unfold nums
  have sw : ∀ (a b c d : Int), [b, a, d, c].Perm [a, b, c, d] := fun a b c d => (List.Perm.swap _ _ _).trans (((List.Perm.swap _ _ _).cons _).cons _)
  have s1 : ∀ (a b c d : Int), [a, d, c, b].Perm [a, b, c, d] := fun a b c d => by
    refine .cons _ ?_
    exact (List.Perm.swap _ _ _).trans (((List.Perm.swap _ _ _).cons _).trans (List.Perm.swap _ _ _))
  have s2 : ∀ (a b c d : Int), [c, b, a, d].Perm [a, b, c, d] := fun a b c d => (sw _ _ _ _).symm.trans ((s1 _ _ _ _).trans (sw _ _ _ _))
  rcases hq with rfl | rfl | rfl | rfl | rfl | rfl | rfl | rfl <;> simp only [e]
  · exact .refl _
  · exact sw _ _ _ _
  · exact s1 _ _ _ _
  · exact (sw _ _ _ _).trans (s1 _ _ _ _)
  · exact s2 _ _ _ _
  · exact (sw _ _ _ _).trans (s2 _ _ _ _)
  · exact (s1 _ _ _ _).trans (s2 _ _ _ _)
  · exact (sw _ _ _ _).trans ((s1 _ _ _ _).trans (s2 _ _ _ _))
theorem kind_ring {n r c : Int} (h : InN n (r, c)) : kindN (n + 2) (r + 1) (c + 1) = (1, (kindN n r c).2.1, (kindN n r c).2.2) := by
  have e : nums (n + 2) (r + 1) (c + 1) = (nums n r c).map (· + 1) := by
    show [r + 1, c + 1, n + 2 - 1 - (r + 1), n + 2 - 1 - (c + 1)] = [r + 1, c + 1, n - 1 - r + 1, n - 1 - c + 1]
    have e1 : ∀ x : Int, n + 2 - 1 - (x + 1) = n - 1 - x + 1 := fun x => by omega
    rw [e1, e1]
  unfold kindN
  rw [e, srt_add]
  obtain ⟨x, y, z, w, e4⟩ := four_of n r c
  have hx : 0 ≤ x := by
    have m : x ∈ nums n r c := (srt_perm (nums n r c)).mem_iff.mp (by rw [e4]; exact List.mem_cons_self ..)
    obtain ⟨⟨h1, h2⟩, h3, h4⟩ := h
    simp only at h1 h2 h3 h4
    unfold nums at m
    simp only [List.mem_cons, List.not_mem_nil, or_false] at m
    omega
  rw [e4]
  show (mn (x + 1) 1, mn (y + 1 - (x + 1)) 2, mn (z + 1 - (y + 1)) 3) = (1, mn (y - x) 2, mn (z - y) 3)
  have e1 : y + 1 - (x + 1) = y - x := by omega
  have e2 : z + 1 - (y + 1) = z - y := by omega
  have e3 : mn (x + 1) 1 = 1 := by
    unfold mn
    split <;> omega
  rw [e1, e2, e3]
def triD (k : Int × Int × Int) : PyData := .tuple [.int k.1, .int k.2.1, .int k.2.2]
theorem tri_eqv (a b : Int × Int × Int) : PyData.eqv (triD a) (triD b) = decide (a = b) := by
  have e : PyData.eqv (triD a) (triD b) = ((a.1 == b.1) && ((a.2.1 == b.2.1) && ((a.2.2 == b.2.2) && true))) := rfl
  rw [e, Bool.and_true, Bool.eq_iff_iff]
  simp [Prod.ext_iff]
theorem tri_lay (k : Int × Int × Int) : (triD k).canLay0 = true ∧ (triD k).depth ≤ 60 := by
  refine ⟨by simp [triD, PyData.canLay0, PyData.canLayAll0], ?_⟩
  simp [triD, PyData.depth, PyData.depthAll]
theorem tri_shaped (k : Int × Int × Int) : PySem.SeqAt.shaped (triD k) = true := rfl
theorem triDp {K : PySem.W.Frag} {H : Hp} {t : Addr} {k : Int × Int × Int} (h : H t = some (.tup [.int k.1, .int k.2.1, .int k.2.2])) : Dp K H (.ref t) (triD k) := .tup (SqT.of h) (.cons (.int _) (.cons (.int _) (.cons (.int _) .nil)))
/-! ### promises -/
def spCell : Sp := fun vs H Q _ => ∃ (n : Int) (t : Addr) (q : Cell), vs = [.int n, .ref t] ∧ H t = some (.tup [.int q.1, .int q.2]) ∧ InN n q ∧ ∀ H', Same H H' → Q (.bl true) H'
def spCellOk : Sp := fun vs H Q _ => ∃ (n : Int) (t : Addr) (q : Cell), vs = [.int n, .ref t] ∧ H t = some (.tup [.int q.1, .int q.2]) ∧ InN n q ∧ ∀ H', Same H H' → Q .non H'
def Tup3 (H : Hp) (t : Addr) (k : Int × Int × Int) : Prop := H t = some (.tup [.int k.1, .int k.2.1, .int k.2.2])
def spKindOf : Sp := fun vs H Q _ => ∃ (n : Int) (t : Addr) (q : Cell), vs = [.int n, .ref t] ∧ H t = some (.tup [.int q.1, .int q.2]) ∧ InN n q ∧ n ≤ big ∧ ∀ t' H', Same H H' → Tup3 H' t' (kindN n q.1 q.2) → Q (.ref t') H'
def spSort : Sp := fun vs H Q _ => ∃ n r c : Int, vs = [.int n, .int r, .int c] ∧ ∀ t' H', Same H H' → Tup3 H' t' (kindN n r c) → Q (.ref t') H'
def spSpot : Sp := fun vs H Q _ => ∃ (p : Addr) (n : Int), vs = [.ref p, .int n] ∧ PurlAt H p ∧ 1 ≤ n ∧ ∀ (t : Addr) (q : Cell) (H' : Hp), InN n q → H' t = some (.tup [.int q.1, .int q.2]) → t ≠ p → PurlAt H' p → Off p H H' → Q (.ref t) H'
def spCells : Sp := fun vs H Q _ => ∃ n r c : Int, vs = [.int n, .int r, .int c] ∧ ∀ (p : Addr) (L : List (Addr × Cell)) (H' : Hp), Same H H' → H' p = some (.lst (refs L)) → PL H' L → L.map (·.2) = cells8 n r c → Q (.ref p) H'
def spOrbit : Sp := fun vs H Q _ => ∃ n r c : Int, vs = [.int n, .int r, .int c] ∧ InN n (r, c) ∧ ∀ (p : Addr) (L : List (Addr × Cell)) (H' : Hp), Same H H' → H' p = some (.lst (refs L)) → PL H' L → L.length ≤ 8 → (L.map (·.2)).Pairwise lexlt → (∀ q, q ∈ L.map (·.2) ↔ q ∈ cells8 n r c) → Q (.ref p) H'
end Sq
namespace Sq
open PySem L2 PySem.Spec PyProof.Rows
/-! ### repr of plain values, scalars too -/
inductive Sh (K : PySem.W.Frag) (H : Hp) : V → PyData → Prop
  | dat {v : V} {d : PyData} : Dp K H v d → d.hasDict = false → Sh K H v d
  | emp {a : Addr} : H a = some (.dK []) → Sh K H (.ref a) (.dict [])
theorem Dp.same {K : PySem.W.Frag} {H H' : Hp} (s : Same H H') : ∀ {d : PyData} {v : V}, Dp K H v d → Dp K H' v d := fun {d v} h => by
  exact Dp.rec (K := K) (H := H) (motive_1 := fun v d _ => Dp K H' v d) (motive_2 := fun vs ds _ => DpAll K H' vs ds)
    .non (fun b => .bl b) (fun i => .int i) (fun x => .str x) (fun hs _ ih => .lst (hs.ext s) ih) (fun hs _ ih => .tup (hs.ext s) ih) .nil (fun _ _ h1 h2 => .cons h1 h2) h
theorem Sh.same {K : PySem.W.Frag} {H H' : Hp} (s : Same H H') {d : PyData} {v : V} (h : Sh K H v d) : Sh K H' v d := by
  cases h with
  | dat h e => exact .dat (Dp.same s h) e
  | emp h => exact .emp (s _ _ h)
def reprD : PyData → Str
  | .none => "None"
  | .bool b => if b then "True" else "False"
  | .int i => toString i
  | .str x => reprText x
  | d => d.shown
/-- what repr needs -/
def Fits (d : PyData) : Prop := d.showable = true ∧ d.depth ≤ 20 ∧ d.shown.length ≤ sizeLine ∧ (∀ i, d = .int i → i.natAbs.log2 < 1920) ∧ (∀ x, d = .str x → (reprText x).length ≤ sizeLine)
def rRepr2 (K : PySem.W.Frag) : List V → Hp → VK → Prop := fun xs H Q => ∃ (v : V) (d : PyData), xs = [v] ∧ Sh K H v d ∧ Fits d ∧ Q (.str (reprD d)) H
theorem call_repr2 {X : Cx} {k : Nat} (hg : X.A.guards = some []) (hr : Room k X.A) : CallR X (.builtin "repr") (rRepr2 X.K) := by
  intro pins s σ H xs us Q I r h
  obtain ⟨v, d, rfl, hd, ⟨h1, h3, h4, h5, h6⟩, q⟩ := h
  obtain ⟨u, rfl, r1⟩ := vals1 r
  have hu := hr.units
  cases hd with
  | dat hd h2 =>
    obtain ⟨as, rd⟩ := Dp.reads I d _ u hd r1
    cases hd with
    | non =>
      cases r1
      exact PySem.P.repr_of_none ⟨.str _, H, I.tok _, ⟨_, rfl⟩, q⟩
    | bl b =>
      cases r1
      exact PySem.P.repr_of_bool ⟨.str _, H, I.tok _, ⟨_, rfl⟩, q⟩
    | int i =>
      obtain ⟨t, rfl⟩ := r1
      exact PySem.P.repr_of_int (h5 i rfl) ⟨.str _, H, I.tok _, ⟨_, rfl⟩, q⟩
    | str x =>
      obtain ⟨t, rfl⟩ := r1
      exact PySem.P.repr_of_str ⟨.str _, H, I.tok _, ⟨_, rfl⟩, q⟩ (h6 x rfl)
    | lst hs ha =>
      cases r1
      refine repr_of_reads' rd h1 (fun z => by rw [h2] at z; cases z) hg (by omega) (fun _ _ z => z) (fun h' u' tk kp => ?_) h4
      exact ⟨.str _, H, I.kept kp, ⟨u', rfl⟩, q⟩
    | tup hs ha =>
      cases r1
      refine repr_of_reads' rd h1 (fun z => by rw [h2] at z; cases z) hg (by omega) (fun _ _ z => z) (fun h' u' tk kp => ?_) h4
      exact ⟨.str _, H, I.kept kp, ⟨u', rfl⟩, q⟩
  | @emp a ha =>
    cases r1
    have hx : ObjOk X.prog X.w H s.heap a (.dK []) := I.hok a _ ha
    obtain ⟨z, hsm, vs, kv, hD⟩ := dk_of I.hok ha
    cases kv
    obtain ⟨o, es, ep, e1, e2, e3, _, e4, _⟩ := hD
    have e5 : es = #[] := by
      cases es with
      | mk l =>
        cases e4
        rfl
    subst e5
    have rd : Reads s.heap (.ref a) (.dict []) (a :: [] ++ []) := .dict e1 e2.1 e3 .nil .nil
    refine repr_of_reads' rd h1 (fun _ z => ?_) hg (by omega) (fun _ _ z => z) (fun h' u' tk kp => ?_) h4
    · have z1 : sysModules ∈ [a] := z
      rw [List.mem_singleton] at z1
      rw [← z1] at hsm
      cases hsm
    · exact ⟨.str _, H, I.kept kp, ⟨u', rfl⟩, q⟩
/-! ### plain values -/
def Pl (K : PySem.W.Frag) (H : Hp) (v : V) : Prop := (∃ n, v = .int n) ∨ ((∀ n, v ≠ .int n) ∧ ∃ t : String, TyX K H v (.type t) ∧ ∃ b, kitB t "int" = some b ∧ (b = true → kitB t "bool" = some true))
theorem pl_int {K : PySem.W.Frag} {H : Hp} (n : Int) : Pl K H (.int n) := .inl ⟨n, rfl⟩
theorem pl_bl {K : PySem.W.Frag} {H : Hp} (b : Bool) : Pl K H (.bl b) := .inr ⟨(fun n z => V.noConfusion z), "bool", .base (.bl b), true, (by decide +kernel), fun _ => by decide +kernel⟩
theorem pl_str {K : PySem.W.Frag} {H : Hp} (x : Str) : Pl K H (.str x) := .inr ⟨(fun n z => V.noConfusion z), "str", .base (.str x), false, (by decide +kernel), fun z => by cases z⟩
theorem pl_non {K : PySem.W.Frag} {H : Hp} : Pl K H .non := .inr ⟨(fun n z => V.noConfusion z), "NoneType", .base .non, false, (by decide +kernel), fun z => by cases z⟩
theorem pl_lst {K : PySem.W.Frag} {H : Hp} {a : Addr} {xs : List V} (h : H a = some (.lst xs)) : Pl K H (.ref a) := .inr ⟨(fun n z => V.noConfusion z), "list", .base (.lst h), false, (by decide +kernel), fun z => by cases z⟩
theorem pl_tup {K : PySem.W.Frag} {H : Hp} {a : Addr} {xs : List V} (h : H a = some (.tup xs)) : Pl K H (.ref a) := .inr ⟨(fun n z => V.noConfusion z), "tuple", .base (.tup h), false, (by decide +kernel), fun z => by cases z⟩
theorem pl_dK {K : PySem.W.Frag} {H : Hp} {a : Addr} {xs : List (Key × V)} (h : H a = some (.dK xs)) : Pl K H (.ref a) := .inr ⟨(fun n z => V.noConfusion z), "dict", .base (.dK h), false, (by decide +kernel), fun z => by cases z⟩
/-- a value that may stand where a cell or a kind is asked for: its items, if it is a tuple -/
def TupV (K : PySem.W.Frag) (H : Hp) (v : V) : Option (List V) → Prop
  | some xs => ∃ t, v = .ref t ∧ H t = some (.tup xs) ∧ xs.length ≤ 100 ∧ ∀ x ∈ xs, Pl K H x
  | none => ∃ t : String, TyX K H v (.type t) ∧ kitB t "tuple" = some false
theorem tv_int {K : PySem.W.Frag} {H : Hp} (n : Int) : TupV K H (.int n) none := ⟨"int", .base (.int n), by decide +kernel⟩
theorem tv_bl {K : PySem.W.Frag} {H : Hp} (b : Bool) : TupV K H (.bl b) none := ⟨"bool", .base (.bl b), by decide +kernel⟩
theorem tv_str {K : PySem.W.Frag} {H : Hp} (x : Str) : TupV K H (.str x) none := ⟨"str", .base (.str x), by decide +kernel⟩
theorem tv_non {K : PySem.W.Frag} {H : Hp} : TupV K H .non none := ⟨"NoneType", .base .non, by decide +kernel⟩
theorem tv_lst {K : PySem.W.Frag} {H : Hp} {a : Addr} {xs : List V} (h : H a = some (.lst xs)) : TupV K H (.ref a) none := ⟨"list", .base (.lst h), by decide +kernel⟩
theorem tv_dK {K : PySem.W.Frag} {H : Hp} {a : Addr} {xs : List (Key × V)} (h : H a = some (.dK xs)) : TupV K H (.ref a) none := ⟨"dict", .base (.dK h), by decide +kernel⟩
def isI : V → Bool
  | .int _ => true
  | _ => false
def inI (v : V) (a b : Int) : Bool := match v with
  | .int n => decide (a ≤ n) && decide (n ≤ b)
  | _ => false
theorem isI_no {v : V} (h : ∀ n, v ≠ .int n) : isI v = false := by
  cases v with
  | int n => exact absurd rfl (h n)
  | _ => rfl
theorem inI_no {v : V} {a b : Int} (h : ∀ n, v ≠ .int n) : inI v a b = false := by
  cases v with
  | int n => exact absurd rfl (h n)
  | _ => rfl
def cellB (n : Int) : Option (List V) → Bool
  | some [x, y] => inI x 0 (n - 1) && inI y 0 (n - 1)
  | _ => false
def kindB : Option (List V) → Bool
  | some [x, y, z] => inI x 0 1 && (inI y 0 2 && inI z 0 3)
  | _ => false
/-! ### promises -/
/-- an error of the class C flies, which keeps v -/
def Fl (E : XK) (C : Addr) (v : V) (H : Hp) : Prop := ∀ d H', Same H H' → H' d = some (.xd [("given", v)]) → E (.ref C) (some d) H'
def spWholeA (K : PySem.W.Frag) : Sp := fun vs H Q _ => ∃ v, vs = [v] ∧ Pl K H v ∧ Q (.bl (isI v)) H
def spWithinA (K : PySem.W.Frag) : Sp := fun vs H Q _ => ∃ (v : V) (a b : Int), vs = [v, .int a, .int b] ∧ Pl K H v ∧ Q (.bl (inI v a b)) H
def spCellA (K : PySem.W.Frag) : Sp := fun vs H Q _ => ∃ (n : Int) (v : V) (c : Option (List V)), vs = [.int n, v] ∧ TupV K H v c ∧ ∀ H', Same H H' → Q (.bl (cellB n c)) H'
def spKindA (K : PySem.W.Frag) : Sp := fun vs H Q _ => ∃ (v : V) (c : Option (List V)), vs = [v] ∧ TupV K H v c ∧ Q (.bl (kindB c)) H
def spSizeX (K : PySem.W.Frag) (C : Addr) : Sp := fun vs H Q E => ∃ v, vs = [v] ∧ Pl K H v ∧ (inI v 1 big = true → Q .non H) ∧ (inI v 1 big = false → Fl E C v H)
def spCellX (K : PySem.W.Frag) (C : Addr) : Sp := fun vs H Q E => ∃ (n : Int) (v : V) (c : Option (List V)), vs = [.int n, v] ∧ TupV K H v c ∧ (cellB n c = true → ∀ H', Same H H' → Q .non H') ∧ (cellB n c = false → Fl E C v H)
/-- a function of a size and a cell, or a size and a kind: C2 the error of the second one, ok if it is right -/
def spAsk (K : PySem.W.Frag) (C1 C2 : Addr) (ok : Int → Option (List V) → Bool) : Sp := fun vs H Q E => ∃ (v w : V) (c : Option (List V)), vs = [v, w] ∧ Pl K H v ∧ TupV K H w c ∧ (inI v 1 big = false → Fl E C1 v H) ∧
  ∀ n, v = .int n → 1 ≤ n → n ≤ big → (ok n c = false → Fl E C2 w H) ∧ (ok n c = true → ∀ x H', Same H H' → Q x H')
def spKindsX (K : PySem.W.Frag) (C1 : Addr) : Sp := fun vs H Q E => ∃ v, vs = [v] ∧ Pl K H v ∧ (inI v 1 big = false → Fl E C1 v H) ∧ (inI v 1 big = true → ∀ x H', Same H H' → Q x H')
theorem inI_of {v : V} {a b : Int} (h : inI v a b = true) : ∃ n, v = .int n ∧ a ≤ n ∧ n ≤ b := by
  cases v with
  | int n =>
    have h : (decide (a ≤ n) && decide (n ≤ b)) = true := h
    rw [Bool.and_eq_true, decide_eq_true_eq, decide_eq_true_eq] at h
    exact ⟨n, rfl, h⟩
  | _ => cases h
def spBad (K : PySem.W.Frag) (C1 C2 : Addr) (ok : Int → Option (List V) → Bool) : Sp := fun vs H Q E => ∃ (v w : V) (c : Option (List V)), vs = [v, w] ∧ Pl K H v ∧ TupV K H w c ∧
  ((inI v 1 big = false ∧ Fl E C1 v H) ∨ ∃ n, v = .int n ∧ 1 ≤ n ∧ n ≤ big ∧ ok n c = false ∧ Fl E C2 w H)
def spBadN (K : PySem.W.Frag) (C1 : Addr) : Sp := fun vs H Q E => ∃ v, vs = [v] ∧ Pl K H v ∧ inI v 1 big = false ∧ Fl E C1 v H
theorem FnOk.use {P : Program} {w : World} {K : PySem.W.Frag} {mg : Str → Option Value} {base : Heap} {CX : CXT} {k : Nat} {f : Addr} {fd : FuncData} {ps : List Str} {sp sp' : Sp} (F : FnOk P w K mg base CX k f fd ps sp) (h : ∀ vs H Q E, sp' vs H Q E → sp vs H Q E) : FnOk P w K mg base CX k f fd ps sp' := by
  refine ⟨fun vs H Q E q => F.len vs H Q E (h vs H Q E q), ?_⟩
  intro a1 a2 a3 a4 a5 a6 a7 a8 a9 b1 b2 b3 b4 q
  exact F.run a1 a2 a3 a4 a5 a6 a7 a8 a9 b1 b2 b3 b4 (h _ _ _ _ q)
theorem TyX.same {K : PySem.W.Frag} {H H' : Hp} {v : V} {t : Value} (e : Same H H') (h : TyX K H v t) : TyX K H' v t := by
  cases h with
  | base b =>
    cases b with
    | non => exact .base .non
    | bl x => exact .base (.bl x)
    | int i => exact .base (.int i)
    | str x => exact .base (.str x)
    | flt x => exact .base (.flt x)
    | lst h => exact .base (.lst (e _ _ h))
    | frz h => exact .base (.frz (e _ _ h))
    | tup h => exact .base (.tup (e _ _ h))
    | dK h => exact .base (.dK (e _ _ h))
    | dT h => exact .base (.dT (e _ _ h))
    | ins h cl ha hn htk hm => exact .base (.ins (e _ _ h) cl ha hn htk hm)
  | byt b => exact .byt b
  | set h => exact .set (e _ _ h)
  | kList h c => exact .kList h c
  | kTuple h c => exact .kTuple h c
  | kDict h c => exact .kDict h c
  | fTuple h => exact .fTuple (e _ _ h)
  | fDict h => exact .fDict (e _ _ h)
theorem Pl.same {K : PySem.W.Frag} {H H' : Hp} {v : V} (e : Same H H') (h : Pl K H v) : Pl K H' v := by
  rcases h with h | ⟨h, t, ty, k⟩
  · exact .inl h
  · exact .inr ⟨h, t, TyX.same e ty, k⟩
theorem TupV.same {K : PySem.W.Frag} {H H' : Hp} {v : V} {c : Option (List V)} (e : Same H H') (h : TupV K H v c) : TupV K H' v c := by
  cases c with
  | none =>
    obtain ⟨t, ty, k⟩ := h
    exact ⟨t, TyX.same e ty, k⟩
  | some xs =>
    obtain ⟨t, e1, e2, e3, e4⟩ := h
    exact ⟨t, e1, e _ _ e2, e3, fun x hx => (e4 x hx).same e⟩
theorem Fl.same {E : XK} {C : Addr} {v : V} {H H' : Hp} (h : Fl E C v H) (s : Same H H') : Fl E C v H' := fun d H2 s2 e => h d H2 (s.trans s2) e
/-! ### two promises of one function -/
theorem FnOk.toCX {P : Program} {w : World} {K : PySem.W.Frag} {mg : Str → Option Value} {base : Heap} {k : Nat} {f : Addr} {fd : FuncData} {ps : List Str} {sp : Sp} (F : FnOk P w K mg base CX0 k f fd ps sp) : FnOk P w K mg base (L2.CX P w) k f fd ps sp := by
  refine ⟨F.len, ?_⟩
  intros
  refine codeAny_mono (F.run _ _ _ _ _ _ _ _ _ ‹_› ‹_› ‹_› ‹_› ‹_›) fun r s' h => ?_
  match r, h with
  | .ok (.ret _), h => exact h
  | .ok .next, h => exact h
  | .ok .brk, h => exact h
  | .ok .cont, h => exact h
  | .error _, h => exact False.elim h
theorem FnOk.either {P : Program} {w : World} {K : PySem.W.Frag} {mg : Str → Option Value} {base : Heap} {CX : CXT} {k : Nat} {f : Addr} {fd : FuncData} {ps : List Str} {sp sp' : Sp} (F : FnOk P w K mg base CX k f fd ps sp) (G : FnOk P w K mg base CX k f fd ps sp') :
    FnOk P w K mg base CX k f fd ps (fun vs H Q E => sp vs H Q E ∨ sp' vs H Q E) := by
  refine ⟨fun vs H Q E h => h.elim (F.len vs H Q E) (G.len vs H Q E), ?_⟩
  intro a1 a2 a3 a4 a5 a6 a7 a8 a9 b1 b2 b3 b4 h
  rcases h with h | h
  · exact F.run a1 a2 a3 a4 a5 a6 a7 a8 a9 b1 b2 b3 b4 h
  · exact G.run a1 a2 a3 a4 a5 a6 a7 a8 a9 b1 b2 b3 b4 h
theorem cell_of {K : PySem.W.Frag} {H : Hp} {w : V} {c : Option (List V)} {n : Int} (h : TupV K H w c) (b : cellB n c = true) : ∃ (t : Addr) (q : Cell), w = .ref t ∧ H t = some (.tup [.int q.1, .int q.2]) ∧ InN n q := by
  match c, h, b with
  | some [x, y], h, b =>
    obtain ⟨t, e1, e2, _⟩ := h
    have b : (inI x 0 (n - 1) && inI y 0 (n - 1)) = true := b
    rw [Bool.and_eq_true] at b
    obtain ⟨i, rfl, i0, i1⟩ := inI_of b.1
    obtain ⟨j, rfl, j0, j1⟩ := inI_of b.2
    exact ⟨t, (i, j), e1, e2, ⟨i0, by show i < n; omega⟩, j0, by show j < n; omega⟩
theorem kind_ofB {K : PySem.W.Frag} {H : Hp} {w : V} {c : Option (List V)} (h : TupV K H w c) (b : kindB c = true) : ∃ (t : Addr) (x y z : Int), w = .ref t ∧ KindAt H t x y z ∧ KindR x y z := by
  match c, h, b with
  | some [x, y, z], h, b =>
    obtain ⟨t, e1, e2, _⟩ := h
    have b : (inI x 0 1 && (inI y 0 2 && inI z 0 3)) = true := b
    rw [Bool.and_eq_true, Bool.and_eq_true] at b
    obtain ⟨i, rfl, i0, i1⟩ := inI_of b.1
    obtain ⟨j, rfl, j0, j1⟩ := inI_of b.2.1
    obtain ⟨k, rfl, k0, k1⟩ := inI_of b.2.2
    exact ⟨t, i, j, k, e1, e2, ⟨i0, i1⟩, ⟨j0, j1⟩, k0, k1⟩
theorem cellB_len {n : Int} : ∀ {xs : List V}, xs.length ≠ 2 → cellB n (some xs) = false
  | [], _ => rfl
  | [_], _ => rfl
  | [_, _], h => absurd rfl h
  | _ :: _ :: _ :: _, _ => rfl
theorem kindB_len : ∀ {xs : List V}, xs.length ≠ 3 → kindB (some xs) = false
  | [], _ => rfl
  | [_], _ => rfl
  | [_, _], _ => rfl
  | [_, _, _], h => absurd rfl h
  | _ :: _ :: _ :: _ :: _, _ => rfl
end Sq
namespace Sq.N3
open PySem L2 PySem.Spec PyProof.Rows TL L2H
abbrev sMade : Stmt := top 68
section
variable {X : Cx} {CX : CXT} {k : Nat} {f C : Addr} {sp : Sp} {E : XK} {x : Str} {p pos : Pos}
theorem pe_makeR0 (M : Mk X.K C f) (F : FnR X.prog X.w X.K X.mg X.base CX k f sp) (hr : Room (k + 1) X.A) (hg : Gl X x) (hm : X.mg x = some (.ref C)) (hx : Passes CX X E) (hdb : (x == ("__debug__" : Str)) = false := by decide) :
    PE X (.Call (.Name x p) [] [] pos) (StX.tMakeR C sp E (fun σ H Q => Q [] H)) := by
  refine ⟨fun pins s σ H Q I h => ?_⟩
  refine wpAny_Call_Name_kw (ld_glob I hg hm ?_ hdb)
  exact PySem.W.callWith_K0 I.kIn M.kp (StX.run_makeR M F hr hx I .nil h)
end
/-- an error of the class C flies, whose field x is v -/
def FlX (E : XK) (C : Addr) (x : Str) (v : V) (H : Hp) : Prop := ∀ d H', Same H H' → H' d = some (.xd [(x, v)]) → E (.ref C) (some d) H'
theorem FlX.same {E : XK} {C : Addr} {x : Str} {v : V} {H H' : Hp} (h : FlX E C x v H) (s : Same H H') : FlX E C x v H' := fun d H2 s2 e => h d H2 (s.trans s2) e
/-- what isinstance says of a value, the class CN asked -/
def IsB (K : PySem.W.Frag) (CN : Addr) (H : Hp) (v : V) (b : Bool) : Prop := ∃ t, TyX K H v t ∧ PySem.W.kitOne K t (.ref CN) = some b
theorem IsB.same {K : PySem.W.Frag} {CN : Addr} {H H' : Hp} {v : V} {b : Bool} (s : Same H H') (h : IsB K CN H v b) : IsB K CN H' v b := by
  obtain ⟨t, a, c⟩ := h
  exact ⟨t, tyX_ext s a, c⟩
def spPInitX (K : PySem.W.Frag) (CP CN CE : Addr) : Sp := fun vs H Q E => ∃ (x dx tp : Addr) (xs : List V) (bs : List Bool), vs = [.ref x, .ref tp] ∧ H x = some (.ins CP dx []) ∧ H tp = some (.tup xs) ∧ xs.length ≤ 8 ∧ bs.length = xs.length ∧
  (∀ (i : Nat) v b, xs[i]? = some v → bs[i]? = some b → IsB K CN H v b) ∧ (∀ k, fw 0 4 bs = some k → FlX E CE "index" (.int (k : Nat)) H) ∧
  (fw 0 4 bs = none → ∀ H' : Hp, H' x = some (.ins CP dx (putF "_nests" (.ref tp) [])) → Off x H H' → Q .non H')
def spPMadeX (K : PySem.W.Frag) (CP CN CE : Addr) : Sp := fun vs H Q E => ∃ ws rest, vs = ws ++ rest ∧ ws.length = (["self"] : List Str).length ∧ rest.length ≤ sizeLine ∧ ∀ p, H p = none → spPInitX K CP CN CE (ws ++ [V.ref p]) (upd H p (.tup rest)) Q E
theorem init_at {H : Hp} {C x dx dq : Addr} {xs : List V} (nx : H x = none) (ndx : H dx = none) (ne : dx ≠ x) (nq : (upd (upd H dx (.own x)) x (.ins C dx [])) dq = none) : Same H (upd (upd (upd H dx (.own x)) x (.ins C dx [])) dq (.tup xs)) ∧ (upd (upd (upd H dx (.own x)) x (.ins C dx [])) dq (.tup xs)) x = some (.ins C dx []) ∧ dq ≠ x := by
  have n : dq ≠ x := fun e => by rw [e, upd_same] at nq; cases nq
  refine ⟨((same_new ndx).trans (same_new (by rw [upd_ne (Ne.symm ne)]; exact nx))).trans (same_new nq), by rw [upd_ne (Ne.symm n)]; exact upd_same, n⟩
section
variable {P : Program} {w : World} {K : PySem.W.Frag} {mg : Str → Option Value} {base : Heap} {C CP CE fp : Addr}
theorem pinitX_body (N : Pc K CP) (mN : mg "Nest" = some (.ref C)) (Ck : Ck K mg) (R : Rd1 P w K mg base) (EN : ErrC P w K mg base "InvalidNests" "index" CE) (KF : Kn P w K mg base "first_wrong" 1 ["rights", "most"] (spFirst K))
    {f : Addr} {cdv : Value} {A : Around} {outer : List Env} {s : Shared} {H : Hp} {vs : List V} {Q : VK} {E : XK} (hr : Room 2 (A.deeper (PyProof.Rows.envOfC "Program.__init__" (defScope sPInit) s.heap.objs.size f cdv))) (h : spPInitX K CP C CE vs H Q E) :
    ∃ t, PSs (cxOf (L2N.CX P w) P w K mg base ["self", "nests", "index", "nest"] "Program.__init__" (defScope sPInit) f cdv A outer s H E) (defBody sPInit) t ∧
      t { nx := fun _ H' => Q .non H', rt := Q } (L2.start ["self", "nests", "index", "nest"] vs) H := by
  obtain ⟨fF, dF, mF, kF, bF, GF⟩ := KF
  obtain ⟨u1, mM⟩ := R.mM
  obtain ⟨x, dx, tp, xs, bs, rfl, hx, ht, hn, hbl, his, qe, q⟩ := h
  have hr1 := hr.mono (show 1 ≤ 2 by decide)
  refine ⟨_, pss_cons (ps_set (i := 2) scPInit.nd rfl (.inl rfl) (pe_call GF hr1 (by rfl) mF kF bF .nil pass0 (pa_cons (pe_lc (own := [("nest", 3)]) (g := gName 3) (by rfl) scPInit.nd (pi_tup (pv 1))
      (blkOk_by (own := [("nest", 3)]) (N := ["self", "nests", "index", "nest"]) (sc := defScope sPInit) (by decide +kernel)) (fun _ _ _ _ _ => pg_name (i := 3) scPInit.nd rfl (Or.inl rfl)) (fun _ _ _ _ _ => pts_nil)
      (fun _ _ _ _ _ => (show PE _ _ (tCB (rIsi K) (tCons (tVar 3) (tCons (tC (V.ref C)) tNil))) from pe_callB call_isi (by rfl) Ck.isinstance (by decide +kernel) (pa_cons (pv 3) (pa_cons (pe_glob (v := .ref C) (by rfl) mN rfl) pa_nil))))) (pa_cons (pe_glob (v := .int 4) (by rfl) mM ⟨_, rfl⟩) pa_nil))))
      (pss_cons (ps_if (pt_cmpR op_notN (pv 2) pe_non (nomark _)) (pss_one (ps_errN EN rfl (L2N.takes_of rfl rfl rfl rfl) hr (by decide) (by rfl) (pv 2))) pss_nil)
      (pss_one (ps_fld (pv 0) (pv 1) rfl))), ?_⟩
  have big : 100 ≤ sizeLine := by decide
  refine ⟨_, rfl, tp, rfl, ⟨_, SqT.of ht⟩, fun D hD => ?_⟩
  refine lc_tup (K := K) (a := tp) (xs := xs) (fun i H' => Same H H' ∧ H' D = some (.lst ((bs.take i).map V.bl))) ⟨same_new hD, upd_same⟩ (fun i H' _ h => (SqT.of ht).ext h.1) (fun i y H' hi h => ?_) (fun H' h => ?_)
  · obtain ⟨sm, hL⟩ := h
    refine ⟨rfl, ?_⟩
    have hil : i < bs.length := by rw [hbl]; exact (List.getElem?_eq_some_iff.mp hi).1
    have hbi : bs[i]? = some bs[i] := List.getElem?_eq_getElem hil
    obtain ⟨t, ty, kt⟩ := his i y _ hi hbi
    refine ⟨_, rfl, _, _, t, .ref C, bs[i], rfl, .own C, tyX_ext sm ty, kt, _, hL, ?_, ?_, ?_⟩
    · rw [List.length_map, List.length_take]
      omega
    · intro c o hc
      rw [upd_ne (fun e => by rw [e, hD] at hc; cases hc)]
      exact sm c o hc
    · rw [upd_same, List.take_add_one, hbi, List.map_append]
      rfl
  · obtain ⟨sm, hL⟩ := h
    rw [← hbl, List.take_length] at hL
    refine ⟨D, 4, bs, rfl, SqL.of hL, fun H2 s2 => ?_⟩
    have sm2 := sm.trans s2
    cases hw : fw 0 4 bs with
    | some k =>
      refine ⟨_, rfl, rfl, _, rfl, ?_⟩
      exact iteT ⟨_, rfl, err_go fun d nd => (qe k hw).same sm2 d _ (same_new nd) upd_same⟩
    | none =>
      refine ⟨_, rfl, rfl, _, rfl, ?_⟩
      refine iteF ?_
      have hx2 := sm2 _ _ hx
      refine ⟨_, rfl, _, rfl, x, CP, dx, _, rfl, hx2, N.cl, N.nN, (by show 0 < 1000; decide), ?_⟩
      refine q hw _ upd_same fun b u hb e => ?_
      rw [upd_ne hb]
      exact sm2 _ _ e
theorem ok_pinitXR {f : Addr} {fd : FuncData} (F : Fun K "__init__" "Program.__init__" sPInit f fd) (N : Pc K CP) (mN : mg "Nest" = some (.ref C)) (Ck : Ck K mg) (R : Rd1 P w K mg base) (EN : ErrC P w K mg base "InvalidNests" "index" CE) (KF : Kn P w K mg base "first_wrong" 1 ["rights", "most"] (spFirst K)) :
    FnR P w K mg base (L2N.CX P w) 3 f (spPMadeX K CP C CE) := by
  obtain ⟨oc, od, kV, doc, pm, an, cdv, ct, osl, rfl, lk, hcd⟩ := F.ex
  refine StX.fn_star (ps := ["self"]) (pv := "nests") (sp := spPInitX K CP C CE) lk hcd scPInit cxUpN (fun us rest hl => ?_) fun A outer s H vs Q E hr h => pinitX_body N mN Ck R EN KF hr h
  match us, rest, hl with
  | [a], [], _ => rfl
  | [a], r :: rs, _ => rfl
/-- the program of up to five values, a list of them or a tuple -/
def spMadePX (K : PySem.W.Frag) (CP CN CE : Addr) : Sp := fun vs H Q E => ∃ (l : Addr) (xs : List V), vs = [.ref l] ∧ (SqL K H l xs ∨ SqT K H l xs) ∧ xs.length ≤ 5 ∧ ∀ (x dx tp : Addr) (H4 : Hp), Same H H4 → H x = none → H4 x = some (.ins CP dx []) → H4 tp = some (.tup xs) → tp ≠ x →
  spPInitX K CP CN CE [.ref x, .ref tp] H4 (fun v H3 => v = .non ∧ Q (.ref x) H3) E
theorem scMade : FnScope ["_law_nests"] ["_law_nests"] (defScope sMade) := ⟨rfl, rfl, rfl, by decide +kernel, rfl, by decide +kernel, by decide +kernel⟩
theorem ok_madeX {f : Addr} {fd : FuncData} (F : Fun K "_law_made" "_law_made" sMade f fd) (T : Bt mg) (mP : mg "Program" = some (.ref CP)) (mkp : Mk K CP fp) (GI : FnR P w K mg base (L2N.CX P w) 3 fp (spPMadeX K CP C CE)) : FnOk P w K mg base (L2N.CX P w) 5 f fd ["_law_nests"] (spMadePX K CP C CE) := by
  refine Fun.okN F scMade (fun vs H Q E h => ?_) (fun cdv A outer s H vs Q E hr h => ?_)
  · obtain ⟨l, xs, rfl, _⟩ := h
    rfl
  · obtain ⟨l, xs, rfl, hl, h5, q⟩ := h
    refine ⟨_, (pss_cons (ps_if (pt_cmpR op_eq (pe_callB call_len_seq (by rfl) T.len PySem.boot_len (pa_cons (pv 0) pa_nil)) pe_int (nomark _)) (pss_one (ps_ret (pe_makeR0 mkp GI hr (by rfl) mP (L2N.passes_call (L2N.takes_of rfl rfl rfl rfl) (fun _ _ _ _ h => h))))) pss_nil)
      (pss_cons (ps_if (pt_cmpR op_eq (pe_callB call_len_seq (by rfl) T.len PySem.boot_len (pa_cons (pv 0) pa_nil)) pe_int (nomark _)) (pss_one (ps_ret (StX.pe_makeR mkp GI hr (by rfl) mP (L2N.passes_call (L2N.takes_of rfl rfl rfl rfl) (fun _ _ _ _ h => h)) (pa_cons (pe_ix (ix_list.or ix_tup) (pv 0) pe_int (fun _ _ => rfl)) pa_nil)))) pss_nil)
      (pss_cons (ps_if (pt_cmpR op_eq (pe_callB call_len_seq (by rfl) T.len PySem.boot_len (pa_cons (pv 0) pa_nil)) pe_int (nomark _)) (pss_one (ps_ret (StX.pe_makeR mkp GI hr (by rfl) mP (L2N.passes_call (L2N.takes_of rfl rfl rfl rfl) (fun _ _ _ _ h => h)) (pa_cons (pe_ix (ix_list.or ix_tup) (pv 0) pe_int (fun _ _ => rfl)) (pa_cons (pe_ix (ix_list.or ix_tup) (pv 0) pe_int (fun _ _ => rfl)) pa_nil))))) pss_nil)
      (pss_cons (ps_if (pt_cmpR op_eq (pe_callB call_len_seq (by rfl) T.len PySem.boot_len (pa_cons (pv 0) pa_nil)) pe_int (nomark _)) (pss_one (ps_ret (StX.pe_makeR mkp GI hr (by rfl) mP (L2N.passes_call (L2N.takes_of rfl rfl rfl rfl) (fun _ _ _ _ h => h)) (pa_cons (pe_ix (ix_list.or ix_tup) (pv 0) pe_int (fun _ _ => rfl)) (pa_cons (pe_ix (ix_list.or ix_tup) (pv 0) pe_int (fun _ _ => rfl)) (pa_cons (pe_ix (ix_list.or ix_tup) (pv 0) pe_int (fun _ _ => rfl)) pa_nil)))))) pss_nil)
      (pss_cons (ps_if (pt_cmpR op_eq (pe_callB call_len_seq (by rfl) T.len PySem.boot_len (pa_cons (pv 0) pa_nil)) pe_int (nomark _)) (pss_one (ps_ret (StX.pe_makeR mkp GI hr (by rfl) mP (L2N.passes_call (L2N.takes_of rfl rfl rfl rfl) (fun _ _ _ _ h => h)) (pa_cons (pe_ix (ix_list.or ix_tup) (pv 0) pe_int (fun _ _ => rfl)) (pa_cons (pe_ix (ix_list.or ix_tup) (pv 0) pe_int (fun _ _ => rfl)) (pa_cons (pe_ix (ix_list.or ix_tup) (pv 0) pe_int (fun _ _ => rfl)) (pa_cons (pe_ix (ix_list.or ix_tup) (pv 0) pe_int (fun _ _ => rfl)) pa_nil))))))) pss_nil)
      (pss_one (ps_ret (StX.pe_makeR mkp GI hr (by rfl) mP (L2N.passes_call (L2N.takes_of rfl rfl rfl rfl) (fun _ _ _ _ h => h)) (pa_cons (pe_ix (ix_list.or ix_tup) (pv 0) pe_int (fun _ _ => rfl)) (pa_cons (pe_ix (ix_list.or ix_tup) (pv 0) pe_int (fun _ _ => rfl)) (pa_cons (pe_ix (ix_list.or ix_tup) (pv 0) pe_int (fun _ _ => rfl)) (pa_cons (pe_ix (ix_list.or ix_tup) (pv 0) pe_int (fun _ _ => rfl)) (pa_cons (pe_ix (ix_list.or ix_tup) (pv 0) pe_int (fun _ _ => rfl)) pa_nil))))))))))))), ?_⟩
    have big : 100 ≤ sizeLine := by decide
    match xs, hl, h5, q with
    | [], hl, h5, q =>
      refine ⟨_, rfl, l, _, rfl, hl, rfl, _, rfl, ?_⟩
      refine iteT ?_
      refine fun x dx nx ndx ne => ?_
      refine ⟨[.ref x], [], rfl, rfl, (by show 0 ≤ sizeLine; omega), fun dq nq => ?_⟩
      obtain ⟨s4, hx, nqx⟩ := init_at (C := CP) (xs := []) nx ndx ne nq
      exact q x dx dq _ s4 nx hx upd_same nqx
    | [a0], hl, h5, q =>
      refine ⟨_, rfl, l, _, rfl, hl, rfl, _, rfl, ?_⟩
      refine iteF ?_
      refine ⟨_, rfl, l, _, rfl, hl, rfl, _, rfl, ?_⟩
      refine iteT ?_
      refine ⟨_, rfl, ix_or hl rfl ?_⟩
      refine fun x dx nx ndx ne => ?_
      refine ⟨[.ref x], [a0], rfl, rfl, (by show 1 ≤ sizeLine; omega), fun dq nq => ?_⟩
      obtain ⟨s4, hx, nqx⟩ := init_at (C := CP) (xs := [a0]) nx ndx ne nq
      exact q x dx dq _ s4 nx hx upd_same nqx
    | [a0, a1], hl, h5, q =>
      refine ⟨_, rfl, l, _, rfl, hl, rfl, _, rfl, ?_⟩
      refine iteF ?_
      refine ⟨_, rfl, l, _, rfl, hl, rfl, _, rfl, ?_⟩
      refine iteF ?_
      refine ⟨_, rfl, l, _, rfl, hl, rfl, _, rfl, ?_⟩
      refine iteT ?_
      refine ⟨_, rfl, ix_or hl rfl ?_⟩
      refine ⟨_, rfl, ix_or hl rfl ?_⟩
      refine fun x dx nx ndx ne => ?_
      refine ⟨[.ref x], [a0, a1], rfl, rfl, (by show 2 ≤ sizeLine; omega), fun dq nq => ?_⟩
      obtain ⟨s4, hx, nqx⟩ := init_at (C := CP) (xs := [a0, a1]) nx ndx ne nq
      exact q x dx dq _ s4 nx hx upd_same nqx
    | [a0, a1, a2], hl, h5, q =>
      refine ⟨_, rfl, l, _, rfl, hl, rfl, _, rfl, ?_⟩
      refine iteF ?_
      refine ⟨_, rfl, l, _, rfl, hl, rfl, _, rfl, ?_⟩
      refine iteF ?_
      refine ⟨_, rfl, l, _, rfl, hl, rfl, _, rfl, ?_⟩
      refine iteF ?_
      refine ⟨_, rfl, l, _, rfl, hl, rfl, _, rfl, ?_⟩
      refine iteT ?_
      refine ⟨_, rfl, ix_or hl rfl ?_⟩
      refine ⟨_, rfl, ix_or hl rfl ?_⟩
      refine ⟨_, rfl, ix_or hl rfl ?_⟩
      refine fun x dx nx ndx ne => ?_
      refine ⟨[.ref x], [a0, a1, a2], rfl, rfl, (by show 3 ≤ sizeLine; omega), fun dq nq => ?_⟩
      obtain ⟨s4, hx, nqx⟩ := init_at (C := CP) (xs := [a0, a1, a2]) nx ndx ne nq
      exact q x dx dq _ s4 nx hx upd_same nqx
    | [a0, a1, a2, a3], hl, h5, q =>
      refine ⟨_, rfl, l, _, rfl, hl, rfl, _, rfl, ?_⟩
      refine iteF ?_
      refine ⟨_, rfl, l, _, rfl, hl, rfl, _, rfl, ?_⟩
      refine iteF ?_
      refine ⟨_, rfl, l, _, rfl, hl, rfl, _, rfl, ?_⟩
      refine iteF ?_
      refine ⟨_, rfl, l, _, rfl, hl, rfl, _, rfl, ?_⟩
      refine iteF ?_
      refine ⟨_, rfl, l, _, rfl, hl, rfl, _, rfl, ?_⟩
      refine iteT ?_
      refine ⟨_, rfl, ix_or hl rfl ?_⟩
      refine ⟨_, rfl, ix_or hl rfl ?_⟩
      refine ⟨_, rfl, ix_or hl rfl ?_⟩
      refine ⟨_, rfl, ix_or hl rfl ?_⟩
      refine fun x dx nx ndx ne => ?_
      refine ⟨[.ref x], [a0, a1, a2, a3], rfl, rfl, (by show 4 ≤ sizeLine; omega), fun dq nq => ?_⟩
      obtain ⟨s4, hx, nqx⟩ := init_at (C := CP) (xs := [a0, a1, a2, a3]) nx ndx ne nq
      exact q x dx dq _ s4 nx hx upd_same nqx
    | [a0, a1, a2, a3, a4], hl, h5, q =>
      refine ⟨_, rfl, l, _, rfl, hl, rfl, _, rfl, ?_⟩
      refine iteF ?_
      refine ⟨_, rfl, l, _, rfl, hl, rfl, _, rfl, ?_⟩
      refine iteF ?_
      refine ⟨_, rfl, l, _, rfl, hl, rfl, _, rfl, ?_⟩
      refine iteF ?_
      refine ⟨_, rfl, l, _, rfl, hl, rfl, _, rfl, ?_⟩
      refine iteF ?_
      refine ⟨_, rfl, l, _, rfl, hl, rfl, _, rfl, ?_⟩
      refine iteF ?_
      refine ⟨_, rfl, ix_or hl rfl ?_⟩
      refine ⟨_, rfl, ix_or hl rfl ?_⟩
      refine ⟨_, rfl, ix_or hl rfl ?_⟩
      refine ⟨_, rfl, ix_or hl rfl ?_⟩
      refine ⟨_, rfl, ix_or hl rfl ?_⟩
      refine fun x dx nx ndx ne => ?_
      refine ⟨[.ref x], [a0, a1, a2, a3, a4], rfl, rfl, (by show 5 ≤ sizeLine; omega), fun dq nq => ?_⟩
      obtain ⟨s4, hx, nqx⟩ := init_at (C := CP) (xs := [a0, a1, a2, a3, a4]) nx ndx ne nq
      exact q x dx dq _ s4 nx hx upd_same nqx
    | _ :: _ :: _ :: _ :: _ :: _ :: _, hl, h5, q => exact absurd h5 (by simp only [List.length_cons]; omega)
def NestsAt (C : Addr) (H : Hp) (xs : List Addr) (ns : List NestD) : Prop := xs.length = ns.length ∧ ∀ (i : Nat) (x : Addr) (n : NestD), xs[i]? = some x → ns[i]? = some n → NestIs C H x n
theorem NestsAt.ins {C : Addr} {H : Hp} {xs : List Addr} {ns : List NestD} (h : NestsAt C H xs ns) {x : Addr} (hx : x ∈ xs) : ∃ dy fs, H x = some (.ins C dy fs) := by
  obtain ⟨j, hj⟩ := List.mem_iff_getElem?.mp hx
  have hjl : j < ns.length := by have := (List.getElem?_eq_some_iff.mp hj).1; have := h.1; omega
  obtain ⟨dy, dp, ⟨R2, y1⟩, _⟩ := h.2 j x _ hj (List.getElem?_eq_getElem hjl)
  exact ⟨dy, _, y1⟩
theorem isB_nest {C y dy : Addr} {fs : List (Str × V)} {H : Hp} (Cn : Cls K C) (I : Isn K C) (h : H y = some (.ins C dy fs)) : IsB K C H (.ref y) true := ⟨.ref C, .base (.ins h Cn I.c1 I.c2 I.c3 I.c4), kit_self K C⟩
/-- what is asked for a program of nests -/
theorem pinit_ok {x dx tp : Addr} {H H4 : Hp} {xs : List Addr} {ns : List NestD} {R : Hp → Prop} {E : XK} (Cn : Cls K C) (I : Isn K C) (hn : NestsAt C H xs ns) (h4 : ns.length ≤ 4) (sm : Same H H4) (nx : H x = none) (hx : H4 x = some (.ins CP dx [])) (htp : H4 tp = some (.tup (xs.map V.ref))) (ne : tp ≠ x)
    (q : ∀ H', Same H H' → ProgAt CP C H' x ns → R H') : spPInitX K CP C CE [.ref x, .ref tp] H4 (fun v H3 => v = .non ∧ R H3) E := by
  have h1 := hn.1
  have e : fw 0 4 (xs.map fun _ => true) = none := fw_none _ _ _ (fun b hb => by obtain ⟨_, _, e⟩ := List.mem_map.mp hb; exact e.symm) (by rw [List.length_map]; omega)
  refine ⟨x, dx, tp, xs.map V.ref, xs.map fun _ => true, rfl, hx, htp, by rw [List.length_map]; omega, by rw [List.length_map, List.length_map], fun i v b hv hb => ?_, fun k hk => (by rw [e] at hk; cases hk), fun _ H' hx' off => ⟨rfl, ?_⟩⟩
  · rw [List.getElem?_map] at hv hb
    obtain ⟨a, ha, rfl⟩ := Option.map_eq_some_iff.mp hv
    obtain ⟨_, _, rfl⟩ := Option.map_eq_some_iff.mp hb
    obtain ⟨dy, fs, hy⟩ := hn.ins (List.mem_of_getElem? ha)
    exact isB_nest Cn I (sm _ _ hy)
  · have s' : Same H H' := fun b u e => off b u (fun z => by rw [z, nx] at e; cases e) (sm _ _ e)
    exact q H' s' ⟨dx, tp, xs, hx', off _ _ ne htp, h1, fun i y n hy hn' => NestAt.ext s' (hn.2 i y n hy hn')⟩
def spMadeP (CP C : Addr) : Sp := fun vs H Q _ => ∃ (l : Addr) (xs : List Addr) (ns : List NestD), vs = [.ref l] ∧ (SqL K H l (xs.map V.ref) ∨ SqT K H l (xs.map V.ref)) ∧ NestsAt C H xs ns ∧ ns.length ≤ 4 ∧ ∀ (x : Addr) (H' : Hp), Same H H' → ProgAt CP C H' x ns → Q (.ref x) H'
theorem made_of {vs : List V} {H : Hp} {Q : VK} {E : XK} (Cn : Cls K C) (I : Isn K C) (h : spMadeP (K := K) CP C vs H Q E) : spMadePX K CP C CE vs H Q E := by
  obtain ⟨l, xs, ns, rfl, hl, hn, h4, q⟩ := h
  refine ⟨l, xs.map V.ref, rfl, hl, (by rw [List.length_map]; have := hn.1; omega), fun x dx tp H4 sm nx hx htp ne => ?_⟩
  exact pinit_ok (R := fun H3 => Q (.ref x) H3) Cn I hn h4 sm nx hx htp ne (q x)
end
end Sq.N3
namespace Sq.N3
open PySem L2 TL
abbrev sBuilt : Stmt := top 69
def KnX (P : Program) (w : World) (K : PySem.W.Frag) (mg : Str → Option Value) (base : Heap) (x : Str) (k : Nat) (ps : List Str) (sp : Sp) : Prop :=
  ∃ f fd, mg x = some (.ref f) ∧ PySem.W.keepIn K (.ref f) = true ∧ Binds K fd ps [] ∧ FnOk P w K mg base (L2N.CX P w) k f fd ps sp
theorem passN0 {X : Cx} : Passes (L2N.CX X.prog X.w) X E0 := fun pins σ H s e s' I h => by
  obtain ⟨a, B, H', cls, d, ea, fl, hok, ub, na, os, ag, he⟩ := h
  exact False.elim he
def spBuilt (CP C : Addr) : Sp := fun vs H Q _ => ∃ (N : Addr → Prop) (D : Addr) (qs : List Part), vs = [.ref D] ∧ PlanH N H D qs ∧ (∀ q ∈ qs, PartOk q) ∧ qs.length ≤ 4 ∧ ∀ (x : Addr) (H' : Hp), Same H H' → ProgAt CP C H' x (qs.map Part.nest) → Q (.ref x) H'
section
variable {P : Program} {w : World} {K : PySem.W.Frag} {mg : Str → Option Value} {base : Heap} {C CP : Addr}
theorem scBuilt : FnScope ["_law_plan", "_law_rows", "_law_over", "_law_under", "_law_acts", "_law_act_here", "_law_loops", "_law_k"] ["_law_plan"] (defScope sBuilt) := ⟨rfl, rfl, rfl, by decide +kernel, rfl, by decide +kernel, by decide +kernel⟩
theorem ref_at {xs : List Addr} {i : Nat} {x : V} (hi : (xs.map V.ref)[i]? = some x) : ∃ a, xs[i]? = some a ∧ x = .ref a := by
  rw [List.getElem?_map] at hi
  cases e : xs[i]? with
  | none => rw [e] at hi; cases hi
  | some r => rw [e] at hi; exact ⟨r, rfl, (Option.some.inj hi).symm⟩
def compSc (st : Stmt) : Scope := match (defBody st).head? with
  | some (.Assign _ (.ListComp _ _ sc _) _) => sc
  | _ => defScope st
def gOUA (K : PySem.W.Frag) : TG := gTup K 3 (gCons (gName 2) (gCons (gName 3) (gCons (gName 4) gNil)))
theorem ok_built {f : Addr} {fd : FuncData} (F : Fun K "_law_built" "_law_built" sBuilt f fd) (T : Bt mg) (KQ : Kn P w K mg base "_law_act_row" 1 ["_law_act_here"] (spActRow K)) (KV : Kn P w K mg base "_law_walk_row" 2 ["_law_walk_here"] (spWalkRow K))
    (KM : Kn P w K mg base "_law_made_nest" 6 ["_law_over", "_law_under", "_law_deeds"] (spMadeN K C)) (KP : KnX P w K mg base "_law_made" 5 ["_law_nests"] (spMadeP (K := K) CP C)) : FnOk P w K mg base CX0 7 f fd ["_law_plan"] (spBuilt CP C) := by
  obtain ⟨fQ, dQ, mQ, kQ, bQ, GQ⟩ := KQ
  obtain ⟨fR, dR, mR, kR, bR, GR⟩ := KV
  obtain ⟨fM, dM, mM, kM, bM, GM⟩ := KM
  obtain ⟨fP, dP, mP, kP, bP, GP⟩ := KP
  refine F.ok scBuilt (fun vs H Q E h => ?_) (fun cdv A outer s H vs Q E hr h => ?_)
  · obtain ⟨N, D, qs, rfl, _⟩ := h
    rfl
  · obtain ⟨N, D, qs, rfl, ⟨_, ts, hD, tl', hts⟩, ok, ql, q⟩ := h
    have big : 10000 ≤ sizeLine := by decide
    have hr1 := hr.mono (show 1 ≤ 6 by decide)
    have hr2 := hr.mono (show 2 ≤ 6 by decide)
    have hr5 := hr.mono (show 5 ≤ 6 by decide)
    refine ⟨_, pss_cons (ps_set (i := 1) scBuilt.nd rfl (.inr rfl) (pe_lc (own := [("_law_over", 2), ("_law_under", 3), ("_law_acts", 4)]) (g := gOUA K) (by rfl) scBuilt.nd (pi_list (pv 0)) (blkOk_by (own := [("_law_over", 2), ("_law_under", 3), ("_law_acts", 4)]) (N := ["_law_plan", "_law_rows", "_law_over", "_law_under", "_law_acts", "_law_act_here", "_law_loops", "_law_k"]) (sc := defScope sBuilt) (by decide +kernel))
          (fun _ _ _ _ _ => pg_tup (by rfl) (pgs_cons (pg_name (i := 2) scBuilt.nd rfl (Or.inl rfl)) (pgs_cons (pg_name (i := 3) scBuilt.nd rfl (Or.inl rfl)) (pgs_cons (pg_name (i := 4) scBuilt.nd rfl (Or.inl rfl)) pgs_nil)))) (fun _ _ _ _ _ => pts_nil)
          (fun _ _ _ _ _ => (show PE _ _ (tLc (iList K (tVar 4)) (gName 5) tYes (tCall (spActRow K) [] E0 (tCons (tVar 5) tNil)) [5]) from pe_lc (own := [("_law_act_here", 5)]) (g := gName 5) (by rfl) scBuilt.nd (pi_list (pv 4)) (blkOk_by (own := [("_law_act_here", 5)]) (N := ["_law_plan", "_law_rows", "_law_over", "_law_under", "_law_acts", "_law_act_here", "_law_loops", "_law_k"]) (sc := compSc sBuilt) (by decide +kernel)) (fun _ _ _ _ _ => pg_name (i := 5) scBuilt.nd rfl (Or.inl rfl)) (fun _ _ _ _ _ => pts_nil)
            (fun _ _ _ _ _ => pe_call GQ hr1 (by rfl) mQ kQ bQ .nil pass0 (pa_cons (pv 5) pa_nil))))))
      (pss_cons (ps_set (i := 6) scBuilt.nd rfl (.inr rfl) (pe_lc (own := [("_law_over", 2), ("_law_under", 3), ("_law_acts", 4)]) (g := gOUA K) (by rfl) scBuilt.nd (pi_list (pv 0)) (blkOk_by (own := [("_law_over", 2), ("_law_under", 3), ("_law_acts", 4)]) (N := ["_law_plan", "_law_rows", "_law_over", "_law_under", "_law_acts", "_law_act_here", "_law_loops", "_law_k"]) (sc := defScope sBuilt) (by decide +kernel))
          (fun _ _ _ _ _ => pg_tup (by rfl) (pgs_cons (pg_name (i := 2) scBuilt.nd rfl (Or.inl rfl)) (pgs_cons (pg_name (i := 3) scBuilt.nd rfl (Or.inl rfl)) (pgs_cons (pg_name (i := 4) scBuilt.nd rfl (Or.inl rfl)) pgs_nil)))) (fun _ _ _ _ _ => pts_nil)
          (fun _ _ _ _ _ => pe_tup (pa_cons (pe_call GR hr2 (by rfl) mR kR bR .nil pass0 (pa_cons (pv 2) pa_nil)) (pa_cons (pe_call GR hr2 (by rfl) mR kR bR .nil pass0 (pa_cons (pv 3) pa_nil)) pa_nil)))))
      (pss_one (ps_ret (pe_call GP hr5 (by rfl) mP kP bP .nil passN0 (pa_cons (pe_lc (own := [("_law_k", 7)]) (g := gName 7) (by rfl) scBuilt.nd (pi_range1 (by rfl) T.range (pa_cons (pe_callB call_len_seq (by rfl) T.len PySem.boot_len (pa_cons (pv 0) pa_nil)) pa_nil)) (blkOk_by (own := [("_law_k", 7)]) (N := ["_law_plan", "_law_rows", "_law_over", "_law_under", "_law_acts", "_law_act_here", "_law_loops", "_law_k"]) (sc := defScope sBuilt) (by decide +kernel))
          (fun _ _ _ _ _ => pg_name (i := 7) scBuilt.nd rfl (Or.inl rfl)) (fun _ _ _ _ _ => pts_nil)
          (fun _ _ _ _ _ => pe_call GM hr (by rfl) mM kM bM .nil pass0 (pa_cons (show PE _ _ (tOp (L2.rIxT K) (tOp (rIxL K) (tVar 6) (tVar 7)) (tC (V.int 0))) from pe_ix ix_tup (pe_ix ix_list (pv 6) (pv 7) (fun _ _ => rfl)) pe_int (fun _ _ => rfl))
            (pa_cons (show PE _ _ (tOp (L2.rIxT K) (tOp (rIxL K) (tVar 6) (tVar 7)) (tC (V.int 1))) from pe_ix ix_tup (pe_ix ix_list (pv 6) (pv 7) (fun _ _ => rfl)) pe_int (fun _ _ => rfl))
            (pa_cons (show PE _ _ (tOp (rIxL K) (tVar 1) (tVar 7)) from pe_ix ix_list (pv 1) (pv 7) (fun _ _ => rfl)) pa_nil))))) pa_nil))))), ?_⟩
    refine ⟨_, rfl, D, rfl, ⟨_, SqL.of hD⟩, fun D1 nD1 => ?_⟩
    refine lc_list (K := K) (a := D) (xs := ts.map V.ref) (fun i H' => Same H H' ∧ ∃ ls : List Addr, H' D1 = some (.lst (ls.map V.ref)) ∧ ls.length = i ∧ ∀ (j : Nat) (l : Addr) (p : Part), ls[j]? = some l → qs[j]? = some p → l ≠ D1 ∧ H' l = some (.lst (p.nest.2.2.map V.str)))
      ⟨same_new nD1, [], upd_same, rfl, fun j l p h _ => by cases h⟩ (fun i H' _ h => SqL.of (h.1 _ _ hD)) (fun i x H' hi h => ?_) (fun H1 h => ?_)
    · obtain ⟨sm, ls, hD1, ll, hls⟩ := h
      obtain ⟨t, ht, rfl⟩ := ref_at hi
      have hil : i < qs.length := by rw [← tl']; exact (List.getElem?_eq_some_iff.mp ht).1
      have hqi : qs[i]? = some qs[i] := List.getElem?_eq_getElem hil
      have okq := ok _ (List.getElem_mem hil)
      obtain ⟨o, u, l, as, _, _, _, _, h1, h2, h3, h4, h5, h6⟩ := hts i t _ ht hqi
      generalize qs[i] = p at *
      refine ⟨t, _, rfl, SqT.of (sm _ _ h1), rfl, _, _, rfl, _, _, rfl, _, _, rfl, rfl, rfl, ?_⟩
      refine ⟨_, rfl, l, rfl, ⟨_, SqL.of (sm _ _ h4)⟩, fun D2 nD2 => ?_⟩
      refine lc_list (K := K) (a := l) (xs := as.map V.ref) (fun j H'' => Same H' H'' ∧ H'' D2 = some (.lst (((p.nest.2.2).take j).map V.str))) ⟨same_new nD2, upd_same⟩ (fun j H'' _ h => SqL.of (h.1 _ _ (sm _ _ h4))) (fun j y H'' hj h => ?_) (fun H'' h => ?_)
      · obtain ⟨sj, hL⟩ := h
        refine ⟨rfl, ?_⟩
        obtain ⟨a, ha, rfl⟩ := ref_at hj
        have hjl : j < p.acts.length := by rw [← h5]; exact (List.getElem?_eq_some_iff.mp ha).1
        have hpj : p.acts[j]? = some p.acts[j] := List.getElem?_eq_getElem hjl
        have hA := (ActH.at (K := K) (h6 j a _ ha hpj)).ext (sm.trans sj)
        refine ⟨_, rfl, a, _, _, _, rfl, hA, okq.ok _ (List.getElem_mem hjl), fun H3 s3 => ⟨_, s3 _ _ hL, ?_, ?_, ?_⟩⟩
        · rw [List.length_map, List.length_take]
          have := okq.nest.dl
          omega
        · intro c z hc
          rw [upd_ne (ne_of_none hc nD2)]
          exact s3 c z (sj c z hc)
        · rw [upd_same, List.take_add_one, show p.nest.2.2[j]? = some (actS p.acts[j].1 p.acts[j].2.1 p.acts[j].2.2) from by unfold Part.nest; rw [List.getElem?_map, hpj]; rfl, List.map_append]
          rfl
      · obtain ⟨sj, hL⟩ := h
        rw [List.length_map, h5, show p.acts.length = p.nest.2.2.length from (List.length_map ..).symm, List.take_length] at hL
        have nD21 : D2 ≠ D1 := fun e => by rw [e, hD1] at nD2; cases nD2
        refine ⟨_, sj _ _ hD1, by rw [List.length_map]; omega, ?_, ls ++ [D2], ?_, ?_, fun j m p' hj hp => ?_⟩
        · intro c z hc
          rw [upd_ne (ne_of_none hc nD1)]
          exact sj _ _ (sm _ _ hc)
        · rw [upd_same, List.map_append]
          rfl
        · rw [List.length_append, ll]
          rfl
        · by_cases hjl : j < ls.length
          · rw [List.getElem?_append_left hjl] at hj
            obtain ⟨n1, e⟩ := hls j m p' hj hp
            exact ⟨n1, by rw [upd_ne n1]; exact sj _ _ e⟩
          · rw [List.getElem?_append_right (by omega)] at hj
            cases hd : j - ls.length with
            | zero =>
              rw [hd] at hj
              cases hj
              rw [show j = i by omega, hqi] at hp
              cases hp
              exact ⟨nD21, by rw [upd_ne nD21]; exact hL⟩
            | succ n =>
              rw [hd] at hj
              cases hj
    obtain ⟨s1, ls, hD1, ll, hls⟩ := h
    rw [List.length_map, tl'] at ll
    refine ⟨_, rfl, D, rfl, ⟨_, SqL.of (s1 _ _ hD)⟩, fun D3 nD3 => ?_⟩
    refine lc_list (K := K) (a := D) (xs := ts.map V.ref) (fun i H' => Same H1 H' ∧ ∃ ps : List Addr, H' D3 = some (.lst (ps.map V.ref)) ∧ ps.length = i ∧ ∀ (j : Nat) (l : Addr) (p : Part), ps[j]? = some l → qs[j]? = some p → l ≠ D3 ∧ H' l = some (.tup [.str p.nest.1, .str p.nest.2.1]))
      ⟨same_new nD3, [], upd_same, rfl, fun j l p h _ => by cases h⟩ (fun i H' _ h => SqL.of (h.1 _ _ (s1 _ _ hD))) (fun i x H' hi h => ?_) (fun H2 h => ?_)
    · obtain ⟨sm, ps, hD3, pl, hps⟩ := h
      obtain ⟨t, ht, rfl⟩ := ref_at hi
      have hil : i < qs.length := by rw [← tl']; exact (List.getElem?_eq_some_iff.mp ht).1
      have hqi : qs[i]? = some qs[i] := List.getElem?_eq_getElem hil
      have okq := ok _ (List.getElem_mem hil)
      obtain ⟨o, u, l, as, _, _, _, _, h1, h2, h3, h4, h5, h6⟩ := hts i t _ ht hqi
      generalize qs[i] = p at *
      have s01 := s1.trans sm
      refine ⟨t, _, rfl, SqT.of (s01 _ _ h1), rfl, _, _, rfl, _, _, rfl, _, _, rfl, rfl, rfl, ?_⟩
      refine ⟨_, rfl, o, p.o.1, p.o.2.1, p.o.2.2, rfl, SqT.of (s01 _ _ h2), by have := okq.o1; omega, by have := okq.o2; omega, fun H3 s3 => ?_⟩
      refine ⟨_, rfl, u, p.u.1, p.u.2.1, p.u.2.2, rfl, SqT.of (s3 _ _ (s01 _ _ h3)), okq.u1, okq.u2, fun H4 s4 => ?_⟩
      refine ⟨(by show 2 ≤ sizeLine; omega), fun tp ntp => ?_⟩
      have s34 := (s3.trans s4).trans (same_new (o := .tup [.str p.nest.1, .str p.nest.2.1]) ntp)
      have hD34 := s34 _ _ hD3
      have nt3 : tp ≠ D3 := fun e => by
        have z := (s3.trans s4) _ _ hD3
        rw [← e, ntp] at z
        cases z
      refine ⟨_, hD34, by rw [List.length_map]; omega, ?_, ps ++ [tp], ?_, ?_, fun j m p' hj hp => ?_⟩
      · intro c z hc
        rw [upd_ne (ne_of_none hc nD3)]
        exact s34 _ _ (sm _ _ hc)
      · rw [upd_same, List.map_append]
        rfl
      · rw [List.length_append, pl]
        rfl
      · by_cases hjl : j < ps.length
        · rw [List.getElem?_append_left hjl] at hj
          obtain ⟨n1, e⟩ := hps j m p' hj hp
          exact ⟨n1, by rw [upd_ne n1]; exact s34 _ _ e⟩
        · rw [List.getElem?_append_right (by omega)] at hj
          cases hd : j - ps.length with
          | zero =>
            rw [hd] at hj
            cases hj
            rw [show j = i by omega, hqi] at hp
            cases hp
            exact ⟨nt3, by rw [upd_ne nt3]; exact upd_same⟩
          | succ n =>
            rw [hd] at hj
            cases hj
    obtain ⟨s2, ps, hD3, pl, hps⟩ := h
    rw [List.length_map, tl'] at pl
    refine ⟨_, rfl, D, _, rfl, .inl (SqL.of (s2 _ _ (s1 _ _ hD))), ?_⟩
    rw [List.length_map, tl']
    refine ⟨_, rfl, by omega, by omega, fun D5 nD5 => ?_⟩
    refine lc_range (lo := 0) (fun i H' => Same H2 H' ∧ ∃ xs : List Addr, H' D5 = some (.lst (xs.map V.ref)) ∧ xs.length = i ∧ ∀ (j : Nat) (x : Addr) (p : Part), xs[j]? = some x → qs[j]? = some p → NestIs C H' x p.nest)
      ⟨same_new nD5, [], upd_same, rfl, fun j l p h _ => by cases h⟩ (fun i H' hi h => ?_) (fun H' h => ?_)
    · obtain ⟨sm, xs, hD5, xl, hxs⟩ := h
      have hil : i < qs.length := by omega
      have hqi : qs[i]? = some qs[i] := List.getElem?_eq_getElem hil
      have okq := ok _ (List.getElem_mem hil)
      have hlsi : ls[i]? = some ls[i] := List.getElem?_eq_getElem (by omega)
      have hpsi : ps[i]? = some ps[i] := List.getElem?_eq_getElem (by omega)
      have e1 := (hls i _ _ hlsi hqi).2
      have e2 := (hps i _ _ hpsi hqi).2
      generalize qs[i] = p at *
      generalize ls[i] = lr at *
      generalize ps[i] = pr at *
      rw [Int.zero_add]
      have at6 : atI (ps.map V.ref) ((i : Nat) : Int) = some (.ref pr) := atI_nat (by rw [List.getElem?_map, hpsi]; rfl)
      have at1 : atI (ls.map V.ref) ((i : Nat) : Int) = some (.ref lr) := atI_nat (by rw [List.getElem?_map, hlsi]; rfl)
      refine ⟨rfl, ?_⟩
      refine ⟨_, rfl, _, rfl, D3, _, _, _, rfl, rfl, SqL.of (sm _ _ hD3), at6, pr, _, 0, _, rfl, rfl, SqT.of (sm _ _ e2), rfl, ?_⟩
      refine ⟨_, rfl, _, rfl, D3, _, _, _, rfl, rfl, SqL.of (sm _ _ hD3), at6, pr, _, 1, _, rfl, rfl, SqT.of (sm _ _ e2), rfl, ?_⟩
      refine ⟨_, rfl, _, rfl, D1, _, _, _, rfl, rfl, SqL.of (sm _ _ (s2 _ _ hD1)), at1, ?_⟩
      refine ⟨p.nest, lr, rfl, SqL.of (sm _ _ (s2 _ _ e1)), okq.nest.ok, fun x H3 s3 hx => ⟨_, s3 _ _ hD5, by rw [List.length_map]; omega, ?_, xs ++ [x], ?_, ?_, fun j y p' hj hp => ?_⟩⟩
      · intro c z hc
        rw [upd_ne (ne_of_none hc nD5)]
        exact s3 _ _ (sm _ _ hc)
      · rw [upd_same, List.map_append]
        rfl
      · rw [List.length_append, xl]
        rfl
      · have up : ∀ y n, NestIs C H3 y n → NestIs C (upd H3 D5 (.lst (xs.map V.ref ++ [.ref x]))) y n := fun y n hy => by
          obtain ⟨dy, dp, ⟨R2, y1⟩, y2⟩ := hy
          have hD3 := s3 _ _ hD5
          exact ⟨dy, dp, ⟨R2, by rw [upd_ne (fun e => by rw [e, hD3] at y1; cases y1)]; exact y1⟩, by rw [upd_ne (fun e => by rw [e, hD3] at y2; cases y2)]; exact y2⟩
        by_cases hjl : j < xs.length
        · rw [List.getElem?_append_left hjl] at hj
          exact up y _ ((hxs j y p' hj hp).ext s3)
        · rw [List.getElem?_append_right (by omega)] at hj
          cases hd : j - xs.length with
          | zero =>
            rw [hd] at hj
            cases hj
            rw [show j = i by omega, hqi] at hp
            cases hp
            exact up _ _ hx
          | succ n =>
            rw [hd] at hj
            cases hj
    · obtain ⟨sm, xs, hD5, xl, hxs⟩ := h
      refine ⟨D5, xs, qs.map Part.nest, rfl, .inl (SqL.of hD5), ⟨by rw [List.length_map]; omega, fun j x n hx hn => ?_⟩, by rw [List.length_map]; exact ql, fun x H3 s3 pa => q x H3 (((s1.trans s2).trans sm).trans s3) pa⟩
      rw [List.getElem?_map] at hn
      cases e : qs[j]? with
      | none => rw [e] at hn; cases hn
      | some p =>
        rw [e] at hn
        cases hn
        exact hxs j x p hx e
end
end Sq.N3
namespace Sq
open PySem L2 PySem.Spec PyProof.Rows
/-! ### str(o) by a class's own __str__ -/
section
variable {prog : Program} {w : World}
theorem meets_strO (a : Addr) : MeetsIn prog w (Builtin.«str.__new__» ⟨[.type "str", .ref a], []⟩)
    (fun A R s => wpAny (model prog w) A.in1 (Builtin.Str.strOf (.ref a)) (fun r s' => R (.ok (.ret r)) s') (fun e s' => R (.error e) s') s) :=
  MeetsIn.of_wp fun A R s h => by
    rw [PySem.str_new_tree (.ref a)]
    refine wpAny_bind (wpAny_pure ?_)
    refine wpAny_bind (wpAny_of_eq isSubtype_str_str ?_)
    exact wpAny_bind (wpAny_mono h (fun r s' h' => wpAny_pure ⟨_, rfl, h'⟩) fun _ _ e => e)
end
section
variable {X : Cx} {k : Nat} {f C : Addr} {sp : Sp}
theorem call_strO (hs : PySem.W.findIn X.K (.ref C) "__str__" = some (some (.ref f))) (hf : PySem.W.isFn X.K (.ref f) = true) (F : FnR X.prog X.w X.K X.mg X.base CX0 k f sp) (hr : Room (k + 2) X.A) :
    CallR X (.type "str") (fun xs H Q => ∃ a dx fs, xs = [.ref a] ∧ H a = some (.ins C dx fs) ∧ sp [.ref a] H (fun v H' => ∃ z, v = .str z ∧ Q (.str z) H') E0) := by
  intro pins s σ H xs us Q I r h
  obtain ⟨a, dx, fs, rfl, ha, q⟩ := h
  obtain ⟨u, rfl, r1⟩ := vals1 r
  cases r1
  obtain ⟨mA, J, _⟩ := ins_get I.hok ha
  obtain ⟨od, J, _⟩ := J.look
  have hu : X.A.in1.in1.units < cLine := hr.in1.in1.units0
  refine callType_newIn PySem.F.called_str (by decide) (PySem.F.typeCall_str_1 _) (PySem.F.newCall_str_1 _) (fun obj => PySem.F.args_object_init_2 obj _) PySem.F.entry_str_new (meets_strO a) ?_
  show wpAny (model X.prog X.w) X.A.in1.in1 (Builtin.Str.strOf (.ref a)) _ _ s
  unfold Builtin.Str.strOf
  refine wpAny_bind (wpAny_cRoomFor hu ?_)
  refine wpAny_bind (PySem.W.special_fn I.kIn J hs (beq_iff_eq.mp hf) (wpAny_mono (run_below F hr.in1.in1 rfl I (rel1 a) q) (fun v s' hv => ?_) fun _ _ z => z))
  obtain ⟨y, H', I', ry, z, ey, q'⟩ := hv
  subst ey
  obtain ⟨t, rfl⟩ := ry
  refine wpAny_bind (wpAny_pure ?_)
  exact wpAny_pure ⟨PySem.typeIs_str _ _ _, ⟨.str z, H', I', ⟨_, rfl⟩, q'⟩⟩
end
end Sq
namespace Sq
open PySem L2 PySem.Spec PyProof.Rows
/-! ### repr(o) by a class's own __repr__ -/
section
variable {X : Cx} {k : Nat} {f C : Addr} {sp : Sp}
theorem call_reprO (hs : PySem.W.findIn X.K (.ref C) "__repr__" = some (some (.ref f))) (hf : PySem.W.isFn X.K (.ref f) = true) (G : FnR X.prog X.w X.K X.mg X.base CX0 k f sp) (hr : Room (k + 1) X.A) :
    CallR X (.builtin "repr") (fun xs H Q => ∃ a dx fs, xs = [.ref a] ∧ H a = some (.ins C dx fs) ∧ sp [.ref a] H (fun v H' => ∃ z, v = .str z ∧ Q (.str z) H') E0) := by
  intro pins s σ H xs us Q I r h
  obtain ⟨a, dx, fs, rfl, ha, q⟩ := h
  obtain ⟨u, rfl, r1⟩ := vals1 r
  cases r1
  obtain ⟨_, J, _⟩ := ins_get I.hok ha
  obtain ⟨_, J, _⟩ := J.look
  obtain ⟨_, fr⟩ := I.fr
  refine PySem.W.repr_K hr.in1.units0 fr I.ok.mod.kin J hs hf (wpAny_mono (run_below G hr.in1 rfl I (rel1 a) q) (fun v s' hv => ?_) fun _ _ e => e)
  obtain ⟨y, H', I', ry, z, ey, q'⟩ := hv
  subst ey
  obtain ⟨t, rfl⟩ := ry
  exact ⟨.str z, H', I', ⟨_, rfl⟩, q'⟩
end
end Sq
namespace Sq.N3
open PySem L2 PySem.Spec PyProof.Rows TL L2H
abbrev sPRepr : Stmt := inClass (top 50) 7
abbrev sPAdd : Stmt := inClass (top 50) 8
abbrev sPBool' : Stmt := inClass (top 50) 4

def reprT (n k : Int) : Str := ("Program of " : Str) ++ Str.ofString (toString n) ++ (" nests, " : Str) ++ Str.ofString (toString k) ++ (" deeds" : Str)
def deedSum (ns : List NestD) : Nat := (ns.map fun n => n.2.2.length).sum
theorem small_log {n : Nat} (h : n ≤ 1000) : ((n : Nat) : Int).natAbs.log2 < 1920 := by
  by_cases h0 : n = 0
  · subst h0
    decide
  · rw [Int.natAbs_natCast, Nat.log2_lt h0]
    have h4 : (1000 : Nat) < 2 ^ 1920 := by decide +kernel
    omega
theorem small_len {n : Nat} (h : n ≤ 1000) : (Str.ofString (toString ((n : Nat) : Int))).length ≤ 5 := PyProof.Rows.toString_length_le (Int.natCast_nonneg _) (by decide) (by omega)
theorem sum_cast : ∀ l : List Nat, (l.map fun (n : Nat) => (n : Int)).sum = ((l.sum : Nat) : Int)
  | [] => rfl
  | a :: l => by
    rw [List.map_cons, List.sum_cons, List.sum_cons, sum_cast l, Int.natCast_add]
theorem deedSum_le : ∀ {l : List NestD}, (∀ n ∈ l, n.2.2.length ≤ 6) → deedSum l ≤ 6 * l.length
  | [], _ => Nat.le_refl _
  | n :: l, h => by
    have h1 := h n (List.mem_cons_self ..)
    have h2 := deedSum_le fun m hm => h m (List.mem_cons_of_mem _ hm)
    unfold deedSum at *
    rw [List.map_cons, List.sum_cons, List.length_cons]
    omega
def spPReprX (CP C : Addr) : Sp := fun vs H Q _ => ∃ (a : Addr) (ns : List NestD), vs = [.ref a] ∧ ProgAt CP C H a ns ∧ ns.length ≤ 8 ∧ (∀ n ∈ ns, n.2.2.length ≤ 6) ∧ ∀ H', Same H H' → Q (.str (reprT (ns.length : Nat) (deedSum ns : Nat))) H'
section
variable {P : Program} {w : World} {K : PySem.W.Frag} {mg : Str → Option Value} {base : Heap} {C CP CE fp : Addr}
theorem scPRepr : FnScope ["self", "nest"] ["self"] (defScope sPRepr) := ⟨rfl, rfl, rfl, by decide +kernel, rfl, by decide +kernel, by decide +kernel⟩
theorem ok_prepr {f : Addr} {fd : FuncData} (F : Fun K "__repr__" "Program.__repr__" sPRepr f fd) (N : Pc K CP) (T : Bt mg) (hsum : mg "sum" = none) (NK : NestK P w K mg base C) : FnOk P w K mg base CX0 3 f fd ["self"] (spPReprX CP C) := by
  obtain ⟨fl, l1, l2, GL⟩ := NK.len
  refine F.ok scPRepr (fun vs H Q E h => ?_) (fun cdv A outer s H vs Q E hr h => ?_)
  · obtain ⟨a, ns, rfl, _⟩ := h
    rfl
  · obtain ⟨a, ns, rfl, ha, l4, d6, q⟩ := h
    obtain ⟨dx, tp, xs, h1, h2, h3, h4⟩ := ha
    have big : 10000 ≤ sizeLine := by decide
    refine ⟨_, pss_one (ps_ret (pe_joined (.cons pe_str (.cons (pe_fmt (pe_callB call_len_seq (by rfl) T.len PySem.boot_len (pa_cons (pe_fld (pv 0) rfl) pa_nil))) (.cons pe_str (.cons (pe_fmt (pe_callB (cr_sum (by rfl)) (by rfl) hsum (by decide +kernel) (pa_cons
      (pe_lc (own := [("nest", 1)]) (g := gName 1) (by rfl) scPRepr.nd (pi_tup (pe_fld (pv 0) rfl)) (blkOk_by (own := [("nest", 1)]) (N := ["self", "nest"]) (sc := defScope sPRepr) (by decide +kernel))
      (fun _ _ _ _ _ => pg_name (i := 1) scPRepr.nd rfl (Or.inl rfl)) (fun _ _ _ _ _ => pts_nil) (fun _ _ _ _ _ => pe_callB (call_lenO l1 l2 GL hr) (by rfl) T.len PySem.boot_len (pa_cons (pv 1) pa_nil))) pa_nil))) (.cons pe_str .nil))))))), ?_⟩
    have la : ∀ x y : Str, (x ++ y).length = x.length + y.length := PySem.strLen_append
    have c1 : ("Program of " : Str).length ≤ 20 := by decide +kernel
    have c2 : (" nests, " : Str).length ≤ 20 := by decide +kernel
    have c3 : (" deeds" : Str).length ≤ 20 := by decide +kernel
    have c0 : (Str.empty : Str).length = 0 := rfl
    have n1 : (xs.map V.ref).length ≤ 1000 := by rw [List.length_map]; omega
    have w1 := small_len n1
    have w0 : (Str.empty ++ ("Program of " : Str)).length ≤ 20 := by rw [la, c0]; omega
    refine ⟨_, rfl, Nat.le_trans w0 (by omega), ?_⟩
    refine ⟨_, rfl, a, CP, dx, _, _, rfl, h1, N.cl, N.nN, putN tp, tp, _, rfl, .inr (SqT.of h2), .inr ⟨_, rfl, small_log n1, _, rfl, ?_, ?_⟩⟩
    · rw [la]
      omega
    refine ⟨_, rfl, ?_, ?_⟩
    · rw [la, la]
      omega
    refine ⟨_, rfl, a, CP, dx, _, _, rfl, h1, N.cl, N.nN, putN tp, tp, rfl, ⟨_, SqT.of h2⟩, fun D hD => ?_⟩
    refine lc_tup (K := K) (a := tp) (xs := xs.map V.ref) (fun i H' => Same H H' ∧ H' D = some (.lst (((ns.take i).map fun n => ((n.2.2.length : Nat) : Int)).map V.int))) ⟨same_new hD, upd_same⟩ (fun i H' _ h => (SqT.of h2).ext h.1) (fun i x H' hi h => ?_) (fun H' h => ?_)
    · obtain ⟨sm, hL⟩ := h
      refine ⟨rfl, ?_⟩
      obtain ⟨b, hb, rfl⟩ : ∃ b, xs[i]? = some b ∧ x = .ref b := by
        rw [List.getElem?_map] at hi
        obtain ⟨b, hb, e⟩ := Option.map_eq_some_iff.mp hi
        exact ⟨b, hb, e.symm⟩
      have hil : i < ns.length := by rw [← h3]; exact (List.getElem?_eq_some_iff.mp hb).1
      have hgi : ns[i]? = some ns[i] := List.getElem?_eq_getElem hil
      have at_b := (h4 i b _ hb hgi).ext sm
      obtain ⟨bx, bd, ⟨R9, b1⟩, _⟩ := id at_b
      have small := d6 _ (List.getElem_mem hil)
      refine ⟨_, rfl, b, bx, _, rfl, b1, b, _, _, _, rfl, at_b, _, rfl, Int.natCast_nonneg _, by omega, _, hL, ?_, fun c o hc => ?_, ?_⟩
      · rw [List.length_map, List.length_map, List.length_take]
        omega
      · rw [upd_ne (fun e => by rw [e, hD] at hc; cases hc)]
        exact sm c o hc
      · rw [upd_same, List.take_add_one, hgi, List.map_append, List.map_append]
        rfl
    · obtain ⟨sm, hL⟩ := h
      rw [List.length_map, h3, List.take_length] at hL
      have ek : (ns.map fun n => ((n.2.2.length : Nat) : Int)).sum = ((deedSum ns : Nat) : Int) := by
        unfold deedSum
        rw [← sum_cast, List.map_map]
        rfl
      have hk := deedSum_le d6
      have w2 := small_len (n := deedSum ns) (by omega)
      refine ⟨D, _, rfl, SqL.of hL, .inr ⟨_, rfl, ?_, _, rfl, ?_, ?_⟩⟩
      · rw [ek]
        exact small_log (by omega)
      · rw [ek, la, la, la]
        omega
      · refine ⟨_, rfl, ?_, ?_⟩
        · rw [ek, la, la, la, la]
          omega
        · have z := q _ sm
          rw [ek, List.length_map, h3, Str.empty_append]
          exact z
theorem scPBool : FnScope ["self"] ["self"] (defScope sPBool') := ⟨rfl, rfl, rfl, by decide +kernel, rfl, by decide +kernel, by decide +kernel⟩
def spTrue : Sp := fun vs H Q _ => ∃ (a : Addr), vs = [.ref a] ∧ Q (.bl true) H
theorem ok_pbool {f : Addr} {fd : FuncData} (F : Fun K "__bool__" "Program.__bool__" sPBool' f fd) : FnOk P w K mg base CX0 1 f fd ["self"] spTrue := by
  refine F.ok scPBool (fun vs H Q E h => ?_) (fun cdv A outer s H vs Q E hr h => ?_)
  · obtain ⟨a, rfl, _⟩ := h
    rfl
  · obtain ⟨a, rfl, q⟩ := h
    exact ⟨_, pss_one (ps_ret pe_bl), q⟩
theorem NestsAt.app {H : Hp} {xs ys : List Addr} {ns ms : List NestD} (a : NestsAt C H xs ns) (b : NestsAt C H ys ms) : NestsAt C H (xs ++ ys) (ns ++ ms) := by
  obtain ⟨a1, a2⟩ := a
  obtain ⟨b1, b2⟩ := b
  refine ⟨by rw [List.length_append, List.length_append, a1, b1], fun i x n hx hn => ?_⟩
  by_cases h : i < xs.length
  · rw [List.getElem?_append_left h] at hx
    rw [List.getElem?_append_left (by omega)] at hn
    exact a2 i x n hx hn
  · rw [List.getElem?_append_right (by omega)] at hx
    rw [List.getElem?_append_right (by omega), ← a1] at hn
    exact b2 _ x n hx hn
theorem NestsAt.ext {H H' : Hp} {xs : List Addr} {ns : List NestD} (s : Same H H') (a : NestsAt C H xs ns) : NestsAt C H' xs ns := ⟨a.1, fun i x n hx hn => NestAt.ext s (a.2 i x n hx hn)⟩
theorem fw_many : ∀ (bs : List Bool) (i m : Nat), (∀ b ∈ bs, b = true) → i ≤ m → m < i + bs.length → fw i m bs = some m
  | [], i, m, _, h1, h2 => by rw [List.length_nil] at h2; omega
  | b :: r, i, m, h, h1, h2 => by
    rw [List.length_cons] at h2
    have hb := h b List.mem_cons_self
    unfold fw
    by_cases e : i = m
    · rw [if_pos (.inl e), e]
    · rw [if_neg (by rintro (z | z); · exact e z
                     · rw [hb] at z; cases z)]
      exact fw_many r (i + 1) m (fun c hc => h c (List.mem_cons_of_mem _ hc)) (by omega) (by omega)
def spAdd (K : PySem.W.Frag) (CP C CE : Addr) : Sp := fun vs H Q E => ∃ (a b : Addr) (ns ms : List NestD), vs = [.ref a, .ref b] ∧ ProgAt CP C H a ns ∧ ProgAt CP C H b ms ∧ ns.length ≤ 4 ∧ ms.length ≤ 4 ∧
  ((ns ++ ms).length ≤ 4 → ∀ (x : Addr) (H' : Hp), Same H H' → ProgAt CP C H' x (ns ++ ms) → Q (.ref x) H') ∧ (4 < (ns ++ ms).length → FlX E CE "index" (.int 4) H)
theorem scPAdd : FnScope ["self", "other", "nests"] ["self", "other"] (defScope sPAdd) := ⟨rfl, rfl, rfl, by decide +kernel, rfl, by decide +kernel, by decide +kernel⟩
theorem ok_padd {f : Addr} {fd : FuncData} (F : Fun K "__add__" "Program.__add__" sPAdd f fd) (N : Pc K CP) (mP : mg "Program" = some (.ref CP)) (Cn : Cls K C) (I : Isn K C) (mkp : Mk K CP fp) (GI : FnR P w K mg base (L2N.CX P w) 3 fp (spPMadeX K CP C CE)) : FnOk P w K mg base (L2N.CX P w) 5 f fd ["self", "other"] (spAdd K CP C CE) := by
  refine Fun.okN F scPAdd (fun vs H Q E h => ?_) (fun cdv A outer s H vs Q E hr h => ?_)
  · obtain ⟨a, b, ns, ms, rfl, _⟩ := h
    rfl
  · obtain ⟨a, b, ns, ms, rfl, ha, hb, n4, m4, q, qe⟩ := h
    obtain ⟨dx, tp, xs, h1, h2, h3, h4⟩ := ha
    obtain ⟨dy, tq, ys, g1, g2, g3, g4⟩ := hb
    have big : 100 ≤ sizeLine := by decide
    refine ⟨_, pss_cons (ps_set (i := 2) scPAdd.nd rfl (.inl rfl) (pe_op op_catA (pe_fld (pv 0) rfl) (pe_fld (pv 1) rfl)))
      (pss_one (ps_ret (pe_makeSG mkp GI hr (by rfl) mP (L2N.passes_call (L2N.takes_of rfl rfl rfl rfl) (fun _ _ _ _ h => h)) (pv 2)))), ?_⟩
    refine sq_ (set_ (gen_of (fun y H' => ∃ p, y = .ref p ∧ Same H H' ∧ SqT K H' p ((xs ++ ys).map V.ref)) (fun Q' k => ?_) ?_))
    · refine ⟨_, rfl, a, CP, dx, _, _, rfl, h1, N.cl, N.nN, putN tp, _, rfl, b, CP, dy, _, _, rfl, g1, N.cl, N.nN, putN tq, ?_⟩
      refine ⟨tp, tq, xs.map V.ref, ys.map V.ref, rfl, rfl, SqT.of h2, SqT.of g2, by rw [List.length_map, List.length_map]; omega, fun e => ?_, fun e1 e2 => ?_, fun e1 e2 p np => ?_⟩
      · refine k _ _ ⟨tq, rfl, Same.refl _, ?_⟩
        rw [List.map_append, e, List.nil_append]
        exact SqT.of g2
      · refine k _ _ ⟨tp, rfl, Same.refl _, ?_⟩
        rw [List.map_append, e2, List.append_nil]
        exact SqT.of h2
      · refine k _ _ ⟨p, rfl, same_new np, ?_⟩
        rw [List.map_append]
        exact SqT.of upd_same
    rintro _ H1 ⟨p, rfl, s1, hp⟩
    refine pr_one (ret_ ?_)
    refine ⟨_, rfl, p, _, rfl, .inl hp, fun x dz nx ndz ne => ?_⟩
    refine ⟨[.ref x], (xs ++ ys).map V.ref, rfl, rfl, by rw [List.length_map, List.length_append]; omega, fun dq nq => ?_⟩
    obtain ⟨s4, hx, nqx⟩ := init_at (C := CP) (xs := (xs ++ ys).map V.ref) nx ndz ne nq
    have hN : NestsAt C H1 (xs ++ ys) (ns ++ ms) := (NestsAt.app ⟨h3, h4⟩ ⟨g3, g4⟩).ext s1
    by_cases hl : (ns ++ ms).length ≤ 4
    · exact pinit_ok (R := fun H3 => Q (.ref x) H3) Cn I hN hl s4 nx hx upd_same nqx fun H' s' hx' => q hl x H' (s1.trans s') hx'
    · have hl : 4 < (ns ++ ms).length := by omega
      have ln := hN.1
      have e : fw 0 4 ((xs ++ ys).map fun _ => true) = some 4 := fw_many _ _ _ (fun b hb => by obtain ⟨_, _, e⟩ := List.mem_map.mp hb; exact e.symm) (by omega) (by rw [List.length_map]; omega)
      have l8 : (xs ++ ys).length ≤ 8 := by rw [List.length_append]; omega
      refine ⟨x, dz, dq, (xs ++ ys).map V.ref, (xs ++ ys).map fun _ => true, rfl, hx, upd_same, by rw [List.length_map]; exact l8, by rw [List.length_map, List.length_map], fun i v b hv hb => ?_, fun k hk => ?_, fun z => ?_⟩
      · rw [List.getElem?_map] at hv hb
        obtain ⟨y, hy, rfl⟩ := Option.map_eq_some_iff.mp hv
        obtain ⟨_, _, rfl⟩ := Option.map_eq_some_iff.mp hb
        obtain ⟨dw, fs, hw⟩ := hN.ins (List.mem_of_getElem? hy)
        exact isB_nest Cn I (s4 _ _ hw)
      · rw [e] at hk
        cases hk
        exact (qe hl).same (s1.trans s4)
      · rw [e] at z
        cases z
end
end Sq.N3
namespace Sq
open PySem L2 PySem.Spec PyProof.Rows L2H
/-! ### a tuple unpacked where an exception is handled -/
section
variable {prog : Program} {w : World} {A : Around} {E : Value → Shared → Prop} {s : Shared}
theorem tup_end_hot {it t x1 : Addr} {i : Nat} {items : Array Value} {Q : Option Value → Shared → Prop} (hot : HotX.HotAt A x1 s.heap) (ne : x1 ≠ it) (hi : IsTupIter s.heap it t i) (ht : IsTup s.heap t items) (hx : items[i]? = none)
    (hQ : ∀ h', (∀ b o, b ≠ it → s.heap.get? b = some o → h'.get? b = some o) → Q none { s with heap := h' }) : wpAny (model prog w) A (pyNext (.ref it)) Q E s := by
  obtain ⟨hh, o1, v1, g1, d1, c1⟩ := hot
  obtain ⟨o, ho, hc, hd⟩ := id hi
  obtain ⟨ol, hol, _, nl, hdl⟩ := ht
  unfold pyNext
  refine wpAny_bind (wpAny_attempt (wpAny_callSpecial?_slot (name := Str.ofString "__next__") hi.typeIs slot_tupleiter_next (wpAny_call_entry slot_tupleiter_next hi.typeIs entry_tupleiter_next ?_ (args_tupleiter_next _))))
  show wpAny _ _ (field (.ref it) 0 >>= _) _ _ _
  refine wpAny_bind (wpAny_field ho hd (x := .ref t) rfl ?_)
  show wpAny _ _ (if (Value.ref t == Value.none) = true then _ else _) _ _ _
  rw [if_neg (show (Value.ref t == Value.none) = true → False from Bool.false_ne_true)]
  show wpAny _ _ (field (.ref it) 1 >>= _) _ _ _
  refine wpAny_bind (wpAny_field ho hd (x := .int i 0) rfl ?_)
  show wpAny _ _ (seqItems? (.ref t) >>= _) _ _ _
  refine wpAny_bind (wpAny_seqItems hol hdl ?_)
  simp only [Int.toNat_natCast, hx]
  refine wpAny_bind (wpAny_rule (wpAny_bind (wpAny_setField ho hd (by simp) ?_)))
  have sb := Heap.SameBut.update s.heap it (Obj.mapFields (·.setIfInBounds 0 Value.none))
  show wpAny _ _ (newExc (.type "StopIteration") [] >>= _) _ _ _
  refine wpAny_bind ?_
  simp only [newExc, newTuple]
  refine wpAny_bind (wpAny_newObj_type (wpAny_bind (m := firstArgMember _ _) (wpAny_of_eq (a := Value.none) (by first | rfl | (simp only [firstArgMember]; rfl)) (wpAny_newObj_type ?_ (by size_fits)))) (by size_fits))
  refine HotX.raiseNew_hot ⟨hh, o1, v1, Heap.get?_push_of_some _ (Heap.get?_push_of_some _ ((sb.2 x1 ne).trans g1)), d1, c1⟩ (Nat.ne_of_lt (Heap.lt_size (Heap.get?_push_of_some _ ((sb.2 x1 ne).trans g1)))) (Heap.get?_push_size _ rfl) rfl (by first | (simp; done) | (simp; omega) | (simp only [Array.size_append]; simp; omega)) ?_
  refine wpAny_bind (wpAny_isInstance (T := "StopIteration") (b := true) ⟨_, Heap.get?_update_self _ (Heap.get?_push_size _ rfl) rfl, rfl⟩ isSubtype_stop (wpAny_pure (hQ _ fun b o nb e => ?_)))
  have e2 := Heap.get?_push_of_some { cls := .type "tuple", data := .seq ([] : List Value).toArray } ((sb.2 b nb).trans e)
  rw [Heap.get?_update_other _ _ (Nat.ne_of_gt (Heap.lt_size e2))]
  exact Heap.get?_push_of_some _ e2
theorem unpack_hot {t x1 : Addr} {items : Array Value} {Q : List Value → Shared → Prop} (hot : HotX.HotAt A x1 s.heap) (ht : IsTup s.heap t items)
    (hQ : ∀ h', (∀ b o, s.heap.get? b = some o → h'.get? b = some o) → Q items.toList { s with heap := h' }) : wpAny (model prog w) A (unpackItems (.ref t) items.size none) Q E s := by
  obtain ⟨o0, ho0, _⟩ := id ht
  have far : t ≠ s.heap.objs.size := Nat.ne_of_lt (Heap.lt_size ho0)
  obtain ⟨hh, o1, v1, g1, d1, c1⟩ := hot
  have far1 : x1 ≠ s.heap.objs.size := Nat.ne_of_lt (Heap.lt_size g1)
  unfold unpackItems notIterableAtAll
  refine wpAny_bind (wpAny_bind (wpAny_specialOf ht.typeIs slot_tuple_iter.lookup (wpAny_pure ?_)))
  simp only [Bool.false_eq_true, if_false]
  refine wpAny_bind (wpAny_holding (iter_tuple ht (wpAny_bind (wpAny_holding (draw_tuple far items.size 0 _ _ ⟨_, Heap.get?_push_size _ rfl, rfl, rfl⟩ (ht.push _) (by omega) fun h₁ i1 s1 => ?_)))))
  rw [show List.take items.size (List.drop 0 items.toList) = items.toList by rw [List.drop_zero]; exact List.take_of_length_le (by simp), if_neg (by simp)]
  have k1 : ∀ b o, s.heap.get? b = some o → h₁.get? b = some o := fun b o e => s1.extBut b o (Nat.ne_of_lt (Heap.lt_size e)) (Heap.get?_push_of_some _ e)
  refine wpAny_bind (wpAny_holding (tup_end_hot ⟨hh, o1, v1, k1 _ _ g1, d1, c1⟩ far1 i1 ((ht.push _).extBut s1.extBut far) (by simp) fun h₂ k2 => ?_))
  simp only [Option.isSome_none, Bool.false_eq_true, if_false]
  exact wpAny_pure (hQ h₂ fun b o e => k2 b o (Nat.ne_of_lt (Heap.lt_size e)) (k1 b o e))
theorem assign_hot {env : Env} {elts : List Expr} {x1 : Addr} {k : Nat} {pos : Pos} {t : Addr} {items : Array Value} {Q : Unit → Shared → Prop} (hot : HotX.HotAt A x1 s.heap) (ht : IsTup s.heap t items)
    (hn : (assignEach elts env).length = items.size) (hs : (assignEach elts env).findIdx? (·.1) = none)
    (h : ∀ h', (∀ b o, s.heap.get? b = some o → h'.get? b = some o) → wpAny (model prog w) A (assignInOrder ((assignEach elts env).map (·.2)) items.toList) Q E { s with heap := h' }) : wpAny (model prog w) A (assign (.Tuple elts k pos) env (.ref t)) Q E s := by
  rw [assign_Tuple]
  refine wpAny_bind (wpAny_standAt ?_)
  unfold unpack
  rw [hn, hs]
  exact wpAny_bind (wpAny_holding (unpack_hot hot ht h))
end
section
variable {X : Cx}
/-- a, b = t -/
theorem pg_tupH {es : List Expr} {k : Nat} {t : TGs} {n : Nat} {pos : Pos} (hc : HotC X) (h : PGs X es t)
    (hn : (assignEach es X.env).length = n := by rfl) (hst : (assignEach es X.env).findIdx? (·.1) = none := by rfl) : PG X (.Tuple es k pos) (gTup X.K n t) := by
  refine ⟨fun pins s σ H v u Q I r ⟨a, xs, e1, hq, hl, hw⟩ => ?_⟩
  subst e1
  cases r
  obtain ⟨its, rv, ht, hz⟩ := I.tuple hq
  obtain ⟨x1, hot⟩ := hc.at I
  refine assign_hot hot ht (by simp [hn, ← hl, rv.length]) hst fun h' k => ?_
  exact h.run pins _ σ H xs _ Q (I.kept (t' := s.toks) k) (by simpa using rv) hw
/-- a, b = x, y, names -/
theorem ps_parH {i j : Nat} {x y : Str} {a b : Expr} {ta : TA} {px py pt pos : Pos} {kt k2 : Nat} {pt2 : Pos} (hc : HotC X) (hN : X.N.Nodup) (hi : X.N[i]? = some x) (hj : X.N[j]? = some y) (hij : i ≠ j)
    (hx : X.env.scope.names.lookup x = some .local) (hy : X.env.scope.names.lookup y = some .local) (ha : PA X [a, b] ta)
    (hw : swappedStores [.Tuple [.Name x px, .Name y py] kt pt] (.Tuple [a, b] k2 pt2) X.env = pure (some [x, y]))
    (hs : swapsWithSole [.Tuple [.Name x px, .Name y py] kt pt] (.Tuple [a, b] k2 pt2) pos.line X.env = pure false := by rfl) :
    PS X (.Assign [.Tuple [.Name x px, .Name y py] kt pt] (.Tuple [a, b] k2 pt2) pos) (tPar i j ta) := by
  refine ⟨fun pins s σ H D I h => ?_⟩
  rw [exec_Assign_arm]
  refine wpAny_bind (wpAny_standAt ?_)
  rw [hs]
  refine wpAny_bind (wpAny_pure ?_)
  rw [if_neg (by decide)]
  refine wpAny_bind (Tuple_ (thn (ha.run _ pins s σ H _ I h) fun us s1 z => ?_))
  obtain ⟨vs, H1, I1, r1, v, w, rfl, q1⟩ := z
  obtain ⟨u1, u2, rfl, rv, rw'⟩ := vals2 r1
  refine wpAny_newObj_type ?_ (by show 2 ≤ sizeLine; decide)
  have I2 : Inv X pins σ H1 { s1 with heap := s1.heap.push { cls := .type "tuple", data := .seq [u1, u2].toArray } } := I1.kept (t' := s1.toks) fun b o e => Heap.get?_push_of_some _ e
  rw [hw]
  refine wpAny_bind (wpAny_pure ?_)
  obtain ⟨x1, hot⟩ := hc.at I2
  show wpAny (model X.prog X.w) X.A (do rule "assign.swapped-stores"; let its ← unpackItems (.ref s1.heap.objs.size) 2 none; assignInOrder [fun v => bindName X.env y v, fun v => bindName X.env x v] its.reverse; pure Flow.next) _ _ _
  refine wpAny_bind (wpAny_rule (wpAny_bind (unpack_hot (items := #[u1, u2]) hot (IsTup.new s1.heap _) fun h' k => ?_)))
  have I3 := I2.kept (h' := h') (t' := s1.toks) k
  show wpAny _ _ (assignInOrder [fun v => bindName X.env y v, fun v => bindName X.env x v] [u2, u1] >>= fun _ => pure Flow.next) _ _ _
  refine wpAny_bind (assignInOrder_cons (wpAny_bindName (store_ok I3 hN hj (.inl hy) rw' (fun s2 I4 => assignInOrder_cons (wpAny_bindName (store_ok I4 hN hi (.inl hx) rv (fun s3 I5 => assignInOrder_nil (wpAny_pure ?_)) (.inr hx)))) (.inr hy))))
  rw [List.set_comm _ _ (Ne.symm hij)] at I5
  exact ⟨_, H1, I5, q1⟩
end
end Sq
namespace Sq
open PySem L2 PySem.Spec PyProof.Rows L2H
/-! ### the kinds of errors, group by group -/
def kW : List Str := ["loop", "text", "size", "cell", "kind", "table", "entry", "power", "count", "tail", "name", "wish", "index", "program", "action", "deeds", "nests", "listed", "changes", "programs", "unknown", "in use", "falls", "many to one", "undo", "broken"]
def wd (j : Nat) : Str := kW.getD j ""
def kG (t : Nat) : Nat := if t < 20 then 0 else if t < 22 then 1 else 2
def kIx : Nat → List Nat
  | 0 => [0, 1, 2, 3, 4, 5, 6, 7, 8, 9, 10, 11, 12, 13, 14, 15, 16, 17, 18, 19]
  | 1 => [20, 21]
  | _ => [22, 23, 24, 25]
def kvx (t : Nat) (ix : List Nat) : List (Key × V) := ix.map fun j => (Sum.inr (wd j), V.bl (j == t))
theorem mem_kIx {t : Nat} (h : t < 26) (i : Nat) (hi : i < 3) : t ∈ kIx i ↔ kG t = i := by
  have : ∀ t, t < 26 → ∀ i, i < 3 → (t ∈ kIx i ↔ kG t = i) := by decide
  exact this t h i hi
theorem valV_nodup {v : V} {k : Key} : ∀ {kvs : List (Key × V)} {x : Nat}, (kvs.map (·.1)).Nodup → kvs[x]? = some (k, v) → valV kvs k = some v
  | [], x, _, h => by cases h
  | p :: r, 0, _, h => by
    obtain rfl : p = (k, v) := Option.some.inj h
    exact valV_pos rfl
  | p :: r, x + 1, nd, h => by
    rw [List.map_cons, List.nodup_cons] at nd
    have h : r[x]? = some (k, v) := h
    have hm : k ∈ r.map (·.1) := List.mem_map.mpr ⟨(k, v), List.mem_of_getElem? h, rfl⟩
    rw [valV_neg fun e => nd.1 (e ▸ hm)]
    exact valV_nodup nd.2 h
theorem same_put {H H0 : Hp} {a : Addr} {o : HO} (s : Same H H0) (n : H a = none) : Same H (upd H0 a o) := fun b u e => by
  rw [upd_ne (fun z => by rw [z, n] at e; cases e)]
  exact s b u e
theorem none_of {H H0 : Hp} {a : Addr} (s : Same H H0) (n : H0 a = none) : H a = none := by
  cases e : H a with
  | none => rfl
  | some o => rw [s _ _ e] at n; cases n
/-- what the comprehension over a group has found, among the first x of its kinds -/
def Fnd (t i : Nat) (ix : List Nat) (D : Addr) (H : Hp) : Prop := (t ∈ ix ∧ ∃ q, H D = some (.lst [.ref q]) ∧ H q = some (.tup [.str (wd t), .int (i : Nat)])) ∨ (t ∉ ix ∧ H D = some (.lst []))
theorem comp_kind {K : PySem.W.Frag} {e a1 a2 a3 m gg a : Addr} {H : Hp} {od : Obj} {i t : Nat} {ix : List Nat} {gs : List V} {Q : VK} (hG : H gg = some (.lst gs)) (hgs : gs[i]? = some (.ref a)) (hd : H a = some (.frz od (.dK (kvx t ix)))) (nd : ix.Nodup) (ndk : (ix.map wd).Nodup) (hl : ix.length ≤ 26)
    (hQ : ∀ D H', H D = none → Same H H' → Fnd t i ix D H' → Q (.ref D) H') :
    tLc (iKeysM (tOp (rIxL K) (tVar 5) (tVar 6))) (gName 7) (tB (tDGet (tOp (rIxL K) (tVar 5) (tVar 6)) (tVar 7))) (tTup (tCons (tVar 7) (tCons (tVar 6) tNil))) [7] [some (.ref e), some (.ref a1), some (.ref a2), some (.ref a3), some (.ref m), some (.ref gg), some (.int (i : Nat)), none, none, none] H Q := by
  refine ⟨_, rfl, _, rfl, gg, _, _, _, rfl, rfl, SqL.of hG, atI_nat hgs, a, od, kvx t ix, rfl, hd, fun D nD => ?_⟩
  have ndK : ((kvx t ix).map (·.1)).Nodup := by
    have e : (kvx t ix).map (·.1) = (ix.map wd).map Sum.inr := by
      unfold kvx
      rw [List.map_map, List.map_map]
      rfl
    rw [e]
    exact List.pairwise_map.mpr (ndk.imp fun h z => h (Sum.inr.inj z))
  refine lc_it walk_keys (fun x H' => Same H H' ∧ Fnd t i (ix.take x) D H') ⟨same_new nD, .inr ⟨by simp, upd_same⟩⟩ (fun x H' _ h => h.1 _ _ hd) (fun x v H' H'' hx h y => ?_) (fun H' h => ?_)
  · obtain ⟨rfl, k, b, hk, rfl⟩ := y
    obtain ⟨s, fnd⟩ := h
    have hv := valV_nodup ndK hk
    unfold kvx at hk
    rw [List.getElem?_map] at hk
    obtain ⟨j, hj, hk⟩ := Option.map_eq_some_iff.mp hk
    cases hk
    have tk : ix.take (x + 1) = ix.take x ++ [j] := by rw [List.take_add_one, hj]; rfl
    refine ⟨rfl, _, rfl, _, rfl, gg, _, _, _, rfl, rfl, SqL.of (s _ _ hG), atI_nat hgs, _, rfl, a, .bl (j == t), rfl, .inl ⟨_, _, .inr ⟨od, s _ _ hd⟩, rfl, hv.symm⟩, _, rfl, ?_⟩
    by_cases hjt : j = t
    · subst hjt
      try dsimp only
      rw [if_pos (by simp)]
      have no : j ∉ ix.take x := fun z => by
        obtain ⟨y, hy⟩ := List.mem_iff_getElem?.mp z
        rw [List.getElem?_take] at hy
        split at hy
        · rename_i hyx
          obtain ⟨l1, e1⟩ := List.getElem?_eq_some_iff.mp hy
          obtain ⟨l2, e2⟩ := List.getElem?_eq_some_iff.mp hj
          exact (List.pairwise_iff_getElem.mp nd) y x l1 l2 hyx (e1.trans e2.symm)
        · cases hy
      rcases fnd with ⟨z, _⟩ | ⟨_, hD⟩
      · exact absurd z no
      refine ⟨_, rfl, _, rfl, by show 2 ≤ sizeLine; decide, fun q nq => ?_⟩
      have nqD : q ≠ D := fun z => by rw [z, hD] at nq; cases nq
      refine ⟨[], ?_, by show 0 < sizeLine; decide, same_put (same_put s (none_of s nq)) nD, .inl ⟨by rw [tk]; simp, q, ?_, ?_⟩⟩
      · rw [upd_ne (Ne.symm nqD)]
        exact hD
      · rw [upd_same]
        rfl
      · rw [upd_ne nqD, upd_same]
        rfl
    · dsimp only
      rw [if_neg (by simpa using hjt)]
      refine ⟨s, ?_⟩
      rcases fnd with ⟨z, r⟩ | ⟨z, r⟩
      · exact .inl ⟨by rw [tk]; exact List.mem_append_left _ z, r⟩
      · exact .inr ⟨by rw [tk]; simp only [List.mem_append, List.mem_singleton, not_or]; exact ⟨z, fun y => hjt y.symm⟩, r⟩
  · obtain ⟨s, fnd⟩ := h
    have e : (kvx t ix).length = ix.length := by unfold kvx; rw [List.length_map]
    rw [e, List.take_length] at fnd
    exact hQ D H' nD s fnd
end Sq
namespace Sq
open PySem L2 PySem.Spec PyProof.Rows TL L2H
section
variable {P : Program} {w : World} {K : PySem.W.Frag} {mg : Str → Option Value} {base : Heap}
abbrev s__law_kind_of_error : Stmt := top 70
theorem sc__law_kind_of_error : FnScope ["_law_e", "_law_values", "_law_names", "_law_answers", "_law_met", "_law_groups", "_law_k", "_law_word", "_law_bases", "_law_pythons"] ["_law_e"] (defScope s__law_kind_of_error) := ⟨rfl, rfl, rfl, by decide +kernel, rfl, by decide +kernel, by decide +kernel⟩
/-- the names of the errors in the module, and the built-in ones -/
structure Ers (mg : Str → Option Value) (C : Nat → Addr) : Prop where
  InvalidLoop : mg "InvalidLoop" = some (.ref (C 0))
  InvalidText : mg "InvalidText" = some (.ref (C 1))
  InvalidSize : mg "InvalidSize" = some (.ref (C 2))
  InvalidCell : mg "InvalidCell" = some (.ref (C 3))
  InvalidKind : mg "InvalidKind" = some (.ref (C 4))
  InvalidTable : mg "InvalidTable" = some (.ref (C 5))
  InvalidEntry : mg "InvalidEntry" = some (.ref (C 6))
  InvalidPower : mg "InvalidPower" = some (.ref (C 7))
  InvalidCount : mg "InvalidCount" = some (.ref (C 8))
  InvalidTail : mg "InvalidTail" = some (.ref (C 9))
  InvalidName : mg "InvalidName" = some (.ref (C 10))
  InvalidWish : mg "InvalidWish" = some (.ref (C 11))
  InvalidIndex : mg "InvalidIndex" = some (.ref (C 12))
  NotAProgram : mg "NotAProgram" = some (.ref (C 13))
  NotAnAction : mg "NotAnAction" = some (.ref (C 14))
  InvalidDeeds : mg "InvalidDeeds" = some (.ref (C 15))
  InvalidNests : mg "InvalidNests" = some (.ref (C 16))
  InvalidListed : mg "InvalidListed" = some (.ref (C 17))
  InvalidChanges : mg "InvalidChanges" = some (.ref (C 18))
  InvalidPrograms : mg "InvalidPrograms" = some (.ref (C 19))
  UnknownName : mg "UnknownName" = some (.ref (C 20))
  InUse : mg "InUse" = some (.ref (C 21))
  Falls : mg "Falls" = some (.ref (C 22))
  NotOneToOne : mg "NotOneToOne" = some (.ref (C 23))
  NothingToUndo : mg "NothingToUndo" = some (.ref (C 24))
  Broken : mg "Broken" = some (.ref (C 25))
  WrongValue : mg "WrongValue" = some (.ref (C 26))
  WrongName : mg "WrongName" = some (.ref (C 27))
  NoAnswer : mg "NoAnswer" = some (.ref (C 28))
  ValueError : mg "ValueError" = none
  LookupError : mg "LookupError" = none
  ArithmeticError : mg "ArithmeticError" = none

/-- what isinstance says of an error of the kind t, for the i-th class that is asked -/
def ansB (t i : Nat) : Bool := if i < 26 then i == t else if i < 29 then i - 26 == kG t else i - 29 == kG t
def cvs (C : Nat → Addr) (i : Nat) : Value := if i < 29 then .ref (C i) else if i = 29 then .type "ValueError" else if i = 30 then .type "LookupError" else .type "ArithmeticError"
/-- D is the class of the kind t -/
structure IsErr (K : PySem.W.Frag) (C : Nat → Addr) (D : Addr) (t : Nat) : Prop where
  lt : t < 26
  exc : ExcC K D
  kit : ∀ i, i < 32 → PySem.W.kitOne K (.ref D) (cvs C i) = some (ansB t i)
/-- p is an error of the class D, whose dict at dd holds fs -/
structure ErrAt (p : Addr × Obj) (D dd : Addr) (fs : List (Str × V)) (H : Hp) : Prop where
  z : L2N.Zn (.ref D) (some dd) p.2
  f : ∃ vs, p.2.data = .fields vs
  d : H dd = some (.xd fs)
def spKind (K : PySem.W.Frag) (C : Nat → Addr) : Addr × Obj → Sp := fun p vs H Q _ => ∃ (D dd : Addr) (fs : List (Str × V)) (t : Nat), vs = [.ref p.1] ∧ ErrAt p D dd fs H ∧ IsErr K C D t ∧ ∀ H', Same H H' → Q (.str (wd t)) H'
/-- what the walk over the groups has found, behind i groups -/
def Met (t i : Nat) (m : Addr) (H : Hp) : Prop := (kG t < i ∧ ∃ q, H m = some (.lst [.ref q]) ∧ H q = some (.tup [.str (wd t), .int (kG t : Nat)])) ∨ (¬ kG t < i ∧ H m = some (.lst []))
theorem ok_kind {C : Nat → Addr} {f : Addr} {fd : FuncData} (F : Fun K "_law_kind_of_error" "_law_kind_of_error" s__law_kind_of_error f fd) (b : Binds K fd ["_law_e"] []) (T : Bt mg) (M : Ers mg C) : FnP P w K mg base 1 f (spKind K C) := by
  refine FnP.of F sc__law_kind_of_error b (fun p vs H Q h => ?_) (fun p cdv A fr s H vs Q hot hr h => ?_)
  · obtain ⟨D, dd, fs, t, rfl, _⟩ := h
    rfl
  · obtain ⟨D, dd, fs, t, rfl, ⟨hz, hf, hd⟩, ⟨ht, EX, kit⟩, q⟩ := h
    have hp : p ∈ (cxH CX0 P w K mg base ["_law_e", "_law_values", "_law_names", "_law_answers", "_law_met", "_law_groups", "_law_k", "_law_word", "_law_bases", "_law_pythons"] "_law_kind_of_error" (defScope s__law_kind_of_error) f cdv A fr s H E0 p).nox.pn := List.mem_singleton.mpr rfl
    have hc : L2H.HotC (cxH CX0 P w K mg base ["_law_e", "_law_values", "_law_names", "_law_answers", "_law_met", "_law_groups", "_law_k", "_law_word", "_law_bases", "_law_pythons"] "_law_kind_of_error" (defScope s__law_kind_of_error) f cdv A fr s H E0 p).nox := ⟨p, hot, hp⟩
    have hun := hr.un
    have hu : (A.deeper (envOfC "_law_kind_of_error" (defScope s__law_kind_of_error) s.heap.objs.size f cdv)).units + 1 < cLine := by omega
    have hu64 : (A.deeper (envOfC "_law_kind_of_error" (defScope s__law_kind_of_error) s.heap.objs.size f cdv)).units + 64 < cLine := by omega
    refine ⟨_, (pss_cons (ps_set (i := 1) sc__law_kind_of_error.nd rfl (by first | exact .inl rfl | exact .inr rfl) (pe_disp (pps_cons pe_str (pe_callB (call_isP hp hz hf) (by rfl) T.isinstance (by decide +kernel) (pa_cons (pv 0) (pa_cons (pe_glob (v := .ref (C 0)) (by rfl) M.InvalidLoop rfl) pa_nil))) (pps_cons pe_str (pe_callB (call_isP hp hz hf) (by rfl) T.isinstance (by decide +kernel) (pa_cons (pv 0) (pa_cons (pe_glob (v := .ref (C 1)) (by rfl) M.InvalidText rfl) pa_nil))) pps_nil)) (by rfl) (by rfl) (fun z => by cases z) (by decide)))
        (pss_cons (ps_asg (pe_tup (pa_cons (pe_callB (call_isP hp hz hf) (by rfl) T.isinstance (by decide +kernel) (pa_cons (pv 0) (pa_cons (pe_glob (v := .ref (C 2)) (by rfl) M.InvalidSize rfl) pa_nil))) (pa_cons (pe_callB (call_isP hp hz hf) (by rfl) T.isinstance (by decide +kernel) (pa_cons (pv 0) (pa_cons (pe_glob (v := .ref (C 3)) (by rfl) M.InvalidCell rfl) pa_nil))) pa_nil))) (pg_tupH hc (pgs_cons (pg_sub (pv 1) pe_str (set_dict hu)) (pgs_cons (pg_sub (pv 1) pe_str (set_dict hu)) pgs_nil)) (by rfl) (by rfl)))
        (pss_cons (ps_asg (pe_tup (pa_cons (pe_callB (call_isP hp hz hf) (by rfl) T.isinstance (by decide +kernel) (pa_cons (pv 0) (pa_cons (pe_glob (v := .ref (C 4)) (by rfl) M.InvalidKind rfl) pa_nil))) (pa_cons (pe_callB (call_isP hp hz hf) (by rfl) T.isinstance (by decide +kernel) (pa_cons (pv 0) (pa_cons (pe_glob (v := .ref (C 5)) (by rfl) M.InvalidTable rfl) pa_nil))) pa_nil))) (pg_tupH hc (pgs_cons (pg_sub (pv 1) pe_str (set_dict hu)) (pgs_cons (pg_sub (pv 1) pe_str (set_dict hu)) pgs_nil)) (by rfl) (by rfl)))
        (pss_cons (ps_asg (pe_tup (pa_cons (pe_callB (call_isP hp hz hf) (by rfl) T.isinstance (by decide +kernel) (pa_cons (pv 0) (pa_cons (pe_glob (v := .ref (C 6)) (by rfl) M.InvalidEntry rfl) pa_nil))) (pa_cons (pe_callB (call_isP hp hz hf) (by rfl) T.isinstance (by decide +kernel) (pa_cons (pv 0) (pa_cons (pe_glob (v := .ref (C 7)) (by rfl) M.InvalidPower rfl) pa_nil))) pa_nil))) (pg_tupH hc (pgs_cons (pg_sub (pv 1) pe_str (set_dict hu)) (pgs_cons (pg_sub (pv 1) pe_str (set_dict hu)) pgs_nil)) (by rfl) (by rfl)))
        (pss_cons (ps_asg (pe_tup (pa_cons (pe_callB (call_isP hp hz hf) (by rfl) T.isinstance (by decide +kernel) (pa_cons (pv 0) (pa_cons (pe_glob (v := .ref (C 8)) (by rfl) M.InvalidCount rfl) pa_nil))) (pa_cons (pe_callB (call_isP hp hz hf) (by rfl) T.isinstance (by decide +kernel) (pa_cons (pv 0) (pa_cons (pe_glob (v := .ref (C 9)) (by rfl) M.InvalidTail rfl) pa_nil))) pa_nil))) (pg_tupH hc (pgs_cons (pg_sub (pv 1) pe_str (set_dict hu)) (pgs_cons (pg_sub (pv 1) pe_str (set_dict hu)) pgs_nil)) (by rfl) (by rfl)))
        (pss_cons (ps_asg (pe_tup (pa_cons (pe_callB (call_isP hp hz hf) (by rfl) T.isinstance (by decide +kernel) (pa_cons (pv 0) (pa_cons (pe_glob (v := .ref (C 10)) (by rfl) M.InvalidName rfl) pa_nil))) (pa_cons (pe_callB (call_isP hp hz hf) (by rfl) T.isinstance (by decide +kernel) (pa_cons (pv 0) (pa_cons (pe_glob (v := .ref (C 11)) (by rfl) M.InvalidWish rfl) pa_nil))) pa_nil))) (pg_tupH hc (pgs_cons (pg_sub (pv 1) pe_str (set_dict hu)) (pgs_cons (pg_sub (pv 1) pe_str (set_dict hu)) pgs_nil)) (by rfl) (by rfl)))
        (pss_cons (ps_asg (pe_tup (pa_cons (pe_callB (call_isP hp hz hf) (by rfl) T.isinstance (by decide +kernel) (pa_cons (pv 0) (pa_cons (pe_glob (v := .ref (C 12)) (by rfl) M.InvalidIndex rfl) pa_nil))) (pa_cons (pe_callB (call_isP hp hz hf) (by rfl) T.isinstance (by decide +kernel) (pa_cons (pv 0) (pa_cons (pe_glob (v := .ref (C 13)) (by rfl) M.NotAProgram rfl) pa_nil))) pa_nil))) (pg_tupH hc (pgs_cons (pg_sub (pv 1) pe_str (set_dict hu)) (pgs_cons (pg_sub (pv 1) pe_str (set_dict hu)) pgs_nil)) (by rfl) (by rfl)))
        (pss_cons (ps_asg (pe_tup (pa_cons (pe_callB (call_isP hp hz hf) (by rfl) T.isinstance (by decide +kernel) (pa_cons (pv 0) (pa_cons (pe_glob (v := .ref (C 14)) (by rfl) M.NotAnAction rfl) pa_nil))) (pa_cons (pe_callB (call_isP hp hz hf) (by rfl) T.isinstance (by decide +kernel) (pa_cons (pv 0) (pa_cons (pe_glob (v := .ref (C 15)) (by rfl) M.InvalidDeeds rfl) pa_nil))) pa_nil))) (pg_tupH hc (pgs_cons (pg_sub (pv 1) pe_str (set_dict hu)) (pgs_cons (pg_sub (pv 1) pe_str (set_dict hu)) pgs_nil)) (by rfl) (by rfl)))
        (pss_cons (ps_asg (pe_tup (pa_cons (pe_callB (call_isP hp hz hf) (by rfl) T.isinstance (by decide +kernel) (pa_cons (pv 0) (pa_cons (pe_glob (v := .ref (C 16)) (by rfl) M.InvalidNests rfl) pa_nil))) (pa_cons (pe_callB (call_isP hp hz hf) (by rfl) T.isinstance (by decide +kernel) (pa_cons (pv 0) (pa_cons (pe_glob (v := .ref (C 17)) (by rfl) M.InvalidListed rfl) pa_nil))) pa_nil))) (pg_tupH hc (pgs_cons (pg_sub (pv 1) pe_str (set_dict hu)) (pgs_cons (pg_sub (pv 1) pe_str (set_dict hu)) pgs_nil)) (by rfl) (by rfl)))
        (pss_cons (ps_asg (pe_tup (pa_cons (pe_callB (call_isP hp hz hf) (by rfl) T.isinstance (by decide +kernel) (pa_cons (pv 0) (pa_cons (pe_glob (v := .ref (C 18)) (by rfl) M.InvalidChanges rfl) pa_nil))) (pa_cons (pe_callB (call_isP hp hz hf) (by rfl) T.isinstance (by decide +kernel) (pa_cons (pv 0) (pa_cons (pe_glob (v := .ref (C 19)) (by rfl) M.InvalidPrograms rfl) pa_nil))) pa_nil))) (pg_tupH hc (pgs_cons (pg_sub (pv 1) pe_str (set_dict hu)) (pgs_cons (pg_sub (pv 1) pe_str (set_dict hu)) pgs_nil)) (by rfl) (by rfl)))
        (pss_cons (ps_set (i := 2) sc__law_kind_of_error.nd rfl (by first | exact .inl rfl | exact .inr rfl) (pe_disp (pps_cons pe_str (pe_callB (call_isP hp hz hf) (by rfl) T.isinstance (by decide +kernel) (pa_cons (pv 0) (pa_cons (pe_glob (v := .ref (C 20)) (by rfl) M.UnknownName rfl) pa_nil))) (pps_cons pe_str (pe_callB (call_isP hp hz hf) (by rfl) T.isinstance (by decide +kernel) (pa_cons (pv 0) (pa_cons (pe_glob (v := .ref (C 21)) (by rfl) M.InUse rfl) pa_nil))) pps_nil)) (by rfl) (by rfl) (fun z => by cases z) (by decide)))
        (pss_cons (ps_set (i := 3) sc__law_kind_of_error.nd rfl (by first | exact .inl rfl | exact .inr rfl) (pe_disp (pps_cons pe_str (pe_callB (call_isP hp hz hf) (by rfl) T.isinstance (by decide +kernel) (pa_cons (pv 0) (pa_cons (pe_glob (v := .ref (C 22)) (by rfl) M.Falls rfl) pa_nil))) (pps_cons pe_str (pe_callB (call_isP hp hz hf) (by rfl) T.isinstance (by decide +kernel) (pa_cons (pv 0) (pa_cons (pe_glob (v := .ref (C 23)) (by rfl) M.NotOneToOne rfl) pa_nil))) pps_nil)) (by rfl) (by rfl) (fun z => by cases z) (by decide)))
        (pss_cons (ps_asg (pe_tup (pa_cons (pe_callB (call_isP hp hz hf) (by rfl) T.isinstance (by decide +kernel) (pa_cons (pv 0) (pa_cons (pe_glob (v := .ref (C 24)) (by rfl) M.NothingToUndo rfl) pa_nil))) (pa_cons (pe_callB (call_isP hp hz hf) (by rfl) T.isinstance (by decide +kernel) (pa_cons (pv 0) (pa_cons (pe_glob (v := .ref (C 25)) (by rfl) M.Broken rfl) pa_nil))) pa_nil))) (pg_tupH hc (pgs_cons (pg_sub (pv 3) pe_str (set_dict hu)) (pgs_cons (pg_sub (pv 3) pe_str (set_dict hu)) pgs_nil)) (by rfl) (by rfl)))
        (pss_cons (ps_asg (pe_tup (pa_cons (pe_lst pa_nil) (pa_cons (pe_lst (pa_cons (pv 1) (pa_cons (pv 2) (pa_cons (pv 3) pa_nil)))) pa_nil))) (pg_tupH hc (pgs_cons (pg_name (i := 4) sc__law_kind_of_error.nd rfl (by first | exact .inl rfl | exact .inr rfl)) (pgs_cons (pg_name (i := 5) sc__law_kind_of_error.nd rfl (by first | exact .inl rfl | exact .inr rfl)) pgs_nil)) (by rfl) (by rfl)))
        (pss_cons (ps_forH PassesOwn.never hc (pi_range1H (by rfl) T.range (pa_cons pe_int pa_nil)) (pg_name (i := 6) sc__law_kind_of_error.nd rfl (by first | exact .inl rfl | exact .inr rfl))
        (pss_one (ps_set (i := 4) sc__law_kind_of_error.nd rfl (by first | exact .inl rfl | exact .inr rfl) (pe_op op_cat (pv 4) (pe_lock (pe_lcH (own := [("_law_word", 7)]) (g := gName 7) hc sc__law_kind_of_error.nd (pi_keysH (pe_ix ix_list (pv 5) (pv 6) (fun _ _ => rfl))) (blkOk_by (own := [("_law_word", 7)]) (N := ["_law_e", "_law_values", "_law_names", "_law_answers", "_law_met", "_law_groups", "_law_k", "_law_word", "_law_bases", "_law_pythons"]) (sc := defScope s__law_kind_of_error) (by decide +kernel))
            (fun _ _ _ _ _ => (pg_name (i := 7) sc__law_kind_of_error.nd rfl (by first | exact .inl rfl | exact .inr rfl))) (fun _ _ _ _ _ => (pts_one (pt_val (pe_dget hu (show PE _ _ (tOp (rIxL K) (tVar 5) (tVar 6)) from (pe_ix ix_list (pv 5) (pv 6) (fun _ _ => rfl))) (pv 7) (fun _ _ => rfl))))) (fun _ _ _ _ _ => (pe_tup (pa_cons (pv 7) (pa_cons (pv 6) pa_nil))))))))))
        (pss_cons (ps_set (i := 8) sc__law_kind_of_error.nd rfl (by first | exact .inl rfl | exact .inr rfl) (pe_lst (pa_cons (pe_callB (call_isP hp hz hf) (by rfl) T.isinstance (by decide +kernel) (pa_cons (pv 0) (pa_cons (pe_glob (v := .ref (C 26)) (by rfl) M.WrongValue rfl) pa_nil))) (pa_cons (pe_callB (call_isP hp hz hf) (by rfl) T.isinstance (by decide +kernel) (pa_cons (pv 0) (pa_cons (pe_glob (v := .ref (C 27)) (by rfl) M.WrongName rfl) pa_nil))) (pa_cons (pe_callB (call_isP hp hz hf) (by rfl) T.isinstance (by decide +kernel) (pa_cons (pv 0) (pa_cons (pe_glob (v := .ref (C 28)) (by rfl) M.NoAnswer rfl) pa_nil))) pa_nil)))))
        (pss_cons (ps_set (i := 9) sc__law_kind_of_error.nd rfl (by first | exact .inl rfl | exact .inr rfl) (pe_lst (pa_cons (pe_callB (call_isP hp hz hf) (by rfl) T.isinstance (by decide +kernel) (pa_cons (pv 0) (pa_cons (pe_bltn (v := .ty "ValueError") (by rfl) M.ValueError (by decide +kernel) rfl) pa_nil))) (pa_cons (pe_callB (call_isP hp hz hf) (by rfl) T.isinstance (by decide +kernel) (pa_cons (pv 0) (pa_cons (pe_bltn (v := .ty "LookupError") (by rfl) M.LookupError (by decide +kernel) rfl) pa_nil))) (pa_cons (pe_callB (call_isP hp hz hf) (by rfl) T.isinstance (by decide +kernel) (pa_cons (pv 0) (pa_cons (pe_bltn (v := .ty "ArithmeticError") (by rfl) M.ArithmeticError (by decide +kernel) rfl) pa_nil))) pa_nil)))))
        (pss_cons (ps_if (PW.pt (pw_or (pt_cmpR op_ne (pe_callB call_len_seq (by rfl) T.len PySem.boot_len (pa_cons (pv 4) pa_nil)) pe_int (nomark _)) (pw_or (pt_cmpR (op_neD hu64) (pv 8) (pe_lcH (own := [("_law_k", 6)]) (g := gName 6) hc sc__law_kind_of_error.nd (pi_range1H (by rfl) T.range (pa_cons pe_int pa_nil)) (blkOk_by (own := [("_law_k", 6)]) (N := ["_law_e", "_law_values", "_law_names", "_law_answers", "_law_met", "_law_groups", "_law_k", "_law_word", "_law_bases", "_law_pythons"]) (sc := defScope s__law_kind_of_error) (by decide +kernel))
            (fun _ _ _ _ _ => (pg_name (i := 6) sc__law_kind_of_error.nd rfl (by first | exact .inl rfl | exact .inr rfl))) (fun _ _ _ _ _ => pts_nil) (fun _ _ _ _ _ => (show PE _ _ (tOp rEq (tVar 6) (tOp (L2.rIxT K) (tOp (rIxL K) (tVar 4) (tC (V.int 0))) (tC (V.int 1)))) from (pe_cmpR op_eq (pv 6) (pe_ix ix_tup (pe_ix ix_list (pv 4) pe_int (fun _ _ => rfl)) pe_int (fun _ _ => rfl)) (nomark _))))) (nomark _)) (pw_or1 (pt_cmpR (op_neD hu64) (pv 9) (pv 8) (nomark _))))))
        (pss_one (ps_ret pe_str))
        pss_nil)
        (pss_one (ps_ret (pe_ix ix_tup (pe_ix ix_list (pv 4) pe_int (fun _ _ => rfl)) pe_int (fun _ _ => rfl)))))))))))))))))))))), ?_⟩
    refine fun a1 na1' => ?_
    have na1 := none_of (Same.refl _) na1'
    have u1 : Same H (upd H a1 (.dK [])) := same_put (Same.refl _) na1
    refine ⟨_, rfl, D, dd, fs, _, _, _, rfl, EX, rfl, u1 _ _ hd, rfl, (fun _ r => r), kit 0 (by decide), _, rfl, D, dd, fs, _, _, _, rfl, EX, rfl, u1 _ _ hd, rfl, (fun _ r => r), kit 1 (by decide), upd_same, [(.inr "loop", .bl (ansB t 0)), (.inr "text", .bl (ansB t 1))], rfl, (by show 2 ≤ 15; decide), ?_⟩
    have s1 := same_put (o := .dK (mergeK [] [(.inr "loop", .bl (ansB t 0)), (.inr "text", .bl (ansB t 1))])) u1 na1
    have ea11 : (upd (upd H a1 (.dK [])) a1 (.dK (mergeK [] [(.inr "loop", .bl (ansB t 0)), (.inr "text", .bl (ansB t 1))]))) a1 = some (.dK [(.inr "loop", .bl (ansB t 0)), (.inr "text", .bl (ansB t 1))]) := upd_same
    generalize upd (upd H a1 (.dK [])) a1 (.dK (mergeK [] [(.inr "loop", .bl (ansB t 0)), (.inr "text", .bl (ansB t 1))])) = H1 at s1  ea11 ⊢
    refine ⟨_, rfl, D, dd, fs, _, _, _, rfl, EX, rfl, s1 _ _ hd, rfl, (fun _ r => r), kit 2 (by decide), _, rfl, D, dd, fs, _, _, _, rfl, EX, rfl, s1 _ _ hd, rfl, (fun _ r => r), kit 3 (by decide), (by show 2 ≤ sizeLine; decide), fun b2 nb2 => ?_⟩
    have ma12 : a1 ≠ b2 := fun z => by rw [← z, ea11] at nb2; cases nb2
    have v2 := same_put (o := (.tup [V.bl (ansB t 2), V.bl (ansB t 3)])) s1 (none_of s1 nb2)
    have fa12 := (upd_ne (o := (.tup [V.bl (ansB t 2), V.bl (ansB t 3)])) ma12).trans ea11
    refine ⟨b2, _, rfl, SqT.of upd_same, rfl, _, _, rfl, _, rfl, a1, _, rfl, DPut.k (k := .inr "size") fa12 (by show 2 < sizeLine; decide), _, _, rfl, _, rfl, a1, _, rfl, DPut.k (k := .inr "cell") upd_same (by show 3 < sizeLine; decide), rfl, ?_⟩
    have s2 := same_put (o := (.dK (putK (putK [(.inr "loop", .bl (ansB t 0)), (.inr "text", .bl (ansB t 1))] (.inr "size") (V.bl (ansB t 2))) (.inr "cell") (V.bl (ansB t 3))))) (same_put (o := (.dK (putK [(.inr "loop", .bl (ansB t 0)), (.inr "text", .bl (ansB t 1))] (.inr "size") (V.bl (ansB t 2))))) v2 na1) na1
    have ea12 : (upd (upd (upd H1 b2 (.tup [V.bl (ansB t 2), V.bl (ansB t 3)])) a1 (.dK (putK [(.inr "loop", .bl (ansB t 0)), (.inr "text", .bl (ansB t 1))] (.inr "size") (V.bl (ansB t 2))))) a1 (.dK (putK (putK [(.inr "loop", .bl (ansB t 0)), (.inr "text", .bl (ansB t 1))] (.inr "size") (V.bl (ansB t 2))) (.inr "cell") (V.bl (ansB t 3))))) a1 = some (.dK [(.inr "loop", .bl (ansB t 0)), (.inr "text", .bl (ansB t 1)), (.inr "size", .bl (ansB t 2)), (.inr "cell", .bl (ansB t 3))]) := upd_same
    generalize upd (upd (upd H1 b2 (.tup [V.bl (ansB t 2), V.bl (ansB t 3)])) a1 (.dK (putK [(.inr "loop", .bl (ansB t 0)), (.inr "text", .bl (ansB t 1))] (.inr "size") (V.bl (ansB t 2))))) a1 (.dK (putK (putK [(.inr "loop", .bl (ansB t 0)), (.inr "text", .bl (ansB t 1))] (.inr "size") (V.bl (ansB t 2))) (.inr "cell") (V.bl (ansB t 3)))) = H2 at s2 ea12 ⊢
    refine ⟨_, rfl, D, dd, fs, _, _, _, rfl, EX, rfl, s2 _ _ hd, rfl, (fun _ r => r), kit 4 (by decide), _, rfl, D, dd, fs, _, _, _, rfl, EX, rfl, s2 _ _ hd, rfl, (fun _ r => r), kit 5 (by decide), (by show 2 ≤ sizeLine; decide), fun b3 nb3 => ?_⟩
    have ma13 : a1 ≠ b3 := fun z => by rw [← z, ea12] at nb3; cases nb3
    have v3 := same_put (o := (.tup [V.bl (ansB t 4), V.bl (ansB t 5)])) s2 (none_of s2 nb3)
    have fa13 := (upd_ne (o := (.tup [V.bl (ansB t 4), V.bl (ansB t 5)])) ma13).trans ea12
    refine ⟨b3, _, rfl, SqT.of upd_same, rfl, _, _, rfl, _, rfl, a1, _, rfl, DPut.k (k := .inr "kind") fa13 (by show 4 < sizeLine; decide), _, _, rfl, _, rfl, a1, _, rfl, DPut.k (k := .inr "table") upd_same (by show 5 < sizeLine; decide), rfl, ?_⟩
    have s3 := same_put (o := (.dK (putK (putK [(.inr "loop", .bl (ansB t 0)), (.inr "text", .bl (ansB t 1)), (.inr "size", .bl (ansB t 2)), (.inr "cell", .bl (ansB t 3))] (.inr "kind") (V.bl (ansB t 4))) (.inr "table") (V.bl (ansB t 5))))) (same_put (o := (.dK (putK [(.inr "loop", .bl (ansB t 0)), (.inr "text", .bl (ansB t 1)), (.inr "size", .bl (ansB t 2)), (.inr "cell", .bl (ansB t 3))] (.inr "kind") (V.bl (ansB t 4))))) v3 na1) na1
    have ea13 : (upd (upd (upd H2 b3 (.tup [V.bl (ansB t 4), V.bl (ansB t 5)])) a1 (.dK (putK [(.inr "loop", .bl (ansB t 0)), (.inr "text", .bl (ansB t 1)), (.inr "size", .bl (ansB t 2)), (.inr "cell", .bl (ansB t 3))] (.inr "kind") (V.bl (ansB t 4))))) a1 (.dK (putK (putK [(.inr "loop", .bl (ansB t 0)), (.inr "text", .bl (ansB t 1)), (.inr "size", .bl (ansB t 2)), (.inr "cell", .bl (ansB t 3))] (.inr "kind") (V.bl (ansB t 4))) (.inr "table") (V.bl (ansB t 5))))) a1 = some (.dK [(.inr "loop", .bl (ansB t 0)), (.inr "text", .bl (ansB t 1)), (.inr "size", .bl (ansB t 2)), (.inr "cell", .bl (ansB t 3)), (.inr "kind", .bl (ansB t 4)), (.inr "table", .bl (ansB t 5))]) := upd_same
    generalize upd (upd (upd H2 b3 (.tup [V.bl (ansB t 4), V.bl (ansB t 5)])) a1 (.dK (putK [(.inr "loop", .bl (ansB t 0)), (.inr "text", .bl (ansB t 1)), (.inr "size", .bl (ansB t 2)), (.inr "cell", .bl (ansB t 3))] (.inr "kind") (V.bl (ansB t 4))))) a1 (.dK (putK (putK [(.inr "loop", .bl (ansB t 0)), (.inr "text", .bl (ansB t 1)), (.inr "size", .bl (ansB t 2)), (.inr "cell", .bl (ansB t 3))] (.inr "kind") (V.bl (ansB t 4))) (.inr "table") (V.bl (ansB t 5)))) = H3 at s3 ea13 ⊢
    refine ⟨_, rfl, D, dd, fs, _, _, _, rfl, EX, rfl, s3 _ _ hd, rfl, (fun _ r => r), kit 6 (by decide), _, rfl, D, dd, fs, _, _, _, rfl, EX, rfl, s3 _ _ hd, rfl, (fun _ r => r), kit 7 (by decide), (by show 2 ≤ sizeLine; decide), fun b4 nb4 => ?_⟩
    have ma14 : a1 ≠ b4 := fun z => by rw [← z, ea13] at nb4; cases nb4
    have v4 := same_put (o := (.tup [V.bl (ansB t 6), V.bl (ansB t 7)])) s3 (none_of s3 nb4)
    have fa14 := (upd_ne (o := (.tup [V.bl (ansB t 6), V.bl (ansB t 7)])) ma14).trans ea13
    refine ⟨b4, _, rfl, SqT.of upd_same, rfl, _, _, rfl, _, rfl, a1, _, rfl, DPut.k (k := .inr "entry") fa14 (by show 6 < sizeLine; decide), _, _, rfl, _, rfl, a1, _, rfl, DPut.k (k := .inr "power") upd_same (by show 7 < sizeLine; decide), rfl, ?_⟩
    have s4 := same_put (o := (.dK (putK (putK [(.inr "loop", .bl (ansB t 0)), (.inr "text", .bl (ansB t 1)), (.inr "size", .bl (ansB t 2)), (.inr "cell", .bl (ansB t 3)), (.inr "kind", .bl (ansB t 4)), (.inr "table", .bl (ansB t 5))] (.inr "entry") (V.bl (ansB t 6))) (.inr "power") (V.bl (ansB t 7))))) (same_put (o := (.dK (putK [(.inr "loop", .bl (ansB t 0)), (.inr "text", .bl (ansB t 1)), (.inr "size", .bl (ansB t 2)), (.inr "cell", .bl (ansB t 3)), (.inr "kind", .bl (ansB t 4)), (.inr "table", .bl (ansB t 5))] (.inr "entry") (V.bl (ansB t 6))))) v4 na1) na1
    have ea14 : (upd (upd (upd H3 b4 (.tup [V.bl (ansB t 6), V.bl (ansB t 7)])) a1 (.dK (putK [(.inr "loop", .bl (ansB t 0)), (.inr "text", .bl (ansB t 1)), (.inr "size", .bl (ansB t 2)), (.inr "cell", .bl (ansB t 3)), (.inr "kind", .bl (ansB t 4)), (.inr "table", .bl (ansB t 5))] (.inr "entry") (V.bl (ansB t 6))))) a1 (.dK (putK (putK [(.inr "loop", .bl (ansB t 0)), (.inr "text", .bl (ansB t 1)), (.inr "size", .bl (ansB t 2)), (.inr "cell", .bl (ansB t 3)), (.inr "kind", .bl (ansB t 4)), (.inr "table", .bl (ansB t 5))] (.inr "entry") (V.bl (ansB t 6))) (.inr "power") (V.bl (ansB t 7))))) a1 = some (.dK [(.inr "loop", .bl (ansB t 0)), (.inr "text", .bl (ansB t 1)), (.inr "size", .bl (ansB t 2)), (.inr "cell", .bl (ansB t 3)), (.inr "kind", .bl (ansB t 4)), (.inr "table", .bl (ansB t 5)), (.inr "entry", .bl (ansB t 6)), (.inr "power", .bl (ansB t 7))]) := upd_same
    generalize upd (upd (upd H3 b4 (.tup [V.bl (ansB t 6), V.bl (ansB t 7)])) a1 (.dK (putK [(.inr "loop", .bl (ansB t 0)), (.inr "text", .bl (ansB t 1)), (.inr "size", .bl (ansB t 2)), (.inr "cell", .bl (ansB t 3)), (.inr "kind", .bl (ansB t 4)), (.inr "table", .bl (ansB t 5))] (.inr "entry") (V.bl (ansB t 6))))) a1 (.dK (putK (putK [(.inr "loop", .bl (ansB t 0)), (.inr "text", .bl (ansB t 1)), (.inr "size", .bl (ansB t 2)), (.inr "cell", .bl (ansB t 3)), (.inr "kind", .bl (ansB t 4)), (.inr "table", .bl (ansB t 5))] (.inr "entry") (V.bl (ansB t 6))) (.inr "power") (V.bl (ansB t 7)))) = H4 at s4 ea14 ⊢
    refine ⟨_, rfl, D, dd, fs, _, _, _, rfl, EX, rfl, s4 _ _ hd, rfl, (fun _ r => r), kit 8 (by decide), _, rfl, D, dd, fs, _, _, _, rfl, EX, rfl, s4 _ _ hd, rfl, (fun _ r => r), kit 9 (by decide), (by show 2 ≤ sizeLine; decide), fun b5 nb5 => ?_⟩
    have ma15 : a1 ≠ b5 := fun z => by rw [← z, ea14] at nb5; cases nb5
    have v5 := same_put (o := (.tup [V.bl (ansB t 8), V.bl (ansB t 9)])) s4 (none_of s4 nb5)
    have fa15 := (upd_ne (o := (.tup [V.bl (ansB t 8), V.bl (ansB t 9)])) ma15).trans ea14
    refine ⟨b5, _, rfl, SqT.of upd_same, rfl, _, _, rfl, _, rfl, a1, _, rfl, DPut.k (k := .inr "count") fa15 (by show 8 < sizeLine; decide), _, _, rfl, _, rfl, a1, _, rfl, DPut.k (k := .inr "tail") upd_same (by show 9 < sizeLine; decide), rfl, ?_⟩
    have s5 := same_put (o := (.dK (putK (putK [(.inr "loop", .bl (ansB t 0)), (.inr "text", .bl (ansB t 1)), (.inr "size", .bl (ansB t 2)), (.inr "cell", .bl (ansB t 3)), (.inr "kind", .bl (ansB t 4)), (.inr "table", .bl (ansB t 5)), (.inr "entry", .bl (ansB t 6)), (.inr "power", .bl (ansB t 7))] (.inr "count") (V.bl (ansB t 8))) (.inr "tail") (V.bl (ansB t 9))))) (same_put (o := (.dK (putK [(.inr "loop", .bl (ansB t 0)), (.inr "text", .bl (ansB t 1)), (.inr "size", .bl (ansB t 2)), (.inr "cell", .bl (ansB t 3)), (.inr "kind", .bl (ansB t 4)), (.inr "table", .bl (ansB t 5)), (.inr "entry", .bl (ansB t 6)), (.inr "power", .bl (ansB t 7))] (.inr "count") (V.bl (ansB t 8))))) v5 na1) na1
    have ea15 : (upd (upd (upd H4 b5 (.tup [V.bl (ansB t 8), V.bl (ansB t 9)])) a1 (.dK (putK [(.inr "loop", .bl (ansB t 0)), (.inr "text", .bl (ansB t 1)), (.inr "size", .bl (ansB t 2)), (.inr "cell", .bl (ansB t 3)), (.inr "kind", .bl (ansB t 4)), (.inr "table", .bl (ansB t 5)), (.inr "entry", .bl (ansB t 6)), (.inr "power", .bl (ansB t 7))] (.inr "count") (V.bl (ansB t 8))))) a1 (.dK (putK (putK [(.inr "loop", .bl (ansB t 0)), (.inr "text", .bl (ansB t 1)), (.inr "size", .bl (ansB t 2)), (.inr "cell", .bl (ansB t 3)), (.inr "kind", .bl (ansB t 4)), (.inr "table", .bl (ansB t 5)), (.inr "entry", .bl (ansB t 6)), (.inr "power", .bl (ansB t 7))] (.inr "count") (V.bl (ansB t 8))) (.inr "tail") (V.bl (ansB t 9))))) a1 = some (.dK [(.inr "loop", .bl (ansB t 0)), (.inr "text", .bl (ansB t 1)), (.inr "size", .bl (ansB t 2)), (.inr "cell", .bl (ansB t 3)), (.inr "kind", .bl (ansB t 4)), (.inr "table", .bl (ansB t 5)), (.inr "entry", .bl (ansB t 6)), (.inr "power", .bl (ansB t 7)), (.inr "count", .bl (ansB t 8)), (.inr "tail", .bl (ansB t 9))]) := upd_same
    generalize upd (upd (upd H4 b5 (.tup [V.bl (ansB t 8), V.bl (ansB t 9)])) a1 (.dK (putK [(.inr "loop", .bl (ansB t 0)), (.inr "text", .bl (ansB t 1)), (.inr "size", .bl (ansB t 2)), (.inr "cell", .bl (ansB t 3)), (.inr "kind", .bl (ansB t 4)), (.inr "table", .bl (ansB t 5)), (.inr "entry", .bl (ansB t 6)), (.inr "power", .bl (ansB t 7))] (.inr "count") (V.bl (ansB t 8))))) a1 (.dK (putK (putK [(.inr "loop", .bl (ansB t 0)), (.inr "text", .bl (ansB t 1)), (.inr "size", .bl (ansB t 2)), (.inr "cell", .bl (ansB t 3)), (.inr "kind", .bl (ansB t 4)), (.inr "table", .bl (ansB t 5)), (.inr "entry", .bl (ansB t 6)), (.inr "power", .bl (ansB t 7))] (.inr "count") (V.bl (ansB t 8))) (.inr "tail") (V.bl (ansB t 9)))) = H5 at s5 ea15 ⊢
    refine ⟨_, rfl, D, dd, fs, _, _, _, rfl, EX, rfl, s5 _ _ hd, rfl, (fun _ r => r), kit 10 (by decide), _, rfl, D, dd, fs, _, _, _, rfl, EX, rfl, s5 _ _ hd, rfl, (fun _ r => r), kit 11 (by decide), (by show 2 ≤ sizeLine; decide), fun b6 nb6 => ?_⟩
    have ma16 : a1 ≠ b6 := fun z => by rw [← z, ea15] at nb6; cases nb6
    have v6 := same_put (o := (.tup [V.bl (ansB t 10), V.bl (ansB t 11)])) s5 (none_of s5 nb6)
    have fa16 := (upd_ne (o := (.tup [V.bl (ansB t 10), V.bl (ansB t 11)])) ma16).trans ea15
    refine ⟨b6, _, rfl, SqT.of upd_same, rfl, _, _, rfl, _, rfl, a1, _, rfl, DPut.k (k := .inr "name") fa16 (by show 10 < sizeLine; decide), _, _, rfl, _, rfl, a1, _, rfl, DPut.k (k := .inr "wish") upd_same (by show 11 < sizeLine; decide), rfl, ?_⟩
    have s6 := same_put (o := (.dK (putK (putK [(.inr "loop", .bl (ansB t 0)), (.inr "text", .bl (ansB t 1)), (.inr "size", .bl (ansB t 2)), (.inr "cell", .bl (ansB t 3)), (.inr "kind", .bl (ansB t 4)), (.inr "table", .bl (ansB t 5)), (.inr "entry", .bl (ansB t 6)), (.inr "power", .bl (ansB t 7)), (.inr "count", .bl (ansB t 8)), (.inr "tail", .bl (ansB t 9))] (.inr "name") (V.bl (ansB t 10))) (.inr "wish") (V.bl (ansB t 11))))) (same_put (o := (.dK (putK [(.inr "loop", .bl (ansB t 0)), (.inr "text", .bl (ansB t 1)), (.inr "size", .bl (ansB t 2)), (.inr "cell", .bl (ansB t 3)), (.inr "kind", .bl (ansB t 4)), (.inr "table", .bl (ansB t 5)), (.inr "entry", .bl (ansB t 6)), (.inr "power", .bl (ansB t 7)), (.inr "count", .bl (ansB t 8)), (.inr "tail", .bl (ansB t 9))] (.inr "name") (V.bl (ansB t 10))))) v6 na1) na1
    have ea16 : (upd (upd (upd H5 b6 (.tup [V.bl (ansB t 10), V.bl (ansB t 11)])) a1 (.dK (putK [(.inr "loop", .bl (ansB t 0)), (.inr "text", .bl (ansB t 1)), (.inr "size", .bl (ansB t 2)), (.inr "cell", .bl (ansB t 3)), (.inr "kind", .bl (ansB t 4)), (.inr "table", .bl (ansB t 5)), (.inr "entry", .bl (ansB t 6)), (.inr "power", .bl (ansB t 7)), (.inr "count", .bl (ansB t 8)), (.inr "tail", .bl (ansB t 9))] (.inr "name") (V.bl (ansB t 10))))) a1 (.dK (putK (putK [(.inr "loop", .bl (ansB t 0)), (.inr "text", .bl (ansB t 1)), (.inr "size", .bl (ansB t 2)), (.inr "cell", .bl (ansB t 3)), (.inr "kind", .bl (ansB t 4)), (.inr "table", .bl (ansB t 5)), (.inr "entry", .bl (ansB t 6)), (.inr "power", .bl (ansB t 7)), (.inr "count", .bl (ansB t 8)), (.inr "tail", .bl (ansB t 9))] (.inr "name") (V.bl (ansB t 10))) (.inr "wish") (V.bl (ansB t 11))))) a1 = some (.dK [(.inr "loop", .bl (ansB t 0)), (.inr "text", .bl (ansB t 1)), (.inr "size", .bl (ansB t 2)), (.inr "cell", .bl (ansB t 3)), (.inr "kind", .bl (ansB t 4)), (.inr "table", .bl (ansB t 5)), (.inr "entry", .bl (ansB t 6)), (.inr "power", .bl (ansB t 7)), (.inr "count", .bl (ansB t 8)), (.inr "tail", .bl (ansB t 9)), (.inr "name", .bl (ansB t 10)), (.inr "wish", .bl (ansB t 11))]) := upd_same
    generalize upd (upd (upd H5 b6 (.tup [V.bl (ansB t 10), V.bl (ansB t 11)])) a1 (.dK (putK [(.inr "loop", .bl (ansB t 0)), (.inr "text", .bl (ansB t 1)), (.inr "size", .bl (ansB t 2)), (.inr "cell", .bl (ansB t 3)), (.inr "kind", .bl (ansB t 4)), (.inr "table", .bl (ansB t 5)), (.inr "entry", .bl (ansB t 6)), (.inr "power", .bl (ansB t 7)), (.inr "count", .bl (ansB t 8)), (.inr "tail", .bl (ansB t 9))] (.inr "name") (V.bl (ansB t 10))))) a1 (.dK (putK (putK [(.inr "loop", .bl (ansB t 0)), (.inr "text", .bl (ansB t 1)), (.inr "size", .bl (ansB t 2)), (.inr "cell", .bl (ansB t 3)), (.inr "kind", .bl (ansB t 4)), (.inr "table", .bl (ansB t 5)), (.inr "entry", .bl (ansB t 6)), (.inr "power", .bl (ansB t 7)), (.inr "count", .bl (ansB t 8)), (.inr "tail", .bl (ansB t 9))] (.inr "name") (V.bl (ansB t 10))) (.inr "wish") (V.bl (ansB t 11)))) = H6 at s6 ea16 ⊢
    refine ⟨_, rfl, D, dd, fs, _, _, _, rfl, EX, rfl, s6 _ _ hd, rfl, (fun _ r => r), kit 12 (by decide), _, rfl, D, dd, fs, _, _, _, rfl, EX, rfl, s6 _ _ hd, rfl, (fun _ r => r), kit 13 (by decide), (by show 2 ≤ sizeLine; decide), fun b7 nb7 => ?_⟩
    have ma17 : a1 ≠ b7 := fun z => by rw [← z, ea16] at nb7; cases nb7
    have v7 := same_put (o := (.tup [V.bl (ansB t 12), V.bl (ansB t 13)])) s6 (none_of s6 nb7)
    have fa17 := (upd_ne (o := (.tup [V.bl (ansB t 12), V.bl (ansB t 13)])) ma17).trans ea16
    refine ⟨b7, _, rfl, SqT.of upd_same, rfl, _, _, rfl, _, rfl, a1, _, rfl, DPut.k (k := .inr "index") fa17 (by show 12 < sizeLine; decide), _, _, rfl, _, rfl, a1, _, rfl, DPut.k (k := .inr "program") upd_same (by show 13 < sizeLine; decide), rfl, ?_⟩
    have s7 := same_put (o := (.dK (putK (putK [(.inr "loop", .bl (ansB t 0)), (.inr "text", .bl (ansB t 1)), (.inr "size", .bl (ansB t 2)), (.inr "cell", .bl (ansB t 3)), (.inr "kind", .bl (ansB t 4)), (.inr "table", .bl (ansB t 5)), (.inr "entry", .bl (ansB t 6)), (.inr "power", .bl (ansB t 7)), (.inr "count", .bl (ansB t 8)), (.inr "tail", .bl (ansB t 9)), (.inr "name", .bl (ansB t 10)), (.inr "wish", .bl (ansB t 11))] (.inr "index") (V.bl (ansB t 12))) (.inr "program") (V.bl (ansB t 13))))) (same_put (o := (.dK (putK [(.inr "loop", .bl (ansB t 0)), (.inr "text", .bl (ansB t 1)), (.inr "size", .bl (ansB t 2)), (.inr "cell", .bl (ansB t 3)), (.inr "kind", .bl (ansB t 4)), (.inr "table", .bl (ansB t 5)), (.inr "entry", .bl (ansB t 6)), (.inr "power", .bl (ansB t 7)), (.inr "count", .bl (ansB t 8)), (.inr "tail", .bl (ansB t 9)), (.inr "name", .bl (ansB t 10)), (.inr "wish", .bl (ansB t 11))] (.inr "index") (V.bl (ansB t 12))))) v7 na1) na1
    have ea17 : (upd (upd (upd H6 b7 (.tup [V.bl (ansB t 12), V.bl (ansB t 13)])) a1 (.dK (putK [(.inr "loop", .bl (ansB t 0)), (.inr "text", .bl (ansB t 1)), (.inr "size", .bl (ansB t 2)), (.inr "cell", .bl (ansB t 3)), (.inr "kind", .bl (ansB t 4)), (.inr "table", .bl (ansB t 5)), (.inr "entry", .bl (ansB t 6)), (.inr "power", .bl (ansB t 7)), (.inr "count", .bl (ansB t 8)), (.inr "tail", .bl (ansB t 9)), (.inr "name", .bl (ansB t 10)), (.inr "wish", .bl (ansB t 11))] (.inr "index") (V.bl (ansB t 12))))) a1 (.dK (putK (putK [(.inr "loop", .bl (ansB t 0)), (.inr "text", .bl (ansB t 1)), (.inr "size", .bl (ansB t 2)), (.inr "cell", .bl (ansB t 3)), (.inr "kind", .bl (ansB t 4)), (.inr "table", .bl (ansB t 5)), (.inr "entry", .bl (ansB t 6)), (.inr "power", .bl (ansB t 7)), (.inr "count", .bl (ansB t 8)), (.inr "tail", .bl (ansB t 9)), (.inr "name", .bl (ansB t 10)), (.inr "wish", .bl (ansB t 11))] (.inr "index") (V.bl (ansB t 12))) (.inr "program") (V.bl (ansB t 13))))) a1 = some (.dK [(.inr "loop", .bl (ansB t 0)), (.inr "text", .bl (ansB t 1)), (.inr "size", .bl (ansB t 2)), (.inr "cell", .bl (ansB t 3)), (.inr "kind", .bl (ansB t 4)), (.inr "table", .bl (ansB t 5)), (.inr "entry", .bl (ansB t 6)), (.inr "power", .bl (ansB t 7)), (.inr "count", .bl (ansB t 8)), (.inr "tail", .bl (ansB t 9)), (.inr "name", .bl (ansB t 10)), (.inr "wish", .bl (ansB t 11)), (.inr "index", .bl (ansB t 12)), (.inr "program", .bl (ansB t 13))]) := upd_same
    generalize upd (upd (upd H6 b7 (.tup [V.bl (ansB t 12), V.bl (ansB t 13)])) a1 (.dK (putK [(.inr "loop", .bl (ansB t 0)), (.inr "text", .bl (ansB t 1)), (.inr "size", .bl (ansB t 2)), (.inr "cell", .bl (ansB t 3)), (.inr "kind", .bl (ansB t 4)), (.inr "table", .bl (ansB t 5)), (.inr "entry", .bl (ansB t 6)), (.inr "power", .bl (ansB t 7)), (.inr "count", .bl (ansB t 8)), (.inr "tail", .bl (ansB t 9)), (.inr "name", .bl (ansB t 10)), (.inr "wish", .bl (ansB t 11))] (.inr "index") (V.bl (ansB t 12))))) a1 (.dK (putK (putK [(.inr "loop", .bl (ansB t 0)), (.inr "text", .bl (ansB t 1)), (.inr "size", .bl (ansB t 2)), (.inr "cell", .bl (ansB t 3)), (.inr "kind", .bl (ansB t 4)), (.inr "table", .bl (ansB t 5)), (.inr "entry", .bl (ansB t 6)), (.inr "power", .bl (ansB t 7)), (.inr "count", .bl (ansB t 8)), (.inr "tail", .bl (ansB t 9)), (.inr "name", .bl (ansB t 10)), (.inr "wish", .bl (ansB t 11))] (.inr "index") (V.bl (ansB t 12))) (.inr "program") (V.bl (ansB t 13)))) = H7 at s7 ea17 ⊢
    refine ⟨_, rfl, D, dd, fs, _, _, _, rfl, EX, rfl, s7 _ _ hd, rfl, (fun _ r => r), kit 14 (by decide), _, rfl, D, dd, fs, _, _, _, rfl, EX, rfl, s7 _ _ hd, rfl, (fun _ r => r), kit 15 (by decide), (by show 2 ≤ sizeLine; decide), fun b8 nb8 => ?_⟩
    have ma18 : a1 ≠ b8 := fun z => by rw [← z, ea17] at nb8; cases nb8
    have v8 := same_put (o := (.tup [V.bl (ansB t 14), V.bl (ansB t 15)])) s7 (none_of s7 nb8)
    have fa18 := (upd_ne (o := (.tup [V.bl (ansB t 14), V.bl (ansB t 15)])) ma18).trans ea17
    refine ⟨b8, _, rfl, SqT.of upd_same, rfl, _, _, rfl, _, rfl, a1, _, rfl, DPut.k (k := .inr "action") fa18 (by show 14 < sizeLine; decide), _, _, rfl, _, rfl, a1, _, rfl, DPut.k (k := .inr "deeds") upd_same (by show 15 < sizeLine; decide), rfl, ?_⟩
    have s8 := same_put (o := (.dK (putK (putK [(.inr "loop", .bl (ansB t 0)), (.inr "text", .bl (ansB t 1)), (.inr "size", .bl (ansB t 2)), (.inr "cell", .bl (ansB t 3)), (.inr "kind", .bl (ansB t 4)), (.inr "table", .bl (ansB t 5)), (.inr "entry", .bl (ansB t 6)), (.inr "power", .bl (ansB t 7)), (.inr "count", .bl (ansB t 8)), (.inr "tail", .bl (ansB t 9)), (.inr "name", .bl (ansB t 10)), (.inr "wish", .bl (ansB t 11)), (.inr "index", .bl (ansB t 12)), (.inr "program", .bl (ansB t 13))] (.inr "action") (V.bl (ansB t 14))) (.inr "deeds") (V.bl (ansB t 15))))) (same_put (o := (.dK (putK [(.inr "loop", .bl (ansB t 0)), (.inr "text", .bl (ansB t 1)), (.inr "size", .bl (ansB t 2)), (.inr "cell", .bl (ansB t 3)), (.inr "kind", .bl (ansB t 4)), (.inr "table", .bl (ansB t 5)), (.inr "entry", .bl (ansB t 6)), (.inr "power", .bl (ansB t 7)), (.inr "count", .bl (ansB t 8)), (.inr "tail", .bl (ansB t 9)), (.inr "name", .bl (ansB t 10)), (.inr "wish", .bl (ansB t 11)), (.inr "index", .bl (ansB t 12)), (.inr "program", .bl (ansB t 13))] (.inr "action") (V.bl (ansB t 14))))) v8 na1) na1
    have ea18 : (upd (upd (upd H7 b8 (.tup [V.bl (ansB t 14), V.bl (ansB t 15)])) a1 (.dK (putK [(.inr "loop", .bl (ansB t 0)), (.inr "text", .bl (ansB t 1)), (.inr "size", .bl (ansB t 2)), (.inr "cell", .bl (ansB t 3)), (.inr "kind", .bl (ansB t 4)), (.inr "table", .bl (ansB t 5)), (.inr "entry", .bl (ansB t 6)), (.inr "power", .bl (ansB t 7)), (.inr "count", .bl (ansB t 8)), (.inr "tail", .bl (ansB t 9)), (.inr "name", .bl (ansB t 10)), (.inr "wish", .bl (ansB t 11)), (.inr "index", .bl (ansB t 12)), (.inr "program", .bl (ansB t 13))] (.inr "action") (V.bl (ansB t 14))))) a1 (.dK (putK (putK [(.inr "loop", .bl (ansB t 0)), (.inr "text", .bl (ansB t 1)), (.inr "size", .bl (ansB t 2)), (.inr "cell", .bl (ansB t 3)), (.inr "kind", .bl (ansB t 4)), (.inr "table", .bl (ansB t 5)), (.inr "entry", .bl (ansB t 6)), (.inr "power", .bl (ansB t 7)), (.inr "count", .bl (ansB t 8)), (.inr "tail", .bl (ansB t 9)), (.inr "name", .bl (ansB t 10)), (.inr "wish", .bl (ansB t 11)), (.inr "index", .bl (ansB t 12)), (.inr "program", .bl (ansB t 13))] (.inr "action") (V.bl (ansB t 14))) (.inr "deeds") (V.bl (ansB t 15))))) a1 = some (.dK [(.inr "loop", .bl (ansB t 0)), (.inr "text", .bl (ansB t 1)), (.inr "size", .bl (ansB t 2)), (.inr "cell", .bl (ansB t 3)), (.inr "kind", .bl (ansB t 4)), (.inr "table", .bl (ansB t 5)), (.inr "entry", .bl (ansB t 6)), (.inr "power", .bl (ansB t 7)), (.inr "count", .bl (ansB t 8)), (.inr "tail", .bl (ansB t 9)), (.inr "name", .bl (ansB t 10)), (.inr "wish", .bl (ansB t 11)), (.inr "index", .bl (ansB t 12)), (.inr "program", .bl (ansB t 13)), (.inr "action", .bl (ansB t 14)), (.inr "deeds", .bl (ansB t 15))]) := upd_same
    generalize upd (upd (upd H7 b8 (.tup [V.bl (ansB t 14), V.bl (ansB t 15)])) a1 (.dK (putK [(.inr "loop", .bl (ansB t 0)), (.inr "text", .bl (ansB t 1)), (.inr "size", .bl (ansB t 2)), (.inr "cell", .bl (ansB t 3)), (.inr "kind", .bl (ansB t 4)), (.inr "table", .bl (ansB t 5)), (.inr "entry", .bl (ansB t 6)), (.inr "power", .bl (ansB t 7)), (.inr "count", .bl (ansB t 8)), (.inr "tail", .bl (ansB t 9)), (.inr "name", .bl (ansB t 10)), (.inr "wish", .bl (ansB t 11)), (.inr "index", .bl (ansB t 12)), (.inr "program", .bl (ansB t 13))] (.inr "action") (V.bl (ansB t 14))))) a1 (.dK (putK (putK [(.inr "loop", .bl (ansB t 0)), (.inr "text", .bl (ansB t 1)), (.inr "size", .bl (ansB t 2)), (.inr "cell", .bl (ansB t 3)), (.inr "kind", .bl (ansB t 4)), (.inr "table", .bl (ansB t 5)), (.inr "entry", .bl (ansB t 6)), (.inr "power", .bl (ansB t 7)), (.inr "count", .bl (ansB t 8)), (.inr "tail", .bl (ansB t 9)), (.inr "name", .bl (ansB t 10)), (.inr "wish", .bl (ansB t 11)), (.inr "index", .bl (ansB t 12)), (.inr "program", .bl (ansB t 13))] (.inr "action") (V.bl (ansB t 14))) (.inr "deeds") (V.bl (ansB t 15)))) = H8 at s8 ea18 ⊢
    refine ⟨_, rfl, D, dd, fs, _, _, _, rfl, EX, rfl, s8 _ _ hd, rfl, (fun _ r => r), kit 16 (by decide), _, rfl, D, dd, fs, _, _, _, rfl, EX, rfl, s8 _ _ hd, rfl, (fun _ r => r), kit 17 (by decide), (by show 2 ≤ sizeLine; decide), fun b9 nb9 => ?_⟩
    have ma19 : a1 ≠ b9 := fun z => by rw [← z, ea18] at nb9; cases nb9
    have v9 := same_put (o := (.tup [V.bl (ansB t 16), V.bl (ansB t 17)])) s8 (none_of s8 nb9)
    have fa19 := (upd_ne (o := (.tup [V.bl (ansB t 16), V.bl (ansB t 17)])) ma19).trans ea18
    refine ⟨b9, _, rfl, SqT.of upd_same, rfl, _, _, rfl, _, rfl, a1, _, rfl, DPut.k (k := .inr "nests") fa19 (by show 16 < sizeLine; decide), _, _, rfl, _, rfl, a1, _, rfl, DPut.k (k := .inr "listed") upd_same (by show 17 < sizeLine; decide), rfl, ?_⟩
    have s9 := same_put (o := (.dK (putK (putK [(.inr "loop", .bl (ansB t 0)), (.inr "text", .bl (ansB t 1)), (.inr "size", .bl (ansB t 2)), (.inr "cell", .bl (ansB t 3)), (.inr "kind", .bl (ansB t 4)), (.inr "table", .bl (ansB t 5)), (.inr "entry", .bl (ansB t 6)), (.inr "power", .bl (ansB t 7)), (.inr "count", .bl (ansB t 8)), (.inr "tail", .bl (ansB t 9)), (.inr "name", .bl (ansB t 10)), (.inr "wish", .bl (ansB t 11)), (.inr "index", .bl (ansB t 12)), (.inr "program", .bl (ansB t 13)), (.inr "action", .bl (ansB t 14)), (.inr "deeds", .bl (ansB t 15))] (.inr "nests") (V.bl (ansB t 16))) (.inr "listed") (V.bl (ansB t 17))))) (same_put (o := (.dK (putK [(.inr "loop", .bl (ansB t 0)), (.inr "text", .bl (ansB t 1)), (.inr "size", .bl (ansB t 2)), (.inr "cell", .bl (ansB t 3)), (.inr "kind", .bl (ansB t 4)), (.inr "table", .bl (ansB t 5)), (.inr "entry", .bl (ansB t 6)), (.inr "power", .bl (ansB t 7)), (.inr "count", .bl (ansB t 8)), (.inr "tail", .bl (ansB t 9)), (.inr "name", .bl (ansB t 10)), (.inr "wish", .bl (ansB t 11)), (.inr "index", .bl (ansB t 12)), (.inr "program", .bl (ansB t 13)), (.inr "action", .bl (ansB t 14)), (.inr "deeds", .bl (ansB t 15))] (.inr "nests") (V.bl (ansB t 16))))) v9 na1) na1
    have ea19 : (upd (upd (upd H8 b9 (.tup [V.bl (ansB t 16), V.bl (ansB t 17)])) a1 (.dK (putK [(.inr "loop", .bl (ansB t 0)), (.inr "text", .bl (ansB t 1)), (.inr "size", .bl (ansB t 2)), (.inr "cell", .bl (ansB t 3)), (.inr "kind", .bl (ansB t 4)), (.inr "table", .bl (ansB t 5)), (.inr "entry", .bl (ansB t 6)), (.inr "power", .bl (ansB t 7)), (.inr "count", .bl (ansB t 8)), (.inr "tail", .bl (ansB t 9)), (.inr "name", .bl (ansB t 10)), (.inr "wish", .bl (ansB t 11)), (.inr "index", .bl (ansB t 12)), (.inr "program", .bl (ansB t 13)), (.inr "action", .bl (ansB t 14)), (.inr "deeds", .bl (ansB t 15))] (.inr "nests") (V.bl (ansB t 16))))) a1 (.dK (putK (putK [(.inr "loop", .bl (ansB t 0)), (.inr "text", .bl (ansB t 1)), (.inr "size", .bl (ansB t 2)), (.inr "cell", .bl (ansB t 3)), (.inr "kind", .bl (ansB t 4)), (.inr "table", .bl (ansB t 5)), (.inr "entry", .bl (ansB t 6)), (.inr "power", .bl (ansB t 7)), (.inr "count", .bl (ansB t 8)), (.inr "tail", .bl (ansB t 9)), (.inr "name", .bl (ansB t 10)), (.inr "wish", .bl (ansB t 11)), (.inr "index", .bl (ansB t 12)), (.inr "program", .bl (ansB t 13)), (.inr "action", .bl (ansB t 14)), (.inr "deeds", .bl (ansB t 15))] (.inr "nests") (V.bl (ansB t 16))) (.inr "listed") (V.bl (ansB t 17))))) a1 = some (.dK [(.inr "loop", .bl (ansB t 0)), (.inr "text", .bl (ansB t 1)), (.inr "size", .bl (ansB t 2)), (.inr "cell", .bl (ansB t 3)), (.inr "kind", .bl (ansB t 4)), (.inr "table", .bl (ansB t 5)), (.inr "entry", .bl (ansB t 6)), (.inr "power", .bl (ansB t 7)), (.inr "count", .bl (ansB t 8)), (.inr "tail", .bl (ansB t 9)), (.inr "name", .bl (ansB t 10)), (.inr "wish", .bl (ansB t 11)), (.inr "index", .bl (ansB t 12)), (.inr "program", .bl (ansB t 13)), (.inr "action", .bl (ansB t 14)), (.inr "deeds", .bl (ansB t 15)), (.inr "nests", .bl (ansB t 16)), (.inr "listed", .bl (ansB t 17))]) := upd_same
    generalize upd (upd (upd H8 b9 (.tup [V.bl (ansB t 16), V.bl (ansB t 17)])) a1 (.dK (putK [(.inr "loop", .bl (ansB t 0)), (.inr "text", .bl (ansB t 1)), (.inr "size", .bl (ansB t 2)), (.inr "cell", .bl (ansB t 3)), (.inr "kind", .bl (ansB t 4)), (.inr "table", .bl (ansB t 5)), (.inr "entry", .bl (ansB t 6)), (.inr "power", .bl (ansB t 7)), (.inr "count", .bl (ansB t 8)), (.inr "tail", .bl (ansB t 9)), (.inr "name", .bl (ansB t 10)), (.inr "wish", .bl (ansB t 11)), (.inr "index", .bl (ansB t 12)), (.inr "program", .bl (ansB t 13)), (.inr "action", .bl (ansB t 14)), (.inr "deeds", .bl (ansB t 15))] (.inr "nests") (V.bl (ansB t 16))))) a1 (.dK (putK (putK [(.inr "loop", .bl (ansB t 0)), (.inr "text", .bl (ansB t 1)), (.inr "size", .bl (ansB t 2)), (.inr "cell", .bl (ansB t 3)), (.inr "kind", .bl (ansB t 4)), (.inr "table", .bl (ansB t 5)), (.inr "entry", .bl (ansB t 6)), (.inr "power", .bl (ansB t 7)), (.inr "count", .bl (ansB t 8)), (.inr "tail", .bl (ansB t 9)), (.inr "name", .bl (ansB t 10)), (.inr "wish", .bl (ansB t 11)), (.inr "index", .bl (ansB t 12)), (.inr "program", .bl (ansB t 13)), (.inr "action", .bl (ansB t 14)), (.inr "deeds", .bl (ansB t 15))] (.inr "nests") (V.bl (ansB t 16))) (.inr "listed") (V.bl (ansB t 17)))) = H9 at s9 ea19 ⊢
    refine ⟨_, rfl, D, dd, fs, _, _, _, rfl, EX, rfl, s9 _ _ hd, rfl, (fun _ r => r), kit 18 (by decide), _, rfl, D, dd, fs, _, _, _, rfl, EX, rfl, s9 _ _ hd, rfl, (fun _ r => r), kit 19 (by decide), (by show 2 ≤ sizeLine; decide), fun b10 nb10 => ?_⟩
    have ma110 : a1 ≠ b10 := fun z => by rw [← z, ea19] at nb10; cases nb10
    have v10 := same_put (o := (.tup [V.bl (ansB t 18), V.bl (ansB t 19)])) s9 (none_of s9 nb10)
    have fa110 := (upd_ne (o := (.tup [V.bl (ansB t 18), V.bl (ansB t 19)])) ma110).trans ea19
    refine ⟨b10, _, rfl, SqT.of upd_same, rfl, _, _, rfl, _, rfl, a1, _, rfl, DPut.k (k := .inr "changes") fa110 (by show 18 < sizeLine; decide), _, _, rfl, _, rfl, a1, _, rfl, DPut.k (k := .inr "programs") upd_same (by show 19 < sizeLine; decide), rfl, ?_⟩
    have s10 := same_put (o := (.dK (putK (putK [(.inr "loop", .bl (ansB t 0)), (.inr "text", .bl (ansB t 1)), (.inr "size", .bl (ansB t 2)), (.inr "cell", .bl (ansB t 3)), (.inr "kind", .bl (ansB t 4)), (.inr "table", .bl (ansB t 5)), (.inr "entry", .bl (ansB t 6)), (.inr "power", .bl (ansB t 7)), (.inr "count", .bl (ansB t 8)), (.inr "tail", .bl (ansB t 9)), (.inr "name", .bl (ansB t 10)), (.inr "wish", .bl (ansB t 11)), (.inr "index", .bl (ansB t 12)), (.inr "program", .bl (ansB t 13)), (.inr "action", .bl (ansB t 14)), (.inr "deeds", .bl (ansB t 15)), (.inr "nests", .bl (ansB t 16)), (.inr "listed", .bl (ansB t 17))] (.inr "changes") (V.bl (ansB t 18))) (.inr "programs") (V.bl (ansB t 19))))) (same_put (o := (.dK (putK [(.inr "loop", .bl (ansB t 0)), (.inr "text", .bl (ansB t 1)), (.inr "size", .bl (ansB t 2)), (.inr "cell", .bl (ansB t 3)), (.inr "kind", .bl (ansB t 4)), (.inr "table", .bl (ansB t 5)), (.inr "entry", .bl (ansB t 6)), (.inr "power", .bl (ansB t 7)), (.inr "count", .bl (ansB t 8)), (.inr "tail", .bl (ansB t 9)), (.inr "name", .bl (ansB t 10)), (.inr "wish", .bl (ansB t 11)), (.inr "index", .bl (ansB t 12)), (.inr "program", .bl (ansB t 13)), (.inr "action", .bl (ansB t 14)), (.inr "deeds", .bl (ansB t 15)), (.inr "nests", .bl (ansB t 16)), (.inr "listed", .bl (ansB t 17))] (.inr "changes") (V.bl (ansB t 18))))) v10 na1) na1
    have ea110 : (upd (upd (upd H9 b10 (.tup [V.bl (ansB t 18), V.bl (ansB t 19)])) a1 (.dK (putK [(.inr "loop", .bl (ansB t 0)), (.inr "text", .bl (ansB t 1)), (.inr "size", .bl (ansB t 2)), (.inr "cell", .bl (ansB t 3)), (.inr "kind", .bl (ansB t 4)), (.inr "table", .bl (ansB t 5)), (.inr "entry", .bl (ansB t 6)), (.inr "power", .bl (ansB t 7)), (.inr "count", .bl (ansB t 8)), (.inr "tail", .bl (ansB t 9)), (.inr "name", .bl (ansB t 10)), (.inr "wish", .bl (ansB t 11)), (.inr "index", .bl (ansB t 12)), (.inr "program", .bl (ansB t 13)), (.inr "action", .bl (ansB t 14)), (.inr "deeds", .bl (ansB t 15)), (.inr "nests", .bl (ansB t 16)), (.inr "listed", .bl (ansB t 17))] (.inr "changes") (V.bl (ansB t 18))))) a1 (.dK (putK (putK [(.inr "loop", .bl (ansB t 0)), (.inr "text", .bl (ansB t 1)), (.inr "size", .bl (ansB t 2)), (.inr "cell", .bl (ansB t 3)), (.inr "kind", .bl (ansB t 4)), (.inr "table", .bl (ansB t 5)), (.inr "entry", .bl (ansB t 6)), (.inr "power", .bl (ansB t 7)), (.inr "count", .bl (ansB t 8)), (.inr "tail", .bl (ansB t 9)), (.inr "name", .bl (ansB t 10)), (.inr "wish", .bl (ansB t 11)), (.inr "index", .bl (ansB t 12)), (.inr "program", .bl (ansB t 13)), (.inr "action", .bl (ansB t 14)), (.inr "deeds", .bl (ansB t 15)), (.inr "nests", .bl (ansB t 16)), (.inr "listed", .bl (ansB t 17))] (.inr "changes") (V.bl (ansB t 18))) (.inr "programs") (V.bl (ansB t 19))))) a1 = some (.dK [(.inr "loop", .bl (ansB t 0)), (.inr "text", .bl (ansB t 1)), (.inr "size", .bl (ansB t 2)), (.inr "cell", .bl (ansB t 3)), (.inr "kind", .bl (ansB t 4)), (.inr "table", .bl (ansB t 5)), (.inr "entry", .bl (ansB t 6)), (.inr "power", .bl (ansB t 7)), (.inr "count", .bl (ansB t 8)), (.inr "tail", .bl (ansB t 9)), (.inr "name", .bl (ansB t 10)), (.inr "wish", .bl (ansB t 11)), (.inr "index", .bl (ansB t 12)), (.inr "program", .bl (ansB t 13)), (.inr "action", .bl (ansB t 14)), (.inr "deeds", .bl (ansB t 15)), (.inr "nests", .bl (ansB t 16)), (.inr "listed", .bl (ansB t 17)), (.inr "changes", .bl (ansB t 18)), (.inr "programs", .bl (ansB t 19))]) := upd_same
    generalize upd (upd (upd H9 b10 (.tup [V.bl (ansB t 18), V.bl (ansB t 19)])) a1 (.dK (putK [(.inr "loop", .bl (ansB t 0)), (.inr "text", .bl (ansB t 1)), (.inr "size", .bl (ansB t 2)), (.inr "cell", .bl (ansB t 3)), (.inr "kind", .bl (ansB t 4)), (.inr "table", .bl (ansB t 5)), (.inr "entry", .bl (ansB t 6)), (.inr "power", .bl (ansB t 7)), (.inr "count", .bl (ansB t 8)), (.inr "tail", .bl (ansB t 9)), (.inr "name", .bl (ansB t 10)), (.inr "wish", .bl (ansB t 11)), (.inr "index", .bl (ansB t 12)), (.inr "program", .bl (ansB t 13)), (.inr "action", .bl (ansB t 14)), (.inr "deeds", .bl (ansB t 15)), (.inr "nests", .bl (ansB t 16)), (.inr "listed", .bl (ansB t 17))] (.inr "changes") (V.bl (ansB t 18))))) a1 (.dK (putK (putK [(.inr "loop", .bl (ansB t 0)), (.inr "text", .bl (ansB t 1)), (.inr "size", .bl (ansB t 2)), (.inr "cell", .bl (ansB t 3)), (.inr "kind", .bl (ansB t 4)), (.inr "table", .bl (ansB t 5)), (.inr "entry", .bl (ansB t 6)), (.inr "power", .bl (ansB t 7)), (.inr "count", .bl (ansB t 8)), (.inr "tail", .bl (ansB t 9)), (.inr "name", .bl (ansB t 10)), (.inr "wish", .bl (ansB t 11)), (.inr "index", .bl (ansB t 12)), (.inr "program", .bl (ansB t 13)), (.inr "action", .bl (ansB t 14)), (.inr "deeds", .bl (ansB t 15)), (.inr "nests", .bl (ansB t 16)), (.inr "listed", .bl (ansB t 17))] (.inr "changes") (V.bl (ansB t 18))) (.inr "programs") (V.bl (ansB t 19)))) = H10 at s10 ea110 ⊢
    refine fun a2 na2' => ?_
    have na2 := none_of s10 na2'
    have u11 : Same H (upd H10 a2 (.dK [])) := same_put s10 na2
    have ne_a1a2 : a1 ≠ a2 := fun z => by rw [← z, ea110] at na2'; cases na2'
    refine ⟨_, rfl, D, dd, fs, _, _, _, rfl, EX, rfl, u11 _ _ hd, rfl, (fun _ r => r), kit 20 (by decide), _, rfl, D, dd, fs, _, _, _, rfl, EX, rfl, u11 _ _ hd, rfl, (fun _ r => r), kit 21 (by decide), upd_same, [(.inr "unknown", .bl (ansB t 20)), (.inr "in use", .bl (ansB t 21))], rfl, (by show 2 ≤ 15; decide), ?_⟩
    have s11 := same_put (o := .dK (mergeK [] [(.inr "unknown", .bl (ansB t 20)), (.inr "in use", .bl (ansB t 21))])) u11 na2
    have ea111 := (upd_ne (o := .dK (mergeK [] [(.inr "unknown", .bl (ansB t 20)), (.inr "in use", .bl (ansB t 21))])) ne_a1a2).trans ((upd_ne (o := .dK []) ne_a1a2).trans ea110)
    have ea211 : (upd (upd H10 a2 (.dK [])) a2 (.dK (mergeK [] [(.inr "unknown", .bl (ansB t 20)), (.inr "in use", .bl (ansB t 21))]))) a2 = some (.dK [(.inr "unknown", .bl (ansB t 20)), (.inr "in use", .bl (ansB t 21))]) := upd_same
    generalize upd (upd H10 a2 (.dK [])) a2 (.dK (mergeK [] [(.inr "unknown", .bl (ansB t 20)), (.inr "in use", .bl (ansB t 21))])) = H11 at s11 ea111 ea211 ⊢
    refine fun a3 na3' => ?_
    have na3 := none_of s11 na3'
    have u12 : Same H (upd H11 a3 (.dK [])) := same_put s11 na3
    have ne_a1a3 : a1 ≠ a3 := fun z => by rw [← z, ea111] at na3'; cases na3'
    have ne_a2a3 : a2 ≠ a3 := fun z => by rw [← z, ea211] at na3'; cases na3'
    refine ⟨_, rfl, D, dd, fs, _, _, _, rfl, EX, rfl, u12 _ _ hd, rfl, (fun _ r => r), kit 22 (by decide), _, rfl, D, dd, fs, _, _, _, rfl, EX, rfl, u12 _ _ hd, rfl, (fun _ r => r), kit 23 (by decide), upd_same, [(.inr "falls", .bl (ansB t 22)), (.inr "many to one", .bl (ansB t 23))], rfl, (by show 2 ≤ 15; decide), ?_⟩
    have s12 := same_put (o := .dK (mergeK [] [(.inr "falls", .bl (ansB t 22)), (.inr "many to one", .bl (ansB t 23))])) u12 na3
    have ea112 := (upd_ne (o := .dK (mergeK [] [(.inr "falls", .bl (ansB t 22)), (.inr "many to one", .bl (ansB t 23))])) ne_a1a3).trans ((upd_ne (o := .dK []) ne_a1a3).trans ea111)
    have ea212 := (upd_ne (o := .dK (mergeK [] [(.inr "falls", .bl (ansB t 22)), (.inr "many to one", .bl (ansB t 23))])) ne_a2a3).trans ((upd_ne (o := .dK []) ne_a2a3).trans ea211)
    have ea312 : (upd (upd H11 a3 (.dK [])) a3 (.dK (mergeK [] [(.inr "falls", .bl (ansB t 22)), (.inr "many to one", .bl (ansB t 23))]))) a3 = some (.dK [(.inr "falls", .bl (ansB t 22)), (.inr "many to one", .bl (ansB t 23))]) := upd_same
    generalize upd (upd H11 a3 (.dK [])) a3 (.dK (mergeK [] [(.inr "falls", .bl (ansB t 22)), (.inr "many to one", .bl (ansB t 23))])) = H12 at s12 ea112 ea212 ea312 ⊢
    refine ⟨_, rfl, D, dd, fs, _, _, _, rfl, EX, rfl, s12 _ _ hd, rfl, (fun _ r => r), kit 24 (by decide), _, rfl, D, dd, fs, _, _, _, rfl, EX, rfl, s12 _ _ hd, rfl, (fun _ r => r), kit 25 (by decide), (by show 2 ≤ sizeLine; decide), fun b13 nb13 => ?_⟩
    have ma113 : a1 ≠ b13 := fun z => by rw [← z, ea112] at nb13; cases nb13
    have ma213 : a2 ≠ b13 := fun z => by rw [← z, ea212] at nb13; cases nb13
    have ma313 : a3 ≠ b13 := fun z => by rw [← z, ea312] at nb13; cases nb13
    have v13 := same_put (o := (.tup [V.bl (ansB t 24), V.bl (ansB t 25)])) s12 (none_of s12 nb13)
    have fa113 := (upd_ne (o := (.tup [V.bl (ansB t 24), V.bl (ansB t 25)])) ma113).trans ea112
    have fa213 := (upd_ne (o := (.tup [V.bl (ansB t 24), V.bl (ansB t 25)])) ma213).trans ea212
    have fa313 := (upd_ne (o := (.tup [V.bl (ansB t 24), V.bl (ansB t 25)])) ma313).trans ea312
    refine ⟨b13, _, rfl, SqT.of upd_same, rfl, _, _, rfl, _, rfl, a3, _, rfl, DPut.k (k := .inr "undo") fa313 (by show 2 < sizeLine; decide), _, _, rfl, _, rfl, a3, _, rfl, DPut.k (k := .inr "broken") upd_same (by show 3 < sizeLine; decide), rfl, ?_⟩
    have s13 := same_put (o := (.dK (putK (putK [(.inr "falls", .bl (ansB t 22)), (.inr "many to one", .bl (ansB t 23))] (.inr "undo") (V.bl (ansB t 24))) (.inr "broken") (V.bl (ansB t 25))))) (same_put (o := (.dK (putK [(.inr "falls", .bl (ansB t 22)), (.inr "many to one", .bl (ansB t 23))] (.inr "undo") (V.bl (ansB t 24))))) v13 na3) na3
    have ea113 := (upd_ne (o := (.dK (putK (putK [(.inr "falls", .bl (ansB t 22)), (.inr "many to one", .bl (ansB t 23))] (.inr "undo") (V.bl (ansB t 24))) (.inr "broken") (V.bl (ansB t 25))))) ne_a1a3).trans ((upd_ne (o := (.dK (putK [(.inr "falls", .bl (ansB t 22)), (.inr "many to one", .bl (ansB t 23))] (.inr "undo") (V.bl (ansB t 24))))) ne_a1a3).trans fa113)
    have ea213 := (upd_ne (o := (.dK (putK (putK [(.inr "falls", .bl (ansB t 22)), (.inr "many to one", .bl (ansB t 23))] (.inr "undo") (V.bl (ansB t 24))) (.inr "broken") (V.bl (ansB t 25))))) ne_a2a3).trans ((upd_ne (o := (.dK (putK [(.inr "falls", .bl (ansB t 22)), (.inr "many to one", .bl (ansB t 23))] (.inr "undo") (V.bl (ansB t 24))))) ne_a2a3).trans fa213)
    have ea313 : (upd (upd (upd H12 b13 (.tup [V.bl (ansB t 24), V.bl (ansB t 25)])) a3 (.dK (putK [(.inr "falls", .bl (ansB t 22)), (.inr "many to one", .bl (ansB t 23))] (.inr "undo") (V.bl (ansB t 24))))) a3 (.dK (putK (putK [(.inr "falls", .bl (ansB t 22)), (.inr "many to one", .bl (ansB t 23))] (.inr "undo") (V.bl (ansB t 24))) (.inr "broken") (V.bl (ansB t 25))))) a3 = some (.dK [(.inr "falls", .bl (ansB t 22)), (.inr "many to one", .bl (ansB t 23)), (.inr "undo", .bl (ansB t 24)), (.inr "broken", .bl (ansB t 25))]) := upd_same
    generalize upd (upd (upd H12 b13 (.tup [V.bl (ansB t 24), V.bl (ansB t 25)])) a3 (.dK (putK [(.inr "falls", .bl (ansB t 22)), (.inr "many to one", .bl (ansB t 23))] (.inr "undo") (V.bl (ansB t 24))))) a3 (.dK (putK (putK [(.inr "falls", .bl (ansB t 22)), (.inr "many to one", .bl (ansB t 23))] (.inr "undo") (V.bl (ansB t 24))) (.inr "broken") (V.bl (ansB t 25)))) = H13 at s13 ea113 ea213 ea313 ⊢
    refine ⟨(by show 0 ≤ sizeLine; decide), fun m0 nm0 => ⟨_, rfl, _, rfl, _, rfl, (by show 3 ≤ sizeLine; decide), fun gg ngg => ⟨(by show 2 ≤ sizeLine; decide), fun tt ntt => ?_⟩⟩⟩
    have SM : Same H13 (upd (upd (upd H13 m0 (.lst [])) gg (.lst [V.ref a1, V.ref a2, V.ref a3])) tt (.tup [V.ref m0, V.ref gg])) := ((same_new nm0).trans (same_new ngg)).trans (same_new ntt)
    have em := ((same_new (o := .lst [V.ref a1, V.ref a2, V.ref a3]) ngg).trans (same_new (o := .tup [V.ref m0, V.ref gg]) ntt)) m0 (.lst []) upd_same
    have eg := (same_new (o := .tup [V.ref m0, V.ref gg]) ntt) gg (.lst [V.ref a1, V.ref a2, V.ref a3]) upd_same
    refine ⟨tt, _, rfl, SqT.of upd_same, rfl, _, _, rfl, _, _, rfl, rfl, ?_⟩
    have sF := s13.trans SM
    have e1 := SM _ _ ea113
    have e2 := SM _ _ ea213
    have e3 := SM _ _ ea313
    generalize upd (upd (upd H13 m0 (.lst [])) gg (.lst [V.ref a1, V.ref a2, V.ref a3])) tt (.tup [V.ref m0, V.ref gg]) = H14 at sF em eg e1 e2 e3 ⊢
    have e1 : H14 a1 = some (.dK (kvx t (kIx 0))) := e1
    have e2 : H14 a2 = some (.dK (kvx t (kIx 1))) := e2
    have e3 : H14 a3 = some (.dK (kvx t (kIx 2))) := e3
    refine ⟨3, rfl, by decide, by decide, ?_⟩
    refine for_range (lo := 0) (n := 3) (fun i σ H' => (∃ m v6, σ = [some (.ref p.1), some (.ref a1), some (.ref a2), some (.ref a3), some (.ref m), some (.ref gg), v6, none, none, none] ∧ Met t i m H') ∧ Same H14 H') ⟨⟨m0, none, rfl, .inr ⟨by omega, em⟩⟩, Same.refl _⟩ (fun i σ H' hi h => ?_) (fun σ H' h => ?_)
    · obtain ⟨⟨m, v6, rfl, met⟩, sh⟩ := h
      rw [Int.zero_add]
      have hgi : ∃ a, [V.ref a1, V.ref a2, V.ref a3][i]? = some (.ref a) ∧ H' a = some (.dK (kvx t (kIx i))) := by
        rcases (show i = 0 ∨ i = 1 ∨ i = 2 by omega) with rfl | rfl | rfl
        · exact ⟨a1, rfl, sh _ _ e1⟩
        · exact ⟨a2, rfl, sh _ _ e2⟩
        · exact ⟨a3, rfl, sh _ _ e3⟩
      obtain ⟨a, hga, hda⟩ := hgi
      have hg' := sh _ _ eg
      have nga : gg ≠ a := fun z => by rw [z, hda] at hg'; cases hg'
      have nds : (kIx i).Nodup ∧ ((kIx i).map wd).Nodup ∧ (kIx i).length ≤ 26 := by
        rcases (show i = 0 ∨ i = 1 ∨ i = 2 by omega) with rfl | rfl | rfl <;> decide
      refine ⟨_, rfl, a, _, hda, True.intro, fun od => ?_⟩
      refine comp_kind (K := K) (i := i) (ix := kIx i) (gs := [V.ref a1, V.ref a2, V.ref a3]) ((upd_ne nga).trans hg') hga upd_same nds.1 nds.2.1 nds.2.2 fun D H2 nD s2 fnd => ⟨s2 _ _ upd_same, ?_⟩
      have nDa : D ≠ a := fun z => by rw [z, upd_same] at nD; cases nD
      have hx : Same H' (upd H2 a (.dK (kvx t (kIx i)))) := fun b o z => by
        by_cases hb : b = a
        · subst hb
          rw [upd_same, ← z, hda]
        · rw [upd_ne hb]
          exact s2 b o ((upd_ne hb).trans z)
      have mk := mem_kIx ht i hi
      rcases met with ⟨lt, q1, hm, hq⟩ | ⟨nlt, hm⟩ <;> rcases fnd with ⟨mem, q2, hD, hq2⟩ | ⟨nmem, hD⟩
      · have := mk.mp mem
        omega
      · refine ⟨m, D, _, _, rfl, rfl, hx _ _ hm, (upd_ne nDa).trans hD, by show 1 ≤ sizeLine; decide, fun pp np => ?_⟩
        exact ⟨⟨pp, _, rfl, .inl ⟨by omega, q1, upd_same, (same_new np) _ _ (hx _ _ hq)⟩⟩, (sh.trans hx).trans (same_new np)⟩
      · have ke := mk.mp mem
        have nq2 : q2 ≠ a := fun z => by
          have y := s2 _ _ (upd_same (H := H') (a := a) (o := .frz od (.dK (kvx t (kIx i)))))
          rw [← z, hq2] at y
          cases y
        refine ⟨m, D, _, _, rfl, rfl, hx _ _ hm, (upd_ne nDa).trans hD, by show 1 ≤ sizeLine; decide, fun pp np => ?_⟩
        exact ⟨⟨pp, _, rfl, .inl ⟨by omega, q2, upd_same, (same_new np) _ _ ((upd_ne nq2).trans (by rw [hq2, ke]))⟩⟩, (sh.trans hx).trans (same_new np)⟩
      · have nk : kG t ≠ i := fun z => nmem (mk.mpr z)
        refine ⟨m, D, _, _, rfl, rfl, hx _ _ hm, (upd_ne nDa).trans hD, by show 0 ≤ sizeLine; decide, fun pp np => ?_⟩
        exact ⟨⟨pp, _, rfl, .inr ⟨by omega, upd_same⟩⟩, (sh.trans hx).trans (same_new np)⟩
    · obtain ⟨⟨m, v6, rfl, met⟩, sh⟩ := h
      have k3 : kG t < 3 := by unfold kG; split <;> (try split) <;> omega
      rcases met with ⟨_, q1, hm, hq⟩ | ⟨z, _⟩
      case inr => exact absurd k3 z
      have sE := sF.trans sh
      refine ⟨_, rfl, D, dd, fs, _, _, _, rfl, EX, rfl, sE _ _ hd, rfl, (fun _ r => r), kit 26 (by decide), _, rfl, D, dd, fs, _, _, _, rfl, EX, rfl, sE _ _ hd, rfl, (fun _ r => r), kit 27 (by decide), _, rfl, D, dd, fs, _, _, _, rfl, EX, rfl, sE _ _ hd, rfl, (fun _ r => r), kit 28 (by decide), by show 3 ≤ sizeLine; decide, fun lb nlb => ?_⟩
      have sB := sE.trans (same_new (o := .lst [V.bl (ansB t 26), V.bl (ansB t 27), V.bl (ansB t 28)]) nlb)
      refine ⟨_, rfl, D, dd, fs, _, _, _, rfl, EX, rfl, sB _ _ hd, rfl, (fun _ r => r), kit 29 (by decide), _, rfl, D, dd, fs, _, _, _, rfl, EX, rfl, sB _ _ hd, rfl, (fun _ r => r), kit 30 (by decide), _, rfl, D, dd, fs, _, _, _, rfl, EX, rfl, sB _ _ hd, rfl, (fun _ r => r), kit 31 (by decide), by show 3 ≤ sizeLine; decide, fun lp nlp => ?_⟩
      have S1 : Same H' (upd (upd H' lb (.lst [V.bl (ansB t 26), V.bl (ansB t 27), V.bl (ansB t 28)])) lp (.lst [V.bl (ansB t 29), V.bl (ansB t 30), V.bl (ansB t 31)])) := (same_new nlb).trans (same_new nlp)
      have hlb := (same_new (o := .lst [V.bl (ansB t 29), V.bl (ansB t 30), V.bl (ansB t 31)]) nlp) lb (.lst [V.bl (ansB t 26), V.bl (ansB t 27), V.bl (ansB t 28)]) upd_same
      have hlp : upd (upd H' lb (.lst [V.bl (ansB t 26), V.bl (ansB t 27), V.bl (ansB t 28)])) lp (.lst [V.bl (ansB t 29), V.bl (ansB t 30), V.bl (ansB t 31)]) lp = some (.lst [V.bl (ansB t 29), V.bl (ansB t 30), V.bl (ansB t 31)]) := upd_same
      generalize upd (upd H' lb (.lst [V.bl (ansB t 26), V.bl (ansB t 27), V.bl (ansB t 28)])) lp (.lst [V.bl (ansB t 29), V.bl (ansB t 30), V.bl (ansB t 31)]) = H15 at S1 hlb hlp ⊢
      have hm := S1 _ _ hm
      have hq := S1 _ _ hq
      have sE := sE.trans S1
      have er : PyData.eqv (.list [.bool (0 == kG t), .bool (1 == kG t), .bool (2 == kG t)]) (.list [.bool (0 == kG t), .bool (1 == kG t), .bool (2 == kG t)]) = true := by
        rcases (show kG t = 0 ∨ kG t = 1 ∨ kG t = 2 by omega) with g | g | g <;> rw [g] <;> rfl
      have hbi : ∀ i : Nat, i < 3 → [0 == kG t, 1 == kG t, 2 == kG t][i]? = some (decide (V.int ((0 : Int) + (i : Nat)) = V.int (kG t : Nat))) := fun i hi => by
        rcases (show kG t = 0 ∨ kG t = 1 ∨ kG t = 2 by omega) with g | g | g <;> rw [g] <;> rcases (show i = 0 ∨ i = 1 ∨ i = 2 by omega) with rfl | rfl | rfl <;> rfl
      refine ⟨_, rfl, m, _, rfl, .inl (SqL.of hm), rfl, _, rfl, ?_⟩
      refine iteF ?_
      refine ⟨_, rfl, 3, rfl, by decide, by decide, fun D1 nD1 => ?_⟩
      refine lc_range (lo := 0) (n := 3) (fun i H2 => Same H15 H2 ∧ H2 D1 = some (.lst (([0 == kG t, 1 == kG t, 2 == kG t].take i).map V.bl))) ⟨same_new nD1, upd_same⟩ (fun i H2 hi h => ?_) (fun H2 h => ?_)
      · obtain ⟨sD, hD⟩ := h
        have s2 := sE.trans sD
        refine ⟨rfl, _, rfl, _, rfl, m, _, 0, _, rfl, rfl, SqL.of (sD _ _ hm), rfl, q1, _, 1, _, rfl, rfl, SqT.of (sD _ _ hq), rfl, rfl, ?_⟩
        refine ⟨_, hD, ?_, same_put sD nD1, ?_⟩
        · rw [List.length_map, List.length_take]
          exact Nat.lt_of_le_of_lt (Nat.min_le_right _ _) (by show 3 < sizeLine; decide)
        · rw [upd_same, List.take_add_one, hbi i hi, List.map_append]
          rfl
      · obtain ⟨sD, hD⟩ := h
        refine ⟨(.list [.bool (0 == kG t), .bool (1 == kG t), .bool (2 == kG t)]), (.list [.bool (0 == kG t), .bool (1 == kG t), .bool (2 == kG t)]), .lst (SqL.of (sD _ _ hlb)) (.cons (.bl _) (.cons (.bl _) (.cons (.bl _) .nil))), .lst (SqL.of hD) (.cons (.bl _) (.cons (.bl _) (.cons (.bl _) .nil))), rfl, rfl, _, rfl, ?_⟩
        rw [er]
        refine iteF ?_
        refine ⟨_, rfl, _, rfl, (.list [.bool (0 == kG t), .bool (1 == kG t), .bool (2 == kG t)]), (.list [.bool (0 == kG t), .bool (1 == kG t), .bool (2 == kG t)]), .lst (SqL.of (sD _ _ hlp)) (.cons (.bl _) (.cons (.bl _) (.cons (.bl _) .nil))), .lst (SqL.of (sD _ _ hlb)) (.cons (.bl _) (.cons (.bl _) (.cons (.bl _) .nil))), rfl, rfl, _, rfl, ?_⟩
        rw [er]
        refine iteF ?_
        exact ⟨_, rfl, m, _, 0, _, rfl, rfl, SqL.of (sD _ _ hm), rfl, q1, _, 0, _, rfl, rfl, SqT.of (sD _ _ hq), rfl, q _ (sE.trans sD)⟩
end
end Sq
namespace Sq
open PySem L2 PySem.Spec PyProof.Rows TL L2H
section
variable {P : Program} {w : World} {K : PySem.W.Frag} {mg : Str → Option Value} {base : Heap}
abbrev s__law_kept_of_error : Stmt := top 71
theorem sc__law_kept_of_error : FnScope ["_law_e", "_law_word"] ["_law_e", "_law_word"] (defScope s__law_kept_of_error) := ⟨rfl, rfl, rfl, by decide +kernel, rfl, by decide +kernel, by decide +kernel⟩
/-- what the fields of the errors of the class D ask -/
structure ErrF (K : PySem.W.Frag) (D : Addr) : Prop where
  x : XfC K D
  given : PySem.W.findIn K (.ref D) "given" = some none
  index : PySem.W.findIn K (.ref D) "index" = some none
  size : PySem.W.findIn K (.ref D) "size" = some none
/-- the field of the errors of a kind -/
def fldOf (t : Nat) : Str := if (15 ≤ t ∧ t < 20) ∨ t = 21 then "index" else if t = 22 ∨ t = 23 then "size" else "given"
def spKept (K : PySem.W.Frag) : Addr × Obj → Sp := fun p vs H Q _ => ∃ (D dd : Addr) (t : Nat) (v : V), vs = [.ref p.1, .str (wd t)] ∧ t < 24 ∧ ErrAt p D dd [(fldOf t, v)] H ∧ ErrF K D ∧ ∀ H', Same H H' → Q v H'
def lIx : List V := [.str "deeds", .str "nests", .str "listed", .str "changes", .str "programs", .str "in use"]
def lSz : List V := [.str "falls", .str "many to one"]
def lNo : List V := [.str "undo", .str ""]
theorem in_kept {t : Nat} (h : t < 24) : inV (.str (wd t)) lIx = decide ((15 ≤ t ∧ t < 20) ∨ t = 21) ∧ inV (.str (wd t)) lSz = decide (t = 22 ∨ t = 23) ∧ inV (.str (wd t)) lNo = false ∧ decide (V.str (wd t) = V.str "broken") = false := by
  have : ∀ t, t < 24 → inV (.str (wd t)) lIx = decide ((15 ≤ t ∧ t < 20) ∨ t = 21) ∧ inV (.str (wd t)) lSz = decide (t = 22 ∨ t = 23) ∧ inV (.str (wd t)) lNo = false ∧ decide (V.str (wd t) = V.str "broken") = false := by decide
  exact this t h
theorem fl_str (x : Str) : flatV (.str x) = true := rfl
theorem ok_kept {f : Addr} {fd : FuncData} (F : Fun K "_law_kept_of_error" "_law_kept_of_error" s__law_kept_of_error f fd) (b : Binds K fd ["_law_e", "_law_word"] []) : FnP P w K mg base 1 f (spKept K) := by
  refine FnP.of F sc__law_kept_of_error b (fun p vs H Q h => ?_) (fun p cdv A fr s H vs Q hot hr h => ?_)
  · obtain ⟨D, dd, t, v, rfl, _⟩ := h
    rfl
  · obtain ⟨D, dd, t, v, rfl, ht, ⟨hz, hf, hd⟩, EF, q⟩ := h
    have hp : p ∈ (cxH CX0 P w K mg base ["_law_e", "_law_word"] "_law_kept_of_error" (defScope s__law_kept_of_error) f cdv A fr s H E0 p).nox.pn := List.mem_singleton.mpr rfl
    obtain ⟨i1, i2, i3, i4⟩ := in_kept ht
    have fld : ∀ H', Same H H' → ∃ (dd' : Addr) (fs : List (Str × V)) (v' : V), some dd = some dd' ∧ H' dd' = some (.xd fs) ∧ fs.lookup (fldOf t) = some v' ∧ Q v' H' := fun H' sm => ⟨dd, _, v, rfl, sm _ _ hd, by simp [List.lookup], q _ sm⟩
    refine ⟨_, (pss_cons (ps_if (pt_cmpR op_in_seq (pv 1) (pe_lst (pa_cons pe_str (pa_cons pe_str (pa_cons pe_str (pa_cons pe_str (pa_cons pe_str (pa_cons pe_str pa_nil))))))) (by with_unfolding_all rfl))
        (pss_one (ps_ret (pe_xfP EF.x EF.index hp hz hf (pv 0))))
        pss_nil)
        (pss_cons (ps_if (pt_cmpR op_in_seq (pv 1) (pe_lst (pa_cons pe_str (pa_cons pe_str pa_nil))) (by with_unfolding_all rfl))
        (pss_one (ps_ret (pe_xfP EF.x EF.size hp hz hf (pv 0))))
        pss_nil)
        (pss_cons (ps_if (pt_cmpR op_eq (pv 1) pe_str (nomark _))
        (pss_one (ps_ret (pe_tup (pa_cons (pe_xfP EF.x EF.index hp hz hf (pv 0)) (pa_cons (pe_xfP EF.x EF.size hp hz hf (pv 0)) pa_nil)))))
        pss_nil)
        (pss_one (ps_ret (pe_ifExp (pt_cmpR op_in_seq (pv 1) (pe_lst (pa_cons pe_str (pa_cons pe_str pa_nil))) (by with_unfolding_all rfl)) pe_non (pe_xfP EF.x EF.given hp hz hf (pv 0)))))))), ?_⟩
    refine ⟨_, rfl, (by show 6 ≤ sizeLine; decide), fun l1 n1 => ⟨l1, lIx, rfl, .inl (SqL.of upd_same), fl_str _, rfl, _, rfl, ?_⟩⟩
    have s1 := same_new (o := .lst lIx) n1
    show if inV (.str (wd t)) lIx = true then _ else _
    rw [i1]
    by_cases c1 : (15 ≤ t ∧ t < 20) ∨ t = 21
    · rw [decide_eq_true c1]
      have e : fldOf t = "index" := if_pos c1
      rw [e] at fld
      exact iteT ⟨_, rfl, rfl, rfl, fld _ s1⟩
    rw [decide_eq_false c1]
    refine iteF ?_
    refine ⟨_, rfl, (by show 2 ≤ sizeLine; decide), fun l2 n2 => ⟨l2, lSz, rfl, .inl (SqL.of upd_same), fl_str _, rfl, _, rfl, ?_⟩⟩
    have s2 := s1.trans (same_new (o := .lst lSz) n2)
    show if inV (.str (wd t)) lSz = true then _ else _
    rw [i2]
    by_cases c2 : t = 22 ∨ t = 23
    · rw [decide_eq_true c2]
      have e : fldOf t = "size" := (if_neg c1).trans (if_pos c2)
      rw [e] at fld
      exact iteT ⟨_, rfl, rfl, rfl, fld _ s2⟩
    rw [decide_eq_false c2]
    refine iteF ?_
    refine ⟨_, rfl, rfl, _, rfl, ?_⟩
    show if decide (V.str (wd t) = V.str "broken") = true then _ else _
    rw [i4]
    refine iteF ?_
    refine ⟨_, rfl, (by show 2 ≤ sizeLine; decide), fun l3 n3 => ⟨l3, lNo, rfl, .inl (SqL.of upd_same), fl_str _, rfl, _, rfl, ?_⟩⟩
    have s3 := s2.trans (same_new (o := .lst lNo) n3)
    show if inV (.str (wd t)) lNo = true then _ else _
    rw [i3]
    have e : fldOf t = "given" := (if_neg c1).trans (if_neg c2)
    rw [e] at fld
    exact iteF ⟨_, rfl, rfl, rfl, fld _ s3⟩
end
end Sq
namespace Sq
open PySem L2 PySem.Spec PyProof.Rows
/-! ### data that repr shows -/
def lim40 : Int := 10000000000000000000000000000000000000000
def F0 (d : PyData) : Prop := d.showable = true ∧ d.leavesShort 1921 = true ∧ d.hasDict = false
theorem log_small {i : Int} (h1 : -lim40 ≤ i) (h2 : i ≤ lim40) : i.natAbs.log2 < 1920 := by
  by_cases h0 : i.natAbs = 0
  · rw [h0]
    decide
  · rw [Nat.log2_lt h0]
    have h3 : i.natAbs ≤ 10000000000000000000000000000000000000000 := by
      unfold lim40 at h1 h2
      omega
    have h4 : (10000000000000000000000000000000000000000 : Nat) < 2 ^ 1920 := by decide +kernel
    omega
theorem f0_int {i : Int} (h1 : -lim40 ≤ i) (h2 : i ≤ lim40) : F0 (.int i) := by
  have h := log_small h1 h2
  refine ⟨?_, ?_, ?_⟩
  · simp only [PyData.showable]
    exact decide_eq_true h
  · simp only [PyData.leavesShort]
    exact decide_eq_true (PyProof.Rows.int_text_len_1921 h)
  · simp only [PyData.hasDict]
theorem f0_bl (b : Bool) : F0 (.bool b) := ⟨by simp only [PyData.showable], by simp only [PyData.leavesShort], by simp only [PyData.hasDict]⟩
theorem f0_non : F0 .none := ⟨by simp only [PyData.showable], by simp only [PyData.leavesShort], by simp only [PyData.hasDict]⟩
theorem f0_str (x : Str) (h : (x.cps.toList.all fun c => decide (c < 16 ^ 8)) = true) : F0 (.str x) := ⟨by simp only [PyData.showable], by simp only [PyData.leavesShort]; exact h, by simp only [PyData.hasDict]⟩
theorem f0_all : ∀ {ds : List PyData}, (∀ d ∈ ds, F0 d) → PyData.showableAll ds = true ∧ PyData.leavesShortAll 1921 ds = true ∧ PyData.hasDictAll ds = false
  | [], _ => ⟨by simp only [PyData.showableAll], by simp only [PyData.leavesShortAll], by simp only [PyData.hasDictAll]⟩
  | d :: ds, h => by
    obtain ⟨a1, a2, a3⟩ := h d (List.mem_cons_self ..)
    obtain ⟨b1, b2, b3⟩ := f0_all fun x hx => h x (List.mem_cons_of_mem _ hx)
    refine ⟨by simp only [PyData.showableAll, a1, b1, Bool.and_self], by simp only [PyData.leavesShortAll, a2, b2, Bool.and_self], by simp only [PyData.hasDictAll, a3, b3, Bool.or_self]⟩
theorem f0_tup {ds : List PyData} (h : ∀ d ∈ ds, F0 d) : F0 (.tuple ds) := by
  obtain ⟨b1, b2, b3⟩ := f0_all h
  exact ⟨by simp only [PyData.showable, b1], by simp only [PyData.leavesShort, b2], by simp only [PyData.hasDict, b3]⟩
theorem f0_lst {ds : List PyData} (h : ∀ d ∈ ds, F0 d) : F0 (.list ds) := by
  obtain ⟨b1, b2, b3⟩ := f0_all h
  exact ⟨by simp only [PyData.showable, b1], by simp only [PyData.leavesShort, b2], by simp only [PyData.hasDict, b3]⟩
theorem fits_of {d : PyData} (h1 : d.showable = true) (h2 : d.leavesShort 1921 = true) (h3 : d.bulk ≤ 100) (h4 : d.depth ≤ 20) : Fits d := by
  have h5 := PyData.shown_le_bulk 1921 (by decide) d h2
  have h6 : d.shown.length ≤ sizeLine := by
    rw [sizeLine_eq]
    omega
  refine ⟨h1, h4, h6, fun i e => ?_, fun x e => ?_⟩
  · subst e
    simp only [PyData.showable] at h1
    exact of_decide_eq_true h1
  · subst e
    exact h6
theorem fits0 {d : PyData} (h : F0 d) (h3 : d.bulk ≤ 100) (h4 : d.depth ≤ 20) : Fits d := fits_of h.1 h.2.1 h3 h4
theorem fits_dict : Fits (.dict []) := fits_of (by decide) (by decide) (by decide) (by decide)
theorem inI_out {i a b : Int} (h : i < a ∨ b < i) : inI (.int i) a b = false := by
  show (decide (a ≤ i) && decide (i ≤ b)) = false
  rcases h with h | h
  · rw [decide_eq_false (by omega : ¬ a ≤ i)]
    rfl
  · rw [decide_eq_false (by omega : ¬ i ≤ b), Bool.and_false]
theorem cb1 {n : Int} {x y : V} (h : inI x 0 (n - 1) = false) : cellB n (some [x, y]) = false := by
  show (inI x 0 (n - 1) && inI y 0 (n - 1)) = false
  rw [h]
  rfl
theorem cb2 {n : Int} {x y : V} (h : inI y 0 (n - 1) = false) : cellB n (some [x, y]) = false := by
  show (inI x 0 (n - 1) && inI y 0 (n - 1)) = false
  rw [h, Bool.and_false]
theorem kb1 {x y z : V} (h : inI x 0 1 = false) : kindB (some [x, y, z]) = false := by
  show (inI x 0 1 && (inI y 0 2 && inI z 0 3)) = false
  rw [h]
  rfl
theorem kb2 {x y z : V} (h : inI y 0 2 = false) : kindB (some [x, y, z]) = false := by
  show (inI x 0 1 && (inI y 0 2 && inI z 0 3)) = false
  rw [h, Bool.false_and, Bool.and_false]
theorem kb3 {x y z : V} (h : inI z 0 3 = false) : kindB (some [x, y, z]) = false := by
  show (inI x 0 1 && (inI y 0 2 && inI z 0 3)) = false
  rw [h, Bool.and_false, Bool.and_false]
theorem fmn {α : Type} {p : α → Prop} : ∀ x ∈ ([] : List α), p x := fun _ h => by cases h
theorem fmc {α : Type} {p : α → Prop} {a : α} {l : List α} (h : p a) (r : ∀ x ∈ l, p x) : ∀ x ∈ a :: l, p x := fun x hx => by
  rcases List.mem_cons.mp hx with e | hx
  · rw [e]
    exact h
  · exact r x hx
theorem new_at {H : Hp} {p : Addr} {o : HO} (h : H p = none) : Same H (upd H p o) ∧ upd H p o p = some o := ⟨same_new h, upd_same⟩
/-! ### what the lists of odd values promise -/
def spOddS (K : PySem.W.Frag) : Sp := fun vs H Q _ => ∃ (p : Addr) (g : Int), vs = [.ref p, .int g] ∧ PurlAt H p ∧ 1 ≤ g ∧ g ≤ big ∧ ∀ v d H', (∀ H2, Off p H' H2 → Pl K H2 v ∧ Sh K H2 v d) → Fits d → inI v 1 big = false → PurlAt H' p → Off p H H' → Q v H'
def spOddC (K : PySem.W.Frag) : Sp := fun vs H Q _ => ∃ (p : Addr) (n r c : Int), vs = [.ref p, .int n, .int r, .int c] ∧ PurlAt H p ∧ InN n (r, c) ∧ n ≤ big ∧ ∀ v d cc H', (∀ H2, Off p H' H2 → TupV K H2 v cc ∧ Sh K H2 v d) → Fits d → cellB n cc = false → PurlAt H' p → Off p H H' → Q v H'
def spOddK (K : PySem.W.Frag) : Sp := fun vs H Q _ => ∃ p : Addr, vs = [.ref p] ∧ PurlAt H p ∧ ∀ v d cc H', (∀ H2, Off p H' H2 → TupV K H2 v cc ∧ Sh K H2 v d) → Fits d → kindB cc = false → PurlAt H' p → Off p H H' → Q v H'
end Sq
namespace Sq
open PySem L2 PySem.Spec PyProof.Rows L2H
/-! ### repr where an exception is handled -/
theorem call_repr2U {X : Cx} (hg : X.A.guards = some []) (hu : X.A.units + 200 < cLine) : CallR X (.builtin "repr") (rRepr2 X.K) := by
  intro pins s σ H xs us Q I r h
  obtain ⟨v, d, rfl, hd, ⟨h1, h3, h4, h5, h6⟩, q⟩ := h
  obtain ⟨u, rfl, r1⟩ := vals1 r
  cases hd with
  | dat hd h2 =>
    obtain ⟨as, rd⟩ := Dp.reads I d _ u hd r1
    cases hd with
    | non =>
      cases r1
      exact PySem.P.repr_of_none ⟨.str _, H, I.tok _, ⟨_, rfl⟩, q⟩
    | bl b =>
      cases r1
      exact PySem.P.repr_of_bool ⟨.str _, H, I.tok _, ⟨_, rfl⟩, q⟩
    | int i =>
      obtain ⟨t, rfl⟩ := r1
      exact PySem.P.repr_of_int (h5 i rfl) ⟨.str _, H, I.tok _, ⟨_, rfl⟩, q⟩
    | str x =>
      obtain ⟨t, rfl⟩ := r1
      exact PySem.P.repr_of_str ⟨.str _, H, I.tok _, ⟨_, rfl⟩, q⟩ (h6 x rfl)
    | lst hs ha =>
      cases r1
      refine repr_of_reads' rd h1 (fun z => by rw [h2] at z; cases z) hg (by omega) (fun _ _ z => z) (fun h' u' tk kp => ?_) h4
      exact ⟨.str _, H, I.kept kp, ⟨u', rfl⟩, q⟩
    | tup hs ha =>
      cases r1
      refine repr_of_reads' rd h1 (fun z => by rw [h2] at z; cases z) hg (by omega) (fun _ _ z => z) (fun h' u' tk kp => ?_) h4
      exact ⟨.str _, H, I.kept kp, ⟨u', rfl⟩, q⟩
  | @emp a ha =>
    cases r1
    obtain ⟨z, hsm, vs, kv, hD⟩ := dk_of I.hok ha
    cases kv
    obtain ⟨o, es, ep, e1, e2, e3, _, e4, _⟩ := hD
    have e5 : es = #[] := by
      cases es with
      | mk l =>
        cases e4
        rfl
    subst e5
    have rd : Reads s.heap (.ref a) (.dict []) (a :: [] ++ []) := .dict e1 e2.1 e3 .nil .nil
    refine repr_of_reads' rd h1 (fun _ z => ?_) hg (by omega) (fun _ _ z => z) (fun h' u' tk kp => ?_) h4
    · have z1 : sysModules ∈ [a] := z
      rw [List.mem_singleton] at z1
      rw [← z1] at hsm
      cases hsm
    · exact ⟨.str _, H, I.kept kp, ⟨u', rfl⟩, q⟩
/-- plain values, a dict with one text too -/
inductive Sh3 (K : PySem.W.Frag) (H : Hp) : V → PyData → Prop
  | old {v : V} {d : PyData} : Sh K H v d → Sh3 K H v d
  | one {a : Addr} {x : Str} {i : Int} : H a = some (.dK [(Sum.inr x, .int i)]) → Sh3 K H (.ref a) (.dict [(.str x, .int i)])
theorem Sh3.same {K : PySem.W.Frag} {H H' : Hp} (s : Same H H') {d : PyData} {v : V} (h : Sh3 K H v d) : Sh3 K H' v d := by
  cases h with
  | old h => exact .old (h.same s)
  | one h => exact .one (s _ _ h)
def rRepr3 (K : PySem.W.Frag) : List V → Hp → VK → Prop := fun xs H Q => ∃ (v : V) (d : PyData), xs = [v] ∧ Sh3 K H v d ∧ Fits d ∧ Q (.str (reprD d)) H
theorem call_repr3U {X : Cx} (hg : X.A.guards = some []) (hu : X.A.units + 200 < cLine) : CallR X (.builtin "repr") (rRepr3 X.K) := by
  intro pins s σ H xs us Q I r h
  obtain ⟨v, d, rfl, hd, hf, q⟩ := h
  cases hd with
  | old hd => exact call_repr2U hg hu pins s σ H [v] us Q I r ⟨v, d, rfl, hd, hf, q⟩
  | @one a x i ha =>
    obtain ⟨h1, h3, h4, h5, h6⟩ := hf
    obtain ⟨u, rfl, r1⟩ := vals1 r
    cases r1
    obtain ⟨z, hsm, vs, kv, hD⟩ := dk_of I.hok ha
    cases kv with
    | @cons p q ps qs hpq t =>
      cases t
      obtain ⟨hk, hv⟩ := hpq
      obtain ⟨q1, q2⟩ := q
      obtain rfl : (Sum.inr x : Key) = q1 := hk
      obtain ⟨o, es, ep, e1, e2, e3, _, e4, _⟩ := hD
      obtain ⟨t2, hv2⟩ : ∃ t2, q2 = .int i t2 := hv
      subst hv2
      have e5 : ∃ en : DictEntry, es.toList = [en] ∧ keyIs (Sum.inr x) en.key = true ∧ en.val = .int i t2 := by
        cases es with
        | mk l =>
          cases e4
          rename_i en rest lf hk2 hv3 hr
          cases hr
          exact ⟨en, rfl, hk2, hv3⟩
      obtain ⟨en, el, ek, ev⟩ := e5
      obtain ⟨t1, ek⟩ : ∃ t1, en.key = .str x t1 := by
        rcases keyIs_shape ek with ⟨i, t, z, _⟩ | ⟨y, t, z, e⟩
        · cases z
        · cases z
          exact ⟨t, e⟩
      have rk : ReadsAll s.heap (es.toList.map (·.key)) ([((PyData.str x, PyData.int i) : PyData × PyData)].map (·.1)) ([] ++ []) := by
        rw [el, List.map_cons, List.map_nil, ek]
        exact .cons (.str x t1) .nil
      have rv : ReadsAll s.heap (es.toList.map (·.val)) ([((PyData.str x, PyData.int i) : PyData × PyData)].map (·.2)) ([] ++ []) := by
        rw [el, List.map_cons, List.map_nil, ev]
        exact .cons (.int i t2) .nil
      have rd : Reads s.heap (.ref a) (.dict [(.str x, .int i)]) (a :: ([] ++ []) ++ ([] ++ [])) := .dict e1 e2.1 e3 rk rv
      refine repr_of_reads' rd h1 (fun _ z => ?_) hg (by omega) (fun _ _ z => z) (fun h' u' tk kp => ?_) h4
      · have z1 : sysModules ∈ [a] := z
        rw [List.mem_singleton] at z1
        rw [← z1] at hsm
        cases hsm
      · exact ⟨.str _, H, I.kept kp, ⟨u', rfl⟩, q⟩
/-- what an exception wishes may ask that the slots are as many as the names -/
theorem takes_len {X : Cx} {W : WX} (tk : L2N.Takes X W) : L2N.Takes X (fun cls d σ H => σ.length = X.N.length → W cls d σ H) := fun u s' x => by
  obtain ⟨a, B, sI, pins, σ, H, cls, d, e, I, nb, up, sky, na, os, ag, w⟩ := x
  exact tk u s' ⟨a, B, sI, pins, σ, H, cls, d, e, I, nb, up, sky, na, os, ag, w I.len⟩
end Sq
namespace Sq
open PySem L2 PySem.Spec PyProof.Rows TL L2H
section
variable {P : Program} {w : World} {K : PySem.W.Frag} {mg : Str → Option Value} {base : Heap}
abbrev s__law_answer : Stmt := top 72
theorem sc__law_answer : FnScope ["_law_call", "_law_told", "_law_e", "_law_word"] ["_law_call"] (defScope s__law_answer) := ⟨rfl, rfl, rfl, by decide +kernel, rfl, by decide +kernel, by decide +kernel⟩
/-- D is the class of the errors of the kind t, which the answer's clause catches -/
structure ErrK (K : PySem.W.Frag) (C : Nat → Addr) (D : Addr) (t : Nat) : Prop where
  is : IsErr K C D t
  fld : ErrF K D
  lt : t < 24
  exm : PySem.W.exmAny K (.ref D) [.ref (C 26), .ref (C 27), .ref (C 28)] = some true
/-- what is asked behind the lambda that has returned x -/
def ansRest (K : PySem.W.Frag) (Q : VK) (f : Addr) : VK := fun x H1 => tRet (tTup (tCons (tC (.str "told")) (tCons (tCB (rRepr3 K) (tCons (tVar 1) tNil)) tNil))) { nx := fun _ H' => Q .non H', rt := Q } [some (.ref f), some x, none, none] H1
/-- what is asked of an error of the lambda -/
def ansErr (K : PySem.W.Frag) (C : Nat → Addr) (Q : VK) : XK := fun cls d H' => ∃ (D dd : Addr) (t : Nat) (v : V) (dat : PyData), cls = .ref D ∧ d = some dd ∧ ErrK K C D t ∧ H' dd = some (.xd [(fldOf t, v)]) ∧ Sh3 K H' v dat ∧ Fits dat ∧ ∀ tp H2, Same H' H2 → H2 tp = some (.tup [.str (wd t), .str (reprD dat)]) → Q (.ref tp) H2
/-- what the answer's function makes of the lambda's reading -/
def TAns (K : PySem.W.Frag) (C : Nat → Addr) : Addr → (XK → Hp → VK → Prop) → Hp → VK → Prop := fun f tl H Q => tl (ansErr K C Q) H (ansRest K Q f)
theorem ans_told {K : PySem.W.Frag} {Q : VK} {f : Addr} {v : V} {H1 : Hp} {dat : PyData} (hv : Sh3 K H1 v dat) (hf : Fits dat) (q : ∀ tp H2, Same H1 H2 → H2 tp = some (.tup [.str "told", .str (reprD dat)]) → Q (.ref tp) H2) : ansRest K Q f v H1 :=
  ⟨_, rfl, v, dat, rfl, hv, hf, by show 2 ≤ sizeLine; decide, fun tp ntp => q tp _ (same_new ntp) upd_same⟩
/-- the suite's reading, over the caught error -/
def suiteR (K : PySem.W.Frag) (C : Nat → Addr) (pe : Addr × Obj) : TS := tSeq (tAsg (tCallG (spKind K C pe) (tCons (tVar 2) tNil)) (gName 3)) (tRet (tTup (tCons (tVar 3) (tCons (tCB (rRepr3 K) (tCons (tCallG (spKept K pe) (tCons (tVar 2) (tCons (tVar 3) tNil))) tNil)) tNil))))
def suiteT (K : PySem.W.Frag) (C : Nat → Addr) : Addr → Value → Option Addr → TS := fun a cls d D σ H => ∀ oe : Obj, L2N.Zn cls d oe → (∃ vs, oe.data = .fields vs) → suiteR K C (a, oe) D σ H
theorem ask_answer {X : Cx} {C : Nat → Addr} {g : Addr} {cdg : Value} {k : Nat} {qn : Str} (G_kind : FBP X.prog X.w X.K X.mg X.base "_law_kind_of_error" 1 (spKind X.K C)) (G_kept : FBP X.prog X.w X.K X.mg X.base "_law_kept_of_error" 1 (spKept X.K)) (M : Ers X.mg C) (rp : X.mg "repr" = none) (hgd : X.A.guards = some []) :
    AskN X ["_law_call", "_law_told", "_law_e", "_law_word"] "_law_answer" (defScope s__law_answer) g cdg (defBody s__law_answer) "_law_call" qn k (TAns X.K C) := by
  intro f c' s H Q tl hr act hc h
  have hun := hr.un
  have hu : (X.A.deeper (envOfC "_law_answer" (defScope s__law_answer) s.heap.objs.size g cdg)).units + 200 < cLine := by omega
  refine ⟨_, pss_cons (ps_try3 (X := (cxOf CX0 X.prog X.w X.K X.mg X.base ["_law_call", "_law_told", "_law_e", "_law_word"] "_law_answer" (defScope s__law_answer) g cdg X.A X.stack s H E0).nox) (c1 := .ref (C 26)) (c2 := .ref (C 27)) (c3 := .ref (C 28)) (i := 2) (ts := suiteT X.K C)
      (tb := fun W D σ H => ∃ Ech : XK, (∀ cls d σ' H', σ'.length = 4 → Ech cls d H' → W cls d σ' H') ∧ σ[0]? = some (some (.ref f)) ∧ H c' = some (LamX.CodeO c' qn) ∧ tl Ech H fun x H1 => D.nx (σ.set 1 (some x)) H1)
      sc__law_answer.nd rfl rfl ⟨(by rfl), (by decide), .inl M.WrongValue⟩ ⟨(by rfl), (by decide), .inl M.WrongName⟩ ⟨(by rfl), (by decide), .inl M.NoAnswer⟩ rfl rfl (fun W pn xe tk _ => ?_) (fun a oe cls d pn hz hf => ?_))
    (pss_one (ps_ret (pe_tup (pa_cons pe_str (pa_cons (pe_callB (call_repr3U hgd hu) (by rfl) rp (by decide +kernel) (pa_cons (pv 1) pa_nil)) pa_nil))))), ?_⟩
  · refine ⟨fun pins s' σ H' D I h' => ?_⟩
    obtain ⟨Ech, hW, h1, h2, h3⟩ := h'
    refine PSs.run (t := tAsg (fun σZ HZ Q => σZ[0]? = some (some (.ref f)) ∧ HZ c' = some (LamX.CodeO c' qn) ∧ tl Ech HZ Q) (gName 1)) ?_ pins s' σ H' D I ⟨h1, h2, h3⟩
    exact pss_one (ps_set (i := 1) sc__law_answer.nd rfl (.inl rfl) (act (fun cls d σ H => σ.length = 4 → W cls d σ H) pn xe Ech _ _ (takes_len tk) (fun cls d σ' H' e hl => hW cls d σ' H' hl e)))
  · refine ⟨fun pins s' σ H' D I h' => ?_⟩
    have hot : Hot1 ((cxOf CX0 X.prog X.w X.K X.mg X.base ["_law_call", "_law_told", "_law_e", "_law_word"] "_law_answer" (defScope s__law_answer) g cdg X.A X.stack s H E0).nox.suite a ((a, oe) :: pn)).A (a, oe) := by
      obtain ⟨vs, hv⟩ := hf
      exact ⟨rfl, vs, hv, hz.2.2 vs hv⟩
    have hrh : RoomH (k + 1) ((cxOf CX0 X.prog X.w X.K X.mg X.base ["_law_call", "_law_told", "_law_e", "_law_word"] "_law_answer" (defScope s__law_answer) g cdg X.A X.stack s H E0).nox.suite a ((a, oe) :: pn)).A := ⟨hr.dp, hr.un⟩
    refine PSs.run (t := suiteR X.K C (a, oe)) ?_ pins s' σ H' D I (h' oe hz hf)
    exact pss_cons (ps_set (i := 3) sc__law_answer.nd rfl (.inl rfl) (pe_fbP G_kind hrh (by omega) hot List.mem_cons_self (by rfl) (pa_cons (pv 2) pa_nil)))
        (pss_one (ps_ret (pe_tup (pa_cons (pv 3) (pa_cons (pe_callB (call_repr3U hgd hu) (by rfl) rp (by decide +kernel) (pa_cons (pe_fbP G_kept hrh (by omega) hot List.mem_cons_self (by rfl) (pa_cons (pv 2) (pa_cons (pv 3) pa_nil))) pa_nil)) pa_nil)))))
  · refine ⟨ansErr X.K C Q, fun cls d σ' H' hl e => ?_, rfl, hc, h⟩
    · obtain ⟨D, dd, t, v, dat, rfl, rfl, EK, hd, hv, hfit, q⟩ := e
      refine ⟨EK.exm, fun a na oe hz hf => ?_⟩
      match σ', hl with
      | [w0, w1, w2, w3], _ =>
        refine ⟨_, rfl, D, dd, _, t, rfl, ⟨hz, hf, hd⟩, EK.is, fun H1 s1 => ?_⟩
        refine ⟨_, rfl, _, rfl, _, rfl, D, dd, t, v, rfl, EK.lt, ⟨hz, hf, s1 _ _ hd⟩, EK.fld, fun H2 s2 => ?_⟩
        refine ⟨v, dat, rfl, (hv.same s1).same s2, hfit, (by show 2 ≤ sizeLine; decide), fun tp ntp => ?_⟩
        exact q tp _ ((s1.trans s2).trans (same_new ntp)) upd_same
end
end Sq
namespace Sq
open PySem L2 PySem.Spec PyProof.Rows
/-! ### chains of comparisons, of any length -/
structure CmL (X : Cx) (ops : List CmpOp) (es : List Expr) (t : V → TE) : Prop where
  run : ∀ (pins : List (Addr × Obj)) (s : Shared) (σ : L2.St) (H : Hp) (x : V) (v : Value) (pos : Pos) (Q : VK), Inv X pins σ H s → RelV x v → t x σ H Q →
    wpAny (model X.prog X.w) X.A (compareChain pos v ops (evalEach es X.env)) (EP X pins σ Q) X.xe s
section
variable {X : Cx} {op op' : CmpOp} {ops : List CmpOp} {a b c : Expr} {es : List Expr} {r : R2} {ta tb : TE} {t : V → TE} {pos : Pos}
theorem pl_last (ho : OpR X (compareOp op) r) (hb : PE X b tb) : CmL X [op] [b] (fun x σ H Q => tb σ H fun y H1 => r x y H1 Q) := ⟨fun pins s σ H x v pos Q I rx h =>
  chain_last (thn (hb.run pins s σ H _ I h) fun u s2 ⟨y, H2, I2, r2, q2⟩ => ho pins s2 σ H2 x y v u Q I2 rx r2 q2)⟩
theorem pl_link (ho : OpR X (compareOp op) r) (hb : PE X b tb) (hl : CmL X (op' :: ops) (c :: es) t) :
    CmL X (op :: op' :: ops) (b :: c :: es) (fun x σ H Q => tb σ H fun y H1 => r x y H1 fun z H2 => ∃ k, z = .bl k ∧ (if k = true then t y σ H2 Q else Q (.bl false) H2)) := ⟨fun pins s σ H x v pos Q I rx h => by
  refine chain_link (thn (hb.run pins s σ H _ I h) fun u s2 ⟨y, H2, I2, r2, q2⟩ => thn (ho pins s2 σ H2 x y v u _ I2 rx r2 q2) fun d s3 ⟨z, H3, I3, r3, k, e, q3⟩ => ?_)
  subst e
  cases r3
  refine wpAny_truthy_bool ?_
  cases k with
  | false => exact ite_ff ⟨.bl false, H3, I3, rfl, q3⟩
  | true => exact ite_tt (hl.run pins s3 σ H3 y u pos Q I3 r2 q3)⟩
theorem pe_chainN (ha : PE X a ta) (hl : CmL X (op :: op' :: ops) (b :: c :: es) t) (hm : lastMarks (op :: op' :: ops) (b :: c :: es) = false := by with_unfolding_all rfl) : PE X (.Compare a (op :: op' :: ops) (b :: c :: es) pos) (fun σ H Q => ta σ H fun x H1 => t x σ H1 Q) := ⟨fun pins s σ H Q I h =>
  Compare_chain (thn (ha.run pins s σ H _ I h) fun v s1 ⟨x, H1, I1, r1, q1⟩ => hl.run pins s1 σ H1 x v pos Q I1 r1 q1) hm⟩
end
end Sq
namespace Sq
open PySem L2 PySem.Spec PyProof.Rows
/-- xs != [], whatever xs holds -/
def rNeNil (K : PySem.W.Frag) : R2 := fun x y H Q => ∃ (a b : Addr) (xs : List V), x = .ref a ∧ y = .ref b ∧ SqL K H a xs ∧ SqL K H b [] ∧ Q (.bl (!decide (xs.length = 0))) H
theorem op_neNil {X : Cx} {k : Nat} (hr : Room k X.A) : OpR X (compareOp .NotEq) (rNeNil X.K) := by
  intro pins s σ H x y v u Q I rx ry h
  obtain ⟨a, b, xs, rfl, rfl, ha, hb, q⟩ := h
  cases rx
  cases ry
  obtain ⟨us, r1, p1, _⟩ := I.list ha
  obtain ⟨ws, r2, p2, _⟩ := I.list hb
  cases r2
  show wpAny (model X.prog X.w) X.A (richCompare .NotEq (.ref a) (.ref b)) (EP X pins σ Q) X.xe s
  by_cases hx : xs = []
  · subst hx
    cases r1
    have q : Q (.bl false) H := q
    exact SeqAt.RcNeAt.lists (e := fun _ => true) p1.isList p2.isList rfl hr.units0 (fun j h1 _ => absurd h1 (Nat.not_lt_zero j)) _ _ _ _ ⟨.bl false, H, I, rfl, q⟩
  · have hz : xs.length ≠ 0 := fun e => hx (List.length_eq_zero_iff.mp e)
    rw [decide_eq_false hz] at q
    refine SeqAt.RcNeAt.lists_lengths p1.isList p2.isList ?_ hr.units0 _ _ _ _ ⟨.bl true, H, I, rfl, q⟩
    rw [List.size_toArray, ← r1.length]
    simpa using hx
end Sq
namespace Sq
open PySem L2 PySem.Spec PyProof.Rows TL LamX L2H
open N3 (FlX)
structure AnsK (P : Program) (w : World) (K : PySem.W.Frag) (mg : Str → Option Value) (base : Heap) (C : Nat → Addr) : Prop where
  ex : ∃ g fd, Fun K "_law_answer" "_law_answer" s__law_answer g fd ∧ mg "_law_answer" = some (.ref g) ∧ Binds K fd ["_law_call"] []
  kind : FBP P w K mg base "_law_kind_of_error" 1 (spKind K C)
  kept : FBP P w K mg base "_law_kept_of_error" 1 (spKept K)
  ers : Ers mg C
  rp : mg "repr" = none
theorem _root_.L2.Room.units200 {k : Nat} {A : Around} (h : Room k A) : A.units + 200 < cLine := by
  have h1 := h.un
  omega
section
variable {X : Cx} {C : Nat → Addr} {T : List (Addr × Str)} {c Pt : Addr} {k : Nat} {params : Arguments} {body : Expr} {scope : Scope} {t : XK → TE} {p lpos pos : Pos}
theorem pe_ask (AK : AnsK X.prog X.w X.K X.mg X.base C) (hgd : X.A.guards = some []) (TB : TabB X.base X.mg c Pt) (hcode : X.env.code = .ref c) (hmT : (Pt, X.env.qual ++ "<lambda>") ∈ T) (hu : ∀ p ∈ T, p.1 = Pt → p.2 = X.env.qual ++ "<lambda>") (hr : Room (k + 2) X.A) (L : LamS X.env.scope scope) (hdef : defaultsOf params X.env = ([], []))
    (hbind : ∀ (q : Str) (cl : List (Str × Addr)) (pm cv ctv : Value), bindArgs (PySem.W.kla_fn "<lambda>" q params body scope cl pm cv ctv) ⟨[], []⟩ = pure [])
    (hbody : ∀ (A : Around) (outer : List Env) (s : Shared) (H : Hp) (E : XK) (f c' : Addr), Room k (A.deeper (lamEnv X scope s.heap.objs.size f c')) → PE (lamX X A outer s H E scope f c') body (t E)) (hg : Gl X "_law_answer" := by rfl) :
    PE X (.Call (.Name "_law_answer" p) [.Lambda params body scope lpos] [] pos) (tLamN T (TAns X.K C) t) := by
  obtain ⟨g, fd, F, m, B⟩ := AK.ex
  obtain ⟨oc, od, kV, doc, pm, an, cdg, ct, osl, rfl, lk, hcd⟩ := F.ex
  exact pe_lamN hg m F.kp lk hcd B sc__law_answer rfl (.inl rfl) (ask_answer AK.kind AK.kept AK.ers AK.rp hgd) TB hcode hmT hu hr L hdef hbind hbody
end
/-- the answer's tuple is handed on -/
def Told (Q : VK) (a b : Str) (H : Hp) : Prop := ∀ tp H2, Same H H2 → H2 tp = some (.tup [.str a, .str b]) → Q (.ref tp) H2
theorem Told.same {Q : VK} {a b : Str} {H H' : Hp} (h : Told Q a b H) (s : Same H H') : Told Q a b H' := fun tp H2 s2 e => h tp H2 (s.trans s2) e
theorem told_err {K : PySem.W.Frag} {C : Nat → Addr} {Q : VK} {D : Addr} {t : Nat} {v : V} {d : PyData} {H : Hp} (EK : ErrK K C D t) (hv : ∀ H2, Same H H2 → Sh3 K H2 v d) (hf : Fits d) (q : Told Q (wd t) (reprD d) H) : FlX (ansErr K C Q) D (fldOf t) v H := fun a H' s e =>
  ⟨D, a, t, v, d, rfl, rfl, EK, e, hv _ s, hf, fun tp H2 s2 e2 => q tp H2 (s.trans s2) e2⟩
def OffT (p : Addr) (H H' : Hp) : Prop := ∀ b o, b ≠ p → H b = some o → (∀ ps, o ≠ .tbl ps) → H' b = some o
theorem OffT.trans {p : Addr} {H H1 H2 : Hp} (a : OffT p H H1) (b : OffT p H1 H2) : OffT p H H2 := fun c o n h t => b c o n (a c o n h t) t
theorem OffT.of {p : Addr} {H H' : Hp} (a : N3.Off p H H') : OffT p H H' := fun c o n h _ => a c o n h
theorem OffT.ext {p : Addr} {H H' : Hp} (a : ExtN H H') : OffT p H H' := fun c o _ h t => a c o h t
theorem passN0 {X : Cx} : Passes (L2N.CX X.prog X.w) X E0 := fun pins σ H s e s' I h => by
  obtain ⟨a, B, H', cls, d, ea, fl, hok, ub, na, os, ag, he⟩ := h
  exact False.elim he
theorem sqL_extN {K : PySem.W.Frag} {H H' : Hp} {a : Addr} {xs : List V} (h : SqL K H a xs) (e : ExtN H H') : SqL K H' a xs :=
  h.elim (fun h => .inl (h.elim (fun h => .inl (e _ _ h fun ps z => by cases z)) fun ⟨o, h⟩ => .inr ⟨o, e _ _ h fun ps z => by cases z⟩)) fun h => .inr h
theorem OffT.put {p D : Addr} {H H' : Hp} {o : HO} (h : OffT p H H') (n : H D = none) : OffT p H (upd H' D o) := fun b u nb hb ht => by
  rw [upd_ne (fun e => by rw [e, n] at hb; cases hb)]
  exact h b u nb hb ht
theorem tabs_put {Ts : List (Addr × Str)} {H : Hp} {D : Addr} {xs ys : List V} (h : Tabs Ts H) (hD : H D = some (.lst xs)) : Tabs Ts (upd H D (.lst ys)) := fun x hx => by
  obtain ⟨ps, h1, h2, h3⟩ := h x hx
  refine ⟨ps, by rw [upd_ne (fun e => by rw [e, hD] at h1; cases h1)]; exact h1, h2, fun pos cv hc => ?_⟩
  obtain ⟨c, e1, e2⟩ := h3 pos cv hc
  refine ⟨c, e1, ?_⟩
  rw [upd_ne (fun e => ?_)]
  · exact e2
  · rw [e, hD] at e2
    have e3 := Option.some.inj e2
    unfold CodeO at e3
    cases e3
theorem eq2 {K : PySem.W.Frag} {H : Hp} {t1 t2 : Addr} {a b : Str} {Q : VK} (h1 : H t1 = some (.tup [.str a, .str b])) (h2 : H t2 = some (.tup [.str a, .str b])) (q : ∀ H', Same H H' → Q (.bl true) H') : rEqG (DTup K DFlat) (.ref t1) (.ref t2) H Q := by
  have d : ∀ x : Str, DFlat (.str x) (.str x) H := fun x => ⟨rfl, rfl, by simp [eqV]⟩
  exact ⟨⟨t1, t2, _, _, rfl, rfl, SqT.of h1, SqT.of h2, Prs.cons (d a) (Prs.cons (d b) Prs.nil)⟩, q⟩
theorem tabs_off {Ts : List (Addr × Str)} {H H' : Hp} {p : Addr} (h : Tabs Ts H) (o : N3.Off p H H') (hp : N3.BagAt H p) : Tabs Ts H' := fun x hx => by
  obtain ⟨ps, h1, h2, h3⟩ := h x hx
  obtain ⟨m, d, k, hp⟩ := hp
  refine ⟨ps, o _ _ (fun e => by rw [e, hp] at h1; cases h1) h1, h2, fun pos cv hc => ?_⟩
  obtain ⟨c, e1, e2⟩ := h3 pos cv hc
  refine ⟨c, e1, o _ _ (fun e => ?_) e2⟩
  rw [e, hp] at e2
  have e3 := Option.some.inj e2
  unfold CodeO at e3
  cases e3


end Sq
namespace Sq
open PySem L2 PySem.Spec PyProof.Rows TL LamX L2H
open N3 (FlX NestD NestT NestIs ProgAt PlanH PartH PartOk Part reprT deedSum rowOf actS BagAt)

theorem log_small3 {n : Nat} (h : n ≤ 1000) : ((n : Nat) : Int).natAbs.log2 < 1920 := N3.small_log h
/-! ### what the nests of a program show -/
def dN (n : NestD) : PyData := .list [.str n.1, .str n.2.1, .tuple (n.2.2.map .str)]
def dSeen (ns : List NestD) : PyData := .list (ns.map dN)
theorem dN_ok {n : NestD} (h : NestT n) : (dN n).showable = true ∧ (dN n).hasDict = false ∧ (dN n).depth ≤ 3 ∧ (dN n).leavesShort 8 = true ∧ (dN n).bulk ≤ 1300 := by
  have dl := h.dl
  have hd := N3.strs_depth n.2.2
  have h1 : n.1.cps.toList.all (fun c => decide (c < 16 ^ 8)) = true := List.all_eq_true.mpr fun c hc => decide_eq_true (Nat.lt_trans (h.c1 c hc) (by decide))
  have h2 : n.2.1.cps.toList.all (fun c => decide (c < 16 ^ 8)) = true := List.all_eq_true.mpr fun c hc => decide_eq_true (Nat.lt_trans (h.c2 c hc) (by decide))
  have h3 := N3.strs_short n.2.2 fun d hd => (h.ds d hd).cp
  have b := N3.strs_bulk (m := 200) n.2.2 fun d hd => (h.ds d hd).ln
  have e : (dN n).bulk = n.1.cps.size + 1 + (n.2.1.cps.size + 1 + (PyData.bulkAll (n.2.2.map .str) + 1 + 0)) := by simp only [dN, PyData.bulk, PyData.bulkAll]
  have k : (200 + 1) * n.2.2.length ≤ 201 * 6 := Nat.mul_le_mul_left _ dl
  have l1 : n.1.cps.size ≤ 40 := h.l1
  have l2 : n.2.1.cps.size ≤ 40 := h.l2
  refine ⟨by simp [dN, PyData.showable, PyData.showableAll, N3.strs_show], by simp [dN, PyData.hasDict, PyData.hasDictAll, N3.strs_dict], by simp only [dN, PyData.depth, PyData.depthAll]; omega,
    by simp only [dN, PyData.leavesShort, PyData.leavesShortAll, h1, h2, h3, Bool.and_true], by rw [e]; omega⟩
theorem dSeen_all : ∀ {ns : List NestD}, (∀ n ∈ ns, NestT n) → PyData.showableAll (ns.map dN) = true ∧ PyData.hasDictAll (ns.map dN) = false ∧ PyData.depthAll (ns.map dN) ≤ 3 ∧ PyData.leavesShortAll 8 (ns.map dN) = true ∧ PyData.bulkAll (ns.map dN) ≤ 1301 * ns.length
  | [], _ => by
    refine ⟨by simp [PyData.showableAll], by simp [PyData.hasDictAll], by simp [PyData.depthAll], by simp [PyData.leavesShortAll], by simp [PyData.bulkAll]⟩
  | n :: ns, h => by
    obtain ⟨a1, a2, a3, a4, a5⟩ := dN_ok (h n List.mem_cons_self)
    obtain ⟨b1, b2, b3, b4, b5⟩ := dSeen_all fun m hm => h m (List.mem_cons_of_mem _ hm)
    refine ⟨by simp only [List.map_cons, PyData.showableAll, a1, b1, Bool.and_self], by simp only [List.map_cons, PyData.hasDictAll, a2, b2, Bool.or_self], ?_, by simp only [List.map_cons, PyData.leavesShortAll, a4, b4, Bool.and_self], ?_⟩
    · rw [List.map_cons, PyData.depthAll]
      omega
    · rw [List.map_cons, PyData.bulkAll, List.length_cons, Nat.mul_add]
      omega
theorem dSeen_ok {ns : List NestD} (h : ∀ n ∈ ns, NestT n) (hl : ns.length ≤ 8) : N3.Shows (dSeen ns) := by
  obtain ⟨b1, b2, b3, b4, b5⟩ := dSeen_all h
  refine ⟨by simp only [dSeen, PyData.showable, b1], by simp only [dSeen, PyData.hasDict, b2], by simp only [dSeen, PyData.depth]; omega, ?_⟩
  have z := PyData.shown_le_bulk 8 (Nat.le_refl _) (dSeen ns) (by simp only [dSeen, PyData.leavesShort, b4])
  have e : (dSeen ns).bulk = PyData.bulkAll (ns.map dN) := by simp only [dSeen, PyData.bulk]
  have big : 200000 ≤ sizeLine := by decide
  rw [e] at z
  omega
def rLen2 (K : PySem.W.Frag) : List V → Hp → VK → Prop := fun xs H Q => ∃ p ys, xs = [V.ref p] ∧ (SqL K H p ys ∨ SqT K H p ys) ∧ Q (.int ys.length) H
theorem call_len2 {X : Cx} : CallR X (.builtin "len") (rLen2 X.K) := call_len_seq
def rTupOf (K : PySem.W.Frag) : List V → Hp → VK → Prop := fun xs H Q => ∃ p ys, xs = [V.ref p] ∧ ((SqL K H p ys ∧ ∀ l, H l = none → Q (.ref l) (upd H l (.tup ys))) ∨ (SqT K H p ys ∧ Q (.ref p) H))
theorem call_tupOf {X : Cx} : CallR X (.type "tuple") (rTupOf X.K) := call_tuple_of
def compScAt (st : Stmt) (i : Nat) : Scope := match (defBody st)[i]? with
  | some (.Assign _ (.ListComp _ _ sc _) _) => sc
  | _ => defScope st
/-- the class Program: its nests, len, bool, repr -/
structure ProgS (P : Program) (w : World) (K : PySem.W.Frag) (mg : Str → Option Value) (base : Heap) (CP C : Addr) : Prop where
  pc : N3.Pc K CP
  mP : mg "Program" = some (.ref CP)
  p1 : ∃ p g d, PropOf K CP "nests" p g ∧ FnOk P w K mg base CX0 1 g d ["self"] (getSp CP "_nests") ∧ Binds K d ["self"] []
  len : ∃ f, PySem.W.findIn K (.ref CP) "__len__" = some (some (.ref f)) ∧ PySem.W.isFn K (.ref f) = true ∧ FnR P w K mg base CX0 1 f (N3.spPLen CP C)
  bool : ∃ f, PySem.W.findIn K (.ref CP) "__bool__" = some (some (.ref f)) ∧ PySem.W.isFn K (.ref f) = true ∧ FnR P w K mg base CX0 1 f N3.spTrue
  repr : ∃ f, PySem.W.findIn K (.ref CP) "__repr__" = some (some (.ref f)) ∧ PySem.W.isFn K (.ref f) = true ∧ FnR P w K mg base CX0 3 f (N3.spPReprX CP C)
  str : ∃ f, PySem.W.findIn K (.ref CP) "__str__" = some (some (.ref f)) ∧ PySem.W.isFn K (.ref f) = true ∧ FnR P w K mg base CX0 4 f (N3.spPStr CP C)
/-- a list of objects, one a nest -/
def LsAt (φ : Hp → Addr → NestD → Prop) (H : Hp) (D : Addr) (ns : List NestD) : Prop := ∃ ls : List Addr, H D = some (.lst (ls.map V.ref)) ∧ ls.length = ns.length ∧ ∀ (j : Nat) (l : Addr) (n : NestD), ls[j]? = some l → ns[j]? = some n → l ≠ D ∧ φ H l n
/-- what a heap beside D keeps -/
def Kpt (φ : Hp → Addr → NestD → Prop) : Prop := ∀ (H H' : Hp) (D l : Addr) (n : NestD) (zs : List V), H D = some (.lst zs) → (∀ b u, b ≠ D → H b = some u → H' b = some u) → l ≠ D → φ H l n → φ H' l n
theorem LsAt.nil {φ : Hp → Addr → NestD → Prop} {H : Hp} {D : Addr} (h : H D = some (.lst [])) : LsAt φ H D [] := ⟨[], h, rfl, fun j l n e => by cases e⟩
theorem LsAt.put {φ : Hp → Addr → NestD → Prop} (kp : Kpt φ) {H H1 : Hp} {D x : Addr} {ns : List NestD} {m : NestD} {ls : List Addr} (hD : H D = some (.lst (ls.map V.ref))) (ll : ls.length = ns.length) (hls : ∀ (j : Nat) (l : Addr) (n : NestD), ls[j]? = some l → ns[j]? = some n → l ≠ D ∧ φ H l n)
    (s : Same H H1) (nx : x ≠ D) (hx : φ H1 x m) : LsAt φ (upd H1 D (.lst (ls.map V.ref ++ [.ref x]))) D (ns ++ [m]) := by
  have hD1 := s _ _ hD
  refine ⟨ls ++ [x], by rw [upd_same, List.map_append]; rfl, by rw [List.length_append, List.length_append, ll]; rfl, fun j l n hl hn => ?_⟩
  by_cases hj : j < ls.length
  · rw [List.getElem?_append_left hj] at hl
    rw [List.getElem?_append_left (by omega)] at hn
    obtain ⟨a, b⟩ := hls j l n hl hn
    exact ⟨a, kp H _ D l n _ hD (fun b u nb e => by rw [upd_ne nb]; exact s _ _ e) a b⟩
  · rw [List.getElem?_append_right (by omega)] at hl
    rw [List.getElem?_append_right (by omega), ← ll] at hn
    cases hd : j - ls.length with
    | zero =>
      rw [hd] at hl hn
      cases hl
      cases hn
      exact ⟨nx, kp H1 _ D _ _ _ hD1 (fun b u nb e => by rw [upd_ne nb]; exact e) nx hx⟩
    | succ n =>
      rw [hd] at hl
      cases hl
theorem LsAt.same {φ : Hp → Addr → NestD → Prop} (kp : Kpt φ) {H H' : Hp} {D : Addr} {ns : List NestD} (s : Same H H') (h : LsAt φ H D ns) : LsAt φ H' D ns := by
  obtain ⟨ls, hD, ll, hls⟩ := h
  exact ⟨ls, s _ _ hD, ll, fun j l n hl hn => ⟨(hls j l n hl hn).1, kp H H' D l n _ hD (fun b u _ e => s _ _ e) (hls j l n hl hn).1 (hls j l n hl hn).2⟩⟩
def SeenAt (H : Hp) (l : Addr) (n : NestD) : Prop := ∃ dp, H l = some (.lst [.str n.1, .str n.2.1, .ref dp]) ∧ H dp = some (.tup (n.2.2.map V.str))
def DueAt (H : Hp) (l : Addr) (n : NestD) : Prop := H l = some (.lst [.str n.1, .str n.2.1])
def RowsAt (H : Hp) (l : Addr) (n : NestD) : Prop := H l = some (.lst (n.2.2.map V.str))
theorem kpt_seen : Kpt SeenAt := fun H H' D l n zs hD k nl h => by
  obtain ⟨dp, h1, h2⟩ := h
  exact ⟨dp, k _ _ nl h1, k _ _ (fun e => by rw [e, hD] at h2; cases h2) h2⟩
theorem kpt_due : Kpt DueAt := fun H H' D l n zs hD k nl h => k _ _ nl h
theorem kpt_rows : Kpt RowsAt := fun H H' D l n zs hD k nl h => k _ _ nl h
theorem seen_dp {K : PySem.W.Frag} {H : Hp} : ∀ {ls : List Addr} {ns : List NestD}, ls.length = ns.length → (∀ (j : Nat) (l : Addr) (n : NestD), ls[j]? = some l → ns[j]? = some n → SeenAt H l n) → DpAll K H (ls.map V.ref) (ns.map dN)
  | [], [], _, _ => .nil
  | l :: ls, n :: ns, hl, h => by
    obtain ⟨dp, h1, h2⟩ := h 0 l n rfl rfl
    exact .cons (.lst (SqL.of h1) (.cons (.str _) (.cons (.str _) (.cons (.tup (SqT.of h2) (dp_strs n.2.2)) .nil)))) (seen_dp (by simpa using hl) fun j l' n' a b => h (j + 1) l' n' a b)
  | [], _ :: _, hl, _ => by cases hl
  | _ :: _, [], hl, _ => by cases hl
theorem LsAt.dp {K : PySem.W.Frag} {H : Hp} {D : Addr} {ns : List NestD} (h : LsAt SeenAt H D ns) : Dp K H (.ref D) (dSeen ns) := by
  obtain ⟨ls, hD, ll, hls⟩ := h
  exact .lst (SqL.of hD) (seen_dp ll fun j l n a b => (hls j l n a b).2)
theorem LsAt.get {φ : Hp → Addr → NestD → Prop} {H : Hp} {D : Addr} {ns : List NestD} {i : Nat} {n : NestD} (h : LsAt φ H D ns) (hi : ns[i]? = some n) : ∃ (ls : List Addr) (l : Addr), H D = some (.lst (ls.map V.ref)) ∧ atI (ls.map V.ref) ((i : Nat) : Int) = some (.ref l) ∧ φ H l n := by
  obtain ⟨ls, hD, ll, hls⟩ := h
  have lt : i < ls.length := by rw [ll]; exact (List.getElem?_eq_some_iff.mp hi).1
  exact ⟨ls, ls[i], hD, atI_nat (by rw [List.getElem?_map, List.getElem?_eq_getElem lt]; rfl), (hls i _ n (List.getElem?_eq_getElem lt) hi).2⟩
def spShows (CP C : Addr) : Sp := fun vs H Q _ => ∃ (N : Addr → Prop) (a D : Addr) (qs : List Part), vs = [.ref a, .ref D] ∧ ProgAt CP C H a (qs.map Part.nest) ∧ PlanH N H D qs ∧ (∀ q ∈ qs, PartOk q) ∧ qs.length ≤ 4 ∧ ∀ H', Same H H' → Q (.bl true) H'
section
variable {P : Program} {w : World} {K : PySem.W.Frag} {mg : Str → Option Value} {base : Heap} {C CP : Addr}
abbrev s__law_shows : Stmt := top 73
theorem sc__law_shows : FnScope ["_law_one", "_law_plan", "_law_deeds", "_law_part_here", "_law_seen", "_law_nest", "_law_due", "_law_rows", "_law_act_here", "_law_k"] ["_law_one", "_law_plan"] (defScope s__law_shows) := ⟨rfl, rfl, rfl, by decide +kernel, rfl, by decide +kernel, by decide +kernel⟩
theorem ok_law_shows {f : Addr} {fd : FuncData} (F : Fun K "_law_shows" "_law_shows" s__law_shows f fd) (B : Binds K fd ["_law_one", "_law_plan"] []) (T : Bt mg) (rp : mg "repr" = none) (NK : N3.NestK P w K mg base C) (PK : ProgS P w K mg base CP C)
    (G__law_walk_row : FB P w K mg base "_law_walk_row" 2 ["_law_walk_here"] (N3.spWalkRow K)) (G__law_act_row : FB P w K mg base "_law_act_row" 1 ["_law_act_here"] (N3.spActRow K)) : FnG P w K mg base 5 f (spShows CP C) := by
  obtain ⟨p1, g1, d1, P1, G1, B1⟩ := NK.p1
  obtain ⟨p2, g2, d2, P2, G2, B2⟩ := NK.p2
  obtain ⟨p3, g3, d3, P3, G3, B3⟩ := NK.p3
  obtain ⟨pn, gn, dn, Pn, Gn, Bn⟩ := PK.p1
  obtain ⟨fl, len1, len2, len3⟩ := PK.len
  obtain ⟨fb, bo1, bo2, bo3⟩ := PK.bool
  obtain ⟨fr, rp1, rp2, rp3⟩ := PK.repr
  refine FnG.of F sc__law_shows B (fun vs H Q h => ?_) (fun cdv A fr s H vs Q hg hr h => ?_)
  · obtain ⟨N, a, D, qs, rfl, _⟩ := h
    rfl
  · obtain ⟨N, a, D, qs, rfl, ha, hP, ok, ql, q⟩ := h
    refine ⟨_, (pss_cons (ps_set (i := 2) sc__law_shows.nd rfl (by first | exact .inl rfl | exact .inr rfl) (pe_callB (cr_sum (by rfl)) (by rfl) T.sum (by decide +kernel) (pa_cons (pe_lc (own := [("_law_part_here", 3)]) (g := gName 3) (by rfl) sc__law_shows.nd (pi_list (pv 1)) (blkOk_by (own := [("_law_part_here", 3)]) (N := ["_law_one", "_law_plan", "_law_deeds", "_law_part_here", "_law_seen", "_law_nest", "_law_due", "_law_rows", "_law_act_here", "_law_k"]) (sc := defScope s__law_shows) (by decide +kernel))
            (fun _ _ _ _ _ => (pg_name (i := 3) sc__law_shows.nd rfl (by first | exact .inl rfl | exact .inr rfl))) (fun _ _ _ _ _ => pts_nil) (fun _ _ _ _ _ => (pe_callB (r := rLen2 K) call_len2 (by rfl) T.len PySem.boot_len (pa_cons (pe_ix (show IxR _ (L2.rIxT K) from ix_tup) (pv 3) pe_int (fun _ _ => rfl)) pa_nil)))) pa_nil)))
        (pss_cons (ps_if (PW.pt (pw_or (pt_not (pt_val (pe_callB call_isi (by rfl) T.isinstance (by decide +kernel) (pa_cons (pe_prop (pv 0) PK.pc.cl Pn Gn (hr.mono (show 2 ≤ 4 by decide)) Bn .nil pass0 rfl) (pa_cons (pe_bltn (v := .ty "tuple") (by rfl) T.tuple (by decide +kernel) rfl) pa_nil))))) (pw_or (pt_cmpR op_ne (pe_callB (call_lenO len1 len2 len3 (hr.mono (show 2 ≤ 4 by decide))) (by rfl) T.len PySem.boot_len (pa_cons (pv 0) pa_nil)) (pe_callB call_len_seq (by rfl) T.len PySem.boot_len (pa_cons (pv 1) pa_nil)) (nomark _)) (pw_or1 (pt_not (pt_val (pe_callTy (call_boolO bo1 bo2 bo3 (hr.mono (show 3 ≤ 4 by decide))) (by rfl) T.bool (by decide +kernel) (pa_cons (pv 0) pa_nil))))))))
        (pss_one (ps_ret pe_bl))
        pss_nil)
        (pss_cons (ps_if (pt_cmpR op_ne (pe_callB (call_reprO rp1 rp2 rp3 hr) (by rfl) rp (by decide +kernel) (pa_cons (pv 0) pa_nil)) (pe_op op_add_str (pe_op op_add_str (pe_op op_add_str (pe_op op_add_str pe_str (pe_callTy call_str_int (by rfl) T.str (by decide +kernel) (pa_cons (pe_callB call_len_seq (by rfl) T.len PySem.boot_len (pa_cons (pv 1) pa_nil)) pa_nil))) pe_str) (pe_callTy call_str_int (by rfl) T.str (by decide +kernel) (pa_cons (pv 2) pa_nil))) pe_str) (nomark _))
        (pss_one (ps_ret pe_bl))
        pss_nil)
        (pss_cons (ps_setLc (i := 4) (own := [("_law_nest", 5)]) (g := gName 5) (by rfl) sc__law_shows.nd rfl rfl (by first | rfl | exact sw_true rfl rfl rfl (by decide +kernel)) (pi_tup (pe_prop (pv 0) PK.pc.cl Pn Gn (hr.mono (show 2 ≤ 4 by decide)) Bn .nil pass0 rfl)) (blkOk_by (own := [("_law_nest", 5)]) (N := ["_law_one", "_law_plan", "_law_deeds", "_law_part_here", "_law_seen", "_law_nest", "_law_due", "_law_rows", "_law_act_here", "_law_k"]) (sc := defScope s__law_shows) (by decide +kernel))
            (fun _ _ _ _ _ => (pg_name (i := 5) sc__law_shows.nd rfl (by first | exact .inl rfl | exact .inr rfl))) (fun _ _ _ _ _ => pts_nil) (fun _ _ _ _ _ => (pe_lst (pa_cons (pe_prop (pv 5) NK.nc.cl P1 G1 (hr.mono (show 2 ≤ 4 by decide)) B1 .nil pass0 rfl) (pa_cons (pe_prop (pv 5) NK.nc.cl P2 G2 (hr.mono (show 2 ≤ 4 by decide)) B2 .nil pass0 rfl) (pa_cons (pe_prop (pv 5) NK.nc.cl P3 G3 (hr.mono (show 2 ≤ 4 by decide)) B3 .nil pass0 rfl) pa_nil))))))
        (pss_cons (ps_set (i := 6) sc__law_shows.nd rfl (.inr rfl) (pe_lc (own := [("_law_part_here", 3)]) (g := gName 3) (by rfl) sc__law_shows.nd (pi_list (pv 1)) (blkOk_by (own := [("_law_part_here", 3)]) (N := ["_law_one", "_law_plan", "_law_deeds", "_law_part_here", "_law_seen", "_law_nest", "_law_due", "_law_rows", "_law_act_here", "_law_k"]) (sc := defScope s__law_shows) (by decide +kernel))
            (fun _ _ _ _ _ => (pg_name (i := 3) sc__law_shows.nd rfl (by first | exact .inl rfl | exact .inr rfl))) (fun _ _ _ _ _ => pts_nil) (fun _ _ _ _ _ => (pe_lst (pa_cons (pe_fb G__law_walk_row hr (by decide) (by rfl) (pa_cons (pe_ix (show IxR _ (L2.rIxT K) from ix_tup) (pv 3) pe_int (fun _ _ => rfl)) pa_nil)) (pa_cons (pe_fb G__law_walk_row hr (by decide) (by rfl) (pa_cons (pe_ix (show IxR _ (L2.rIxT K) from ix_tup) (pv 3) pe_int (fun _ _ => rfl)) pa_nil)) pa_nil))))))
        (pss_cons (ps_set (i := 7) sc__law_shows.nd rfl (.inr rfl) (pe_lc (own := [("_law_part_here", 3)]) (g := gName 3) (by rfl) sc__law_shows.nd (pi_list (pv 1)) (blkOk_by (own := [("_law_part_here", 3)]) (N := ["_law_one", "_law_plan", "_law_deeds", "_law_part_here", "_law_seen", "_law_nest", "_law_due", "_law_rows", "_law_act_here", "_law_k"]) (sc := defScope s__law_shows) (by decide +kernel))
            (fun _ _ _ _ _ => (pg_name (i := 3) sc__law_shows.nd rfl (by first | exact .inl rfl | exact .inr rfl))) (fun _ _ _ _ _ => pts_nil) (fun _ _ _ _ _ => (show PE _ _ (tLc (iList K (tOp (L2.rIxT K) (tVar 3) (tC (V.int 2)))) (gName 8) tYes (tCall (N3.spActRow K) [] E0 (tCons (tVar 8) tNil)) [8]) from (pe_lc (own := [("_law_act_here", 8)]) (g := gName 8) (by rfl) sc__law_shows.nd (pi_list (pe_ix (show IxR _ (L2.rIxT K) from ix_tup) (pv 3) pe_int (fun _ _ => rfl))) (blkOk_by (own := [("_law_act_here", 8)]) (N := ["_law_one", "_law_plan", "_law_deeds", "_law_part_here", "_law_seen", "_law_nest", "_law_due", "_law_rows", "_law_act_here", "_law_k"]) (sc := compScAt s__law_shows 5) (by decide +kernel))
            (fun _ _ _ _ _ => (pg_name (i := 8) sc__law_shows.nd rfl (by first | exact .inl rfl | exact .inr rfl))) (fun _ _ _ _ _ => pts_nil) (fun _ _ _ _ _ => (pe_fb G__law_act_row hr (by decide) (by rfl) (pa_cons (pv 8) pa_nil))))))))
        (pss_one (ps_ret (pe_cmpR op_eq (pe_callB (call_repr hg hr) (by rfl) rp (by decide +kernel) (pa_cons (pv 4) pa_nil)) (pe_callB (call_repr hg hr) (by rfl) rp (by decide +kernel) (pa_cons (pe_lc (own := [("_law_k", 9)]) (g := gName 9) (by rfl) sc__law_shows.nd (pi_range1 (by rfl) T.range (pa_cons (pe_callB call_len_seq (by rfl) T.len PySem.boot_len (pa_cons (pv 1) pa_nil)) pa_nil)) (blkOk_by (own := [("_law_k", 9)]) (N := ["_law_one", "_law_plan", "_law_deeds", "_law_part_here", "_law_seen", "_law_nest", "_law_due", "_law_rows", "_law_act_here", "_law_k"]) (sc := defScope s__law_shows) (by decide +kernel))
            (fun _ _ _ _ _ => (pg_name (i := 9) sc__law_shows.nd rfl (by first | exact .inl rfl | exact .inr rfl))) (fun _ _ _ _ _ => pts_nil) (fun _ _ _ _ _ => (pe_op op_cat (pe_ix (show IxR _ (rIxL K) from ix_list) (pv 6) (pv 9) (fun _ _ => rfl)) (pe_lst (pa_cons (pe_callTy (r := rTupOf K) (T := "tuple") call_tupOf (by rfl) T.tuple (by decide +kernel) (pa_cons (pe_ix (show IxR _ (rIxL K) from ix_list) (pv 7) (pv 9) (fun _ _ => rfl)) pa_nil)) pa_nil))))) pa_nil)) (nomark _)))))))))), ?_⟩
    obtain ⟨_, ts, hD, tl', hts⟩ := hP
    obtain ⟨dx, tp, xs, h1, h2, h3, h4⟩ := id ha
    have big : 10000 ≤ sizeLine := by decide
    have nsl : (qs.map Part.nest).length = qs.length := List.length_map ..
    have okn : ∀ n ∈ qs.map Part.nest, NestT n := fun n hn => by
      obtain ⟨p, hp, rfl⟩ := List.mem_map.mp hn
      exact (ok p hp).nest
    refine sq_ (set_ (gen_of (fun y H' => y = .int ((deedSum (qs.map Part.nest) : Nat) : Int) ∧ Same H H') (fun Q' k => ?_) ?_))
    · refine ⟨_, rfl, D, rfl, ⟨_, SqL.of hD⟩, fun D1 nD1 => ?_⟩
      refine lc_list (K := K) (a := D) (xs := ts.map V.ref) (fun i H' => Same H H' ∧ H' D1 = some (.lst (((qs.take i).map fun p => ((p.nest.2.2.length : Nat) : Int)).map V.int))) ⟨same_new nD1, upd_same⟩ (fun i H' _ h => (SqL.of hD).ext h.1) (fun i x H' hi h => ?_) (fun H' h => ?_)
      · obtain ⟨sm, hL⟩ := h
        obtain ⟨t, ht, rfl⟩ := N3.ref_at hi
        have hil : i < qs.length := by rw [← tl']; exact (List.getElem?_eq_some_iff.mp ht).1
        have hqi : qs[i]? = some qs[i] := List.getElem?_eq_getElem hil
        obtain ⟨o, w', l, as, _, _, _, _, k1, k2, k3, k4, k5, k6⟩ := hts i t _ ht hqi
        refine ⟨rfl, ?_⟩
        refine ⟨_, rfl, t, _, 2, _, rfl, rfl, SqT.of (sm _ _ k1), rfl, l, _, rfl, .inl (SqL.of (sm _ _ k4)), _, hL, ?_, same_put sm nD1, ?_⟩
        · rw [List.length_map, List.length_map, List.length_take]
          omega
        · rw [upd_same, List.take_add_one, hqi, List.map_append, List.map_append]
          have e : (qs[i].nest.2.2).length = as.length := by
            rw [k5]
            exact List.length_map ..
          show some (HO.lst (_ ++ [V.int _])) = some (HO.lst (_ ++ [V.int ((qs[i].nest.2.2.length : Nat) : Int)]))
          rw [e, List.length_map]
      · obtain ⟨sm, hL⟩ := h
        rw [List.length_map, tl', List.take_length] at hL
        refine ⟨D1, _, rfl, SqL.of hL, k _ _ ⟨?_, sm⟩⟩
        unfold deedSum
        rw [← N3.sum_cast, List.map_map, List.map_map]
        rfl
    rintro _ H1 ⟨rfl, s1⟩
    refine pr_seq (if_ ?_)
    have g1 := s1 _ _ h1
    refine ⟨_, rfl, a, _, _, rfl, g1, a, _, _, .ref tp, rfl, g1, N3.putN tp, _, _, .type "tuple", _, true, rfl, .ty "tuple", .base (.tup (s1 _ _ h2)), kit_ty (by decide +kernel), true, rfl, ?_⟩
    refine iteF ?_
    refine ⟨_, rfl, a, _, _, rfl, g1, a, _, rfl, ha.ext s1, _, rfl, Int.natCast_nonneg _, by omega, _, rfl, D, _, rfl, .inl (SqL.of (s1 _ _ hD)), rfl, _, rfl, ?_⟩
    rw [List.length_map, List.length_map, tl']
    rw [show decide (V.int ((qs.length : Nat) : Int) = V.int ((qs.length : Nat) : Int)) = true from decide_eq_true rfl]
    refine iteF ?_
    refine ⟨_, rfl, a, _, _, rfl, g1, a, rfl, true, rfl, true, rfl, ?_⟩
    refine iteF ?_
    refine pr_seq (if_ ?_)
    have la : ∀ x y : Str, (x ++ y).length = x.length + y.length := PySem.strLen_append
    have c1 : ("Program of " : Str).length ≤ 20 := by decide +kernel
    have c2 : (" nests, " : Str).length ≤ 20 := by decide +kernel
    have c3 : (" deeds" : Str).length ≤ 20 := by decide +kernel
    have dl := N3.deedSum_le (l := qs.map Part.nest) fun n hn => (okn n hn).dl
    have w1 := N3.small_len (n := qs.length) (by omega)
    have w2 := N3.small_len (n := deedSum (qs.map Part.nest)) (by omega)
    refine ⟨_, rfl, a, _, _, rfl, g1, a, qs.map Part.nest, rfl, ha.ext s1, by omega, fun n hn => (okn n hn).dl, fun H2 s2 => ⟨_, rfl, ?_⟩⟩
    have s12 := s1.trans s2
    have g2 := s2 _ _ g1
    refine ⟨_, rfl, D, _, rfl, .inl (SqL.of (s12 _ _ hD)), _, rfl, ?_⟩
    rw [List.length_map, tl']
    refine ⟨N3.small_log (by omega), _, _, rfl, rfl, by omega, _, _, rfl, rfl, by rw [la]; omega, _, rfl, _, rfl, N3.small_log (by omega), _, _, rfl, rfl, by rw [la, la]; omega, _, _, rfl, rfl, by rw [la, la, la]; omega, rfl, _, rfl, ?_⟩
    rw [nsl]
    rw [show decide (V.str (reprT ((qs.length : Nat) : Int) ((deedSum (qs.map Part.nest) : Nat) : Int)) = V.str (("Program of " : Str) ++ Str.ofString (toString ((qs.length : Nat) : Int)) ++ (" nests, " : Str) ++ Str.ofString (toString ((deedSum (qs.map Part.nest) : Nat) : Int)) ++ (" deeds" : Str))) = true from decide_eq_true rfl]
    refine iteF ?_
    have t2 : H2 tp = some (.tup (xs.map V.ref)) := s12 _ _ h2
    refine pr_seq (set_ (gen_of (fun y H' => ∃ S, y = .ref S ∧ Same H2 H' ∧ LsAt SeenAt H' S (qs.map Part.nest)) (fun Q' k => ?_) ?_))
    · refine ⟨_, rfl, a, _, _, rfl, g2, a, _, _, .ref tp, rfl, g2, N3.putN tp, tp, rfl, ⟨_, SqT.of t2⟩, fun D1 nD1 => ?_⟩
      refine lc_tup (K := K) (a := tp) (xs := xs.map V.ref) (fun i H' => Same H2 H' ∧ LsAt SeenAt H' D1 ((qs.map Part.nest).take i)) ⟨same_new nD1, .nil upd_same⟩ (fun i H' _ h => (SqT.of t2).ext h.1) (fun i x H' hi h => ?_) (fun H' h => ?_)
      · obtain ⟨sm, ls, hL, ll, hls⟩ := h
        obtain ⟨b, hb, rfl⟩ := N3.ref_at hi
        have hil : i < (qs.map Part.nest).length := by rw [← h3]; exact (List.getElem?_eq_some_iff.mp hb).1
        have hni : (qs.map Part.nest)[i]? = some (qs.map Part.nest)[i] := List.getElem?_eq_getElem hil
        generalize (qs.map Part.nest)[i] = n at hni
        obtain ⟨dy, dp, ⟨R1, y1⟩, y2⟩ := NestAt.ext (s12.trans sm) (h4 i b n hb hni)
        refine ⟨rfl, ?_⟩
        refine ⟨_, rfl, b, _, _, rfl, y1, b, _, _, .str n.1, rfl, y1, nfl_outer _ _ _ _, _, rfl, b, _, _, rfl, y1, b, _, _, .str n.2.1, rfl, y1, nfl_inner _ _ _ _, _, rfl, b, _, _, rfl, y1, b, _, _, .ref dp, rfl, y1, nfl_deeds _ _ _ _, ?_⟩
        refine ⟨(by show 3 ≤ sizeLine; omega), fun x nx => ?_⟩
        have sx := same_new (o := .lst [.str n.1, .str n.2.1, .ref dp]) nx
        have nxD : x ≠ D1 := fun e => by rw [e, hL] at nx; cases nx
        refine ⟨_, sx _ _ hL, by rw [List.length_map, ll, List.length_take]; omega, same_put (sm.trans sx) nD1, ?_⟩
        rw [List.take_add_one, hni]
        exact LsAt.put kpt_seen hL ll hls sx nxD ⟨dp, upd_same, sx _ _ y2⟩
      · obtain ⟨sm, hL⟩ := h
        rw [List.length_map, h3, List.take_length] at hL
        exact k _ _ ⟨D1, rfl, sm, hL⟩
    rintro _ H3 ⟨S, rfl, s3, hS⟩
    have s13 := s12.trans s3
    refine pr_seq (set_ (gen_of (fun y H' => ∃ U, y = .ref U ∧ Same H3 H' ∧ LsAt DueAt H' U (qs.map Part.nest)) (fun Q' k => ?_) ?_))
    · refine ⟨_, rfl, D, rfl, ⟨_, SqL.of (s13 _ _ hD)⟩, fun D1 nD1 => ?_⟩
      refine lc_list (K := K) (a := D) (xs := ts.map V.ref) (fun i H' => Same H3 H' ∧ LsAt DueAt H' D1 ((qs.map Part.nest).take i)) ⟨same_new nD1, .nil upd_same⟩ (fun i H' _ h => (SqL.of (s13 _ _ hD)).ext h.1) (fun i x H' hi h => ?_) (fun H' h => ?_)
      · obtain ⟨sm, ls, hL, ll, hls⟩ := h
        obtain ⟨t, ht, rfl⟩ := N3.ref_at hi
        have hil : i < qs.length := by rw [← tl']; exact (List.getElem?_eq_some_iff.mp ht).1
        have hqi : qs[i]? = some qs[i] := List.getElem?_eq_getElem hil
        have okq := ok _ (List.getElem_mem hil)
        obtain ⟨o, w', l, as, _, _, _, _, k1, k2, k3, k4, k5, k6⟩ := hts i t _ ht hqi
        generalize qs[i] = p at *
        have hni : (qs.map Part.nest)[i]? = some p.nest := by rw [List.getElem?_map, hqi]; rfl
        have s0 := s13.trans sm
        refine ⟨rfl, ?_⟩
        refine ⟨_, rfl, t, _, 0, _, rfl, rfl, SqT.of (s0 _ _ k1), rfl, o, p.o.1, p.o.2.1, p.o.2.2, rfl, SqT.of (s0 _ _ k2), by have := okq.o1; omega, by have := okq.o2; omega, fun H5 s5 => ?_⟩
        have s05 := s0.trans s5
        refine ⟨_, rfl, t, _, 1, _, rfl, rfl, SqT.of (s05 _ _ k1), rfl, w', p.u.1, p.u.2.1, p.u.2.2, rfl, SqT.of (s05 _ _ k3), okq.u1, okq.u2, fun H6 s6 => ?_⟩
        refine ⟨(by show 2 ≤ sizeLine; omega), fun x nx => ?_⟩
        have sx := (s5.trans s6).trans (same_new (o := .lst [.str p.nest.1, .str p.nest.2.1]) nx)
        have nxD : x ≠ D1 := fun e => by
          have z := (s5.trans s6) _ _ hL
          rw [← e, nx] at z
          cases z
        refine ⟨_, sx _ _ hL, by rw [List.length_map, ll, List.length_take]; omega, same_put (sm.trans sx) nD1, ?_⟩
        rw [List.take_add_one, hni]
        exact LsAt.put kpt_due hL ll hls sx nxD (show DueAt _ x p.nest from upd_same)
      · obtain ⟨sm, hL⟩ := h
        rw [List.length_map, tl', ← nsl, List.take_length] at hL
        exact k _ _ ⟨D1, rfl, sm, hL⟩
    rintro _ H4 ⟨U, rfl, s4, hU⟩
    have s14 := s13.trans s4
    refine pr_seq (set_ (gen_of (fun y H' => ∃ W, y = .ref W ∧ Same H4 H' ∧ LsAt RowsAt H' W (qs.map Part.nest)) (fun Q' k => ?_) ?_))
    · refine ⟨_, rfl, D, rfl, ⟨_, SqL.of (s14 _ _ hD)⟩, fun D1 nD1 => ?_⟩
      refine lc_list (K := K) (a := D) (xs := ts.map V.ref) (fun i H' => Same H4 H' ∧ LsAt RowsAt H' D1 ((qs.map Part.nest).take i)) ⟨same_new nD1, .nil upd_same⟩ (fun i H' _ h => (SqL.of (s14 _ _ hD)).ext h.1) (fun i x H' hi h => ?_) (fun H' h => ?_)
      · obtain ⟨sm, ls, hL, ll, hls⟩ := h
        obtain ⟨t, ht, rfl⟩ := N3.ref_at hi
        have hil : i < qs.length := by rw [← tl']; exact (List.getElem?_eq_some_iff.mp ht).1
        have hqi : qs[i]? = some qs[i] := List.getElem?_eq_getElem hil
        have okq := ok _ (List.getElem_mem hil)
        obtain ⟨o, w', l, as, _, _, _, _, k1, k2, k3, k4, k5, k6⟩ := hts i t _ ht hqi
        generalize qs[i] = p at *
        have hni : (qs.map Part.nest)[i]? = some p.nest := by rw [List.getElem?_map, hqi]; rfl
        have s0 := s14.trans sm
        refine ⟨rfl, ?_⟩
        refine ⟨_, rfl, t, _, 2, _, rfl, rfl, SqT.of (s0 _ _ k1), rfl, l, rfl, ⟨_, SqL.of (s0 _ _ k4)⟩, fun D2 nD2 => ?_⟩
        have nxD : D2 ≠ D1 := fun e => by rw [e, hL] at nD2; cases nD2
        refine lc_list (K := K) (a := l) (xs := as.map V.ref) (fun j H'' => Same H' H'' ∧ H'' D2 = some (.lst (((p.nest.2.2).take j).map V.str))) ⟨same_new nD2, upd_same⟩ (fun j H'' _ h => SqL.of (h.1 _ _ (s0 _ _ k4))) (fun j y H'' hj h => ?_) (fun H'' h => ?_)
        · obtain ⟨sj, hL2⟩ := h
          refine ⟨rfl, ?_⟩
          obtain ⟨c, hc, rfl⟩ := N3.ref_at hj
          have hjl : j < p.acts.length := by rw [← k5]; exact (List.getElem?_eq_some_iff.mp hc).1
          have hpj : p.acts[j]? = some p.acts[j] := List.getElem?_eq_getElem hjl
          have hA := (N3.ActH.at (K := K) (k6 j c _ hc hpj)).ext (s0.trans sj)
          refine ⟨_, rfl, c, _, _, _, rfl, hA, okq.ok _ (List.getElem_mem hjl), fun H5 s5 => ⟨_, s5 _ _ hL2, ?_, same_put (sj.trans s5) nD2, ?_⟩⟩
          · rw [List.length_map, List.length_take]
            have := okq.nest.dl
            omega
          · rw [upd_same, List.take_add_one, show p.nest.2.2[j]? = some (actS p.acts[j].1 p.acts[j].2.1 p.acts[j].2.2) from by unfold Part.nest; rw [List.getElem?_map, hpj]; rfl, List.map_append]
            rfl
        · obtain ⟨sj, hL2⟩ := h
          rw [List.length_map, k5, show p.acts.length = p.nest.2.2.length from (List.length_map ..).symm, List.take_length] at hL2
          refine ⟨_, sj _ _ hL, by rw [List.length_map, ll, List.length_take]; omega, same_put (sm.trans sj) nD1, ?_⟩
          rw [List.take_add_one, hni]
          exact LsAt.put kpt_rows hL ll hls sj nxD (show RowsAt _ D2 p.nest from hL2)
      · obtain ⟨sm, hL⟩ := h
        rw [List.length_map, tl', ← nsl, List.take_length] at hL
        exact k _ _ ⟨D1, rfl, sm, hL⟩
    rintro _ H5 ⟨W, rfl, s5, hW⟩
    have hU5 := hU.same kpt_due s5
    have hS5 := hS.same kpt_seen (s4.trans s5)
    have s15 := s14.trans s5
    have sh := dSeen_ok okn (by omega)
    refine pr_one (ret_ ?_)
    refine ⟨_, rfl, S, dSeen (qs.map Part.nest), rfl, hS5.dp, sh.sh, sh.di, sh.de, sh.ln, ?_⟩
    refine ⟨_, rfl, D, _, rfl, .inl (SqL.of (s15 _ _ hD)), ?_⟩
    rw [List.length_map, tl']
    refine ⟨_, rfl, by omega, by omega, fun D1 nD1 => ?_⟩
    refine lc_range (lo := 0) (n := qs.length) (fun i H' => Same H5 H' ∧ LsAt SeenAt H' D1 ((qs.map Part.nest).take i)) ⟨same_new nD1, .nil upd_same⟩ (fun i H' hi h => ?_) (fun H' h => ?_)
    · obtain ⟨sm, ls, hL, ll, hls⟩ := h
      have hil : i < (qs.map Part.nest).length := by rw [nsl]; exact hi
      have hni : (qs.map Part.nest)[i]? = some (qs.map Part.nest)[i] := List.getElem?_eq_getElem hil
      have hn6 := (okn _ (List.getElem_mem hil)).dl
      generalize (qs.map Part.nest)[i] = n at *
      obtain ⟨us, u', hu1, hu2, hu3⟩ := (hU5.same kpt_due sm).get hni
      obtain ⟨ws, w', hw1, hw2, hw3⟩ := (hW.same kpt_rows sm).get hni
      rw [Int.zero_add]
      refine ⟨rfl, ?_⟩
      refine ⟨_, rfl, _, rfl, U, _, _, _, rfl, rfl, SqL.of hu1, hu2, ?_⟩
      refine ⟨_, rfl, _, rfl, W, _, _, _, rfl, rfl, SqL.of hw1, hw2, w', _, rfl, .inl ⟨SqL.of hw3, fun l nl => ?_⟩⟩
      have s6 := same_new (o := .tup (n.2.2.map V.str)) nl
      refine ⟨(by show 1 ≤ sizeLine; omega), fun l2 nl2 => ?_⟩
      have s7 := s6.trans (same_new (o := .lst [.ref l]) nl2)
      refine ⟨u', l2, _, _, rfl, rfl, s7 _ _ hu3, upd_same, (by show 2 + 1 ≤ sizeLine; omega), fun x nx => ?_⟩
      have sx := s7.trans (same_new (o := .lst ([V.str n.1, V.str n.2.1] ++ [.ref l])) nx)
      have nxD : x ≠ D1 := fun e => by
        have z := s7 _ _ hL
        rw [← e, nx] at z
        cases z
      have nlx : l ≠ x := fun e => by
        have z := (same_new (o := .lst [.ref l]) nl2) _ _ (upd_same (H := H') (a := l) (o := .tup (n.2.2.map V.str)))
        rw [← e] at nx
        rw [nx] at z
        cases z
      refine ⟨_, sx _ _ hL, by rw [List.length_map, ll, List.length_take]; omega, same_put (sm.trans sx) nD1, ?_⟩
      rw [List.take_add_one, hni]
      refine LsAt.put kpt_seen hL ll hls sx nxD ⟨l, upd_same, ?_⟩
      rw [upd_ne nlx]
      exact (same_new (o := .lst [.ref l]) nl2) _ _ upd_same
    · obtain ⟨sm, hL⟩ := h
      rw [← nsl, List.take_length] at hL
      refine ⟨D1, dSeen (qs.map Part.nest), rfl, hL.dp, sh.sh, sh.di, sh.de, sh.ln, rfl, ?_⟩
      rw [show decide (V.str (PyData.shown (dSeen (qs.map Part.nest))) = V.str (PyData.shown (dSeen (qs.map Part.nest)))) = true from decide_eq_true rfl]
      exact q _ (s15.trans sm)
end
end Sq
namespace Sq
open PySem L2 PySem.Spec PyProof.Rows
/-- a promise that is kept where no repr is under way, with all that a call asks -/
structure FBG (P : Program) (w : World) (K : PySem.W.Frag) (mg : Str → Option Value) (base : Heap) (x : Str) (k : Nat) (sp : Sp) : Prop where
  ex : ∃ f : Addr, FnG P w K mg base k f sp ∧ mg x = some (.ref f) ∧ PySem.W.keepIn K (.ref f) = true
section
variable {X : Cx} {j k : Nat} {x : Str} {p pos : Pos} {e : Expr} {es : List Expr} {t : TA} {sp : Sp}
theorem FnG.mono {P : Program} {w : World} {K : PySem.W.Frag} {mg : Str → Option Value} {base : Heap} {f : Addr} (F : FnG P w K mg base k f sp) : FnG P w K mg base k f sp := F
theorem pe_fbG (F : FBG X.prog X.w X.K X.mg X.base x k sp) (hg : X.A.guards = some []) (hr : Room j X.A) (hk : k ≤ j) (hgl : Gl X x) (ha : PA X (e :: es) t) (hdb : (x == ("__debug__" : Str)) = false := by decide)
    (he : starEach (e :: es) X.env = (false, eval e X.env) :: starEach es X.env := by rfl) (hpl : (backTo pos (starEach es X.env)).any (·.1) = false := by rfl) :
    PE X (.Call (.Name x p) (e :: es) [] pos) (tCallG sp t) := by
  obtain ⟨f, G, hm, kk⟩ := F.ex
  exact pe_callG G hg (hr.mono hk) hgl hm kk ha hdb he hpl
end
theorem noIn {v : V} {n a b : Int} (h : inI v a b = false) (e : v = .int n) (h1 : a ≤ n) (h2 : n ≤ b) : False := by
  subst e
  have h : (decide (a ≤ n) && decide (n ≤ b)) = false := h
  rw [decide_eq_true h1, decide_eq_true h2] at h
  cases h
theorem inI_in {n a b : Int} (h1 : a ≤ n) (h2 : n ≤ b) : inI (.int n) a b = true := by
  show (decide (a ≤ n) && decide (n ≤ b)) = true
  rw [decide_eq_true h1, decide_eq_true h2]
  rfl
theorem two_it {x a b : V} {i : Nat} (h : [a, b][i]? = some x) : x = a ∨ x = b := by
  have m := List.mem_of_getElem? h
  simpa using m
theorem three_it {x a b c : V} {i : Nat} (h : [a, b, c][i]? = some x) : x = a ∨ x = b ∨ x = c := by
  have m := List.mem_of_getElem? h
  simpa using m
/-! ### promises -/
def spSame2 (K : PySem.W.Frag) : Sp := fun vs H Q _ => ∃ (t : Addr) (x : Str) (v : V) (d : PyData), vs = [.ref t, .str x, v] ∧ H t = some (.tup [.str x, v]) ∧ Sh K H v d ∧ Fits d ∧ Q (.bl true) H
end Sq
namespace Sq
open PySem L2 PySem.Spec PyProof.Rows TL LamX L2H
open N3 (FlX NestD NestT NestIs ProgAt PlanH PartH PartOk Part reprT deedSum rowOf actS BagAt)

theorem par_ {ta1 ta2 : TE} {i j : Nat} {D : Ends} {σ : L2.St} {H : Hp} (h : ta1 σ H fun x H1 => ta2 σ H1 fun y H2 => ∃ v w, [x, y] = [v, w] ∧ D.nx ((σ.set i (some v)).set j (some w)) H2) : tPar i j (tCons ta1 (tCons ta2 tNil)) D σ H := h
/-! ### plans and programs where a table of code has changed -/
theorem plan_extN {N : Addr → Prop} {H H' : Hp} {t : Addr} {qs : List Part} (e : ExtN H H') (h : PlanH N H t qs) : PlanH N H' t qs := by
  obtain ⟨n1, ts, h1, h2, h3⟩ := h
  refine ⟨n1, ts, e _ _ h1 (fun ps z => by cases z), h2, fun i s q hs hq => ?_⟩
  obtain ⟨o, u, l, as, n1, n2, n3, n4, k1, k2, k3, k4, k5, k6⟩ := h3 i s q hs hq
  refine ⟨o, u, l, as, n1, n2, n3, n4, e _ _ k1 (fun ps z => by cases z), e _ _ k2 (fun ps z => by cases z), e _ _ k3 (fun ps z => by cases z), e _ _ k4 (fun ps z => by cases z), k5, fun i s x hs hx => ?_⟩
  obtain ⟨l2, u2, m1, m2, m3, g1, g2, g3⟩ := k6 i s x hs hx
  exact ⟨l2, u2, m1, m2, m3, e _ _ g1 (fun ps z => by cases z), e _ _ g2 (fun ps z => by cases z), e _ _ g3 (fun ps z => by cases z)⟩
theorem nest_extN {C : Addr} {H H' : Hp} {a : Addr} {n : NestD} (e : ExtN H H') (h : NestIs C H a n) : NestIs C H' a n := by
  obtain ⟨dx, dp, ⟨R, h1⟩, h2⟩ := h
  exact ⟨dx, dp, ⟨R, e _ _ h1 (fun ps z => by cases z)⟩, e _ _ h2 (fun ps z => by cases z)⟩
theorem prog_extN {CP C : Addr} {H H' : Hp} {a : Addr} {ns : List NestD} (e : ExtN H H') (h : ProgAt CP C H a ns) : ProgAt CP C H' a ns := by
  obtain ⟨dx, tp, xs, h1, h2, h3, h4⟩ := h
  exact ⟨dx, tp, xs, e _ _ h1 (fun ps z => by cases z), e _ _ h2 (fun ps z => by cases z), h3, fun i x n hx hn => nest_extN e (h4 i x n hx hn)⟩
def Anyw : Addr → Prop := fun _ => True
theorem plan_same {H H' : Hp} {t : Addr} {qs : List Part} (s : Same H H') (h : PlanH Anyw H t qs) : PlanH Anyw H' t qs := h.keep (fun _ n => n) fun _ _ _ e => s _ _ e
/-- two plans, one behind the other -/
theorem plan_app {H : Hp} {D1 D2 l : Addr} {qs ms : List Part} {ts us : List Addr} (h1 : PlanH Anyw H D1 qs) (h2 : PlanH Anyw H D2 ms) (e1 : H D1 = some (.lst (ts.map V.ref))) (e2 : H D2 = some (.lst (us.map V.ref))) (nl : H l = none) :
    PlanH Anyw (upd H l (.lst (ts.map V.ref ++ us.map V.ref))) l (qs ++ ms) := by
  have sm := same_new (o := .lst (ts.map V.ref ++ us.map V.ref)) nl
  obtain ⟨_, ts', g1, g2, g3⟩ := plan_same sm h1
  obtain ⟨_, us', k1, k2, k3⟩ := plan_same sm h2
  have inj : ∀ {as bs : List Addr}, as.map V.ref = bs.map V.ref → as = bs := fun {as bs} h => (List.map_inj_right fun x y e => V.ref.inj e).mp h
  have et : ts' = ts := inj (HO.lst.inj (Option.some.inj (g1.symm.trans (sm _ _ e1))))
  have eu : us' = us := inj (HO.lst.inj (Option.some.inj (k1.symm.trans (sm _ _ e2))))
  subst et eu
  refine ⟨trivial, ts' ++ us', by rw [upd_same, List.map_append], by rw [List.length_append, List.length_append, g2, k2], fun i s q hs hq => ?_⟩
  by_cases h : i < ts'.length
  · rw [List.getElem?_append_left h] at hs
    rw [List.getElem?_append_left (by omega)] at hq
    exact g3 i s q hs hq
  · rw [List.getElem?_append_right (by omega)] at hs
    rw [List.getElem?_append_right (by omega), ← g2] at hq
    exact k3 _ s q hs hq
theorem nests_told : SeqAt.shaped (.tuple [.str "nests", .str "4"]) = true := by decide +kernel
def spTurn (Ts : List (Addr × Str)) : Sp := fun vs H Q _ => ∃ p, vs = [.ref p] ∧ BagAt H p ∧ Tabs Ts H ∧ ∀ H', BagAt H' p → OffT p H H' → Tabs Ts H' → Q (.bl true) H'
structure ProgA (P : Program) (w : World) (K : PySem.W.Frag) (mg : Str → Option Value) (base : Heap) (CP C CE : Addr) : Prop where
  s : ProgS P w K mg base CP C
  sf : PySem.W.selfFirst K CP = true
  add : ∃ f, PySem.W.findIn K (.ref CP) "__add__" = some (some (.ref f)) ∧ PySem.W.isFn K (.ref f) = true ∧ FnR P w K mg base (L2N.CX P w) 5 f (N3.spAdd K CP C CE)
  made : N3.KnX P w K mg base "_law_made" 5 ["_law_nests"] (N3.spMadePX K CP C CE)
  madeP : N3.KnX P w K mg base "_law_made" 5 ["_law_nests"] (N3.spMadeP (K := K) CP C)
theorem st_sameR {t : TS} {D : Ends} {σ : L2.St} {H : Hp} (J : Hp → Prop) (h : ∀ D' : Ends, (∀ H', J H' → D'.nx σ H') → t D' σ H) (k : ∀ H', J H' → D.nx σ H') : t D σ H := h D k
section
variable {P : Program} {w : World} {K : PySem.W.Frag} {mg : Str → Option Value} {base : Heap} {C : Nat → Addr} {CP CN c Pt : Addr} {Ts : List (Addr × Str)}
abbrev s__law_joined_right : Stmt := top 74
theorem sc__law_joined_right : FnScope ["_law_bag_here", "_law_one", "_law_other", "_law_first", "_law_second"] ["_law_bag_here"] (defScope s__law_joined_right) := ⟨rfl, rfl, rfl, by decide +kernel, rfl, by decide +kernel, by decide +kernel⟩
theorem ok_law_joined_right {f : Addr} {fd : FuncData} (AK : AnsK P w K mg base C) (EN : ErrK K C (C 16) 16) (PA : ProgA P w K mg base CP CN (C 16)) (TB : TabB base mg c Pt) (hmT : (Pt, ("_law_joined_right.<locals>.<lambda>" : Str)) ∈ Ts) (hu : ∀ p ∈ Ts, p.1 = Pt → p.2 = "_law_joined_right.<locals>.<lambda>")
    (G__law_scheme : FB P w K mg base "_law_scheme" 4 ["_law_bag_here", "_law_parts", "_law_acts"] N3.spScheme) (G__law_built : FB P w K mg base "_law_built" 7 ["_law_plan"] (N3.spBuilt CP CN)) (G__law_page : FB P w K mg base "_law_page" 3 ["_law_plan"] N3.spPage) (G__law_shows : FBG P w K mg base "_law_shows" 5 (spShows CP CN))
    (F : FunT K "_law_joined_right" "_law_joined_right" s__law_joined_right f fd c) (B : Binds K fd ["_law_bag_here"] []) (T : Bt mg) : FnG P w K mg base 8 f (spTurn Ts) := by
  obtain ⟨pn, gn, dn, Pn, Gn, Bn⟩ := PA.s.p1
  obtain ⟨fst, st1, st2, st3⟩ := PA.s.str
  obtain ⟨fad, ad1, ad2, ad3⟩ := PA.add
  obtain ⟨fM, dM, mM, kM, bM, GM⟩ := PA.madeP
  refine FnG.ofT F sc__law_joined_right B (fun vs H Q h => ?_) (fun A outer s H vs Q hgd hr h => ?_)
  · obtain ⟨p, rfl, _⟩ := h
    rfl
  · obtain ⟨p, rfl, hp, hT, q⟩ := h
    refine ⟨_, (pss_cons (ps_par (i := 1) (j := 2) (by rfl) sc__law_joined_right.nd rfl rfl (by decide) rfl rfl (pa_cons (pe_fb G__law_scheme hr (by decide) (by rfl) (pa_cons (pv 0) (pa_cons pe_int (pa_cons pe_int pa_nil)))) (pa_cons (pe_fb G__law_scheme hr (by decide) (by rfl) (pa_cons (pv 0) (pa_cons pe_int (pa_cons pe_int pa_nil)))) pa_nil)) (by rfl))
        (pss_cons (ps_asg (pe_tup (pa_cons (pe_fb G__law_built hr (by decide) (by rfl) (pa_cons (pv 1) pa_nil)) (pa_cons (pe_fb G__law_built hr (by decide) (by rfl) (pa_cons (pv 2) pa_nil)) pa_nil))) (pg_tup (by rfl) (pgs_cons (pg_name (i := 3) sc__law_joined_right.nd rfl (by first | exact .inl rfl | exact .inr rfl)) (pgs_cons (pg_name (i := 4) sc__law_joined_right.nd rfl (by first | exact .inl rfl | exact .inr rfl)) pgs_nil))))
        (pss_cons (ps_if (pt_cmpR op_gt (pe_callB call_len_seq (by rfl) T.len PySem.boot_len (pa_cons (pe_op op_cat (pv 1) (pv 2)) pa_nil)) pe_int (nomark _))
        (pss_one (ps_if (pt_cmpR (op_neD hr.units) (pe_ask AK hgd TB rfl hmT hu hr (lamS_by (by with_unfolding_all rfl)) rfl (fun _ _ _ _ _ => rfl) (fun A2 outer2 s2 H2 E2 f2 c2 hr2 => (pe_op (op_bin PA.sf ad1 ad2 ad3 (hr2.mono (by decide)) (L2N.passes_call lam_takes (fun _ _ _ _ h => h))) (pv 3) (pv 4)))) (pe_tup (pa_cons pe_str (pa_cons pe_str pa_nil))) (nomark _))
        (pss_one (ps_ret pe_bl))
        pss_nil))
        (pss_one (ps_if (PW.pt (pw_or (pt_not (pt_val (pe_fbG G__law_shows hgd hr (by decide) (by rfl) (pa_cons (pe_op (op_bin PA.sf ad1 ad2 ad3 (hr.mono (show 5 ≤ 7 by decide)) passN0) (pv 3) (pv 4)) (pa_cons (pe_op op_cat (pv 1) (pv 2)) pa_nil))))) (pw_or1 (pt_cmpR op_ne (pe_callTy (call_strO st1 st2 st3 (hr.mono (show 6 ≤ 7 by decide))) (by rfl) T.str (by decide +kernel) (pa_cons (pe_op (op_bin PA.sf ad1 ad2 ad3 (hr.mono (show 5 ≤ 7 by decide)) passN0) (pv 3) (pv 4)) pa_nil)) (pe_fb G__law_page hr (by decide) (by rfl) (pa_cons (pe_op op_cat (pv 1) (pv 2)) pa_nil)) (nomark _)))))
        (pss_one (ps_ret pe_bl))
        pss_nil)))
        (pss_one (ps_ret (pe_and (pe_fbG G__law_shows hgd hr (by decide) (by rfl) (pa_cons (pv 3) (pa_cons (pv 1) pa_nil)))
            (pe_and (pe_fbG G__law_shows hgd hr (by decide) (by rfl) (pa_cons (pv 4) (pa_cons (pv 2) pa_nil)))
            (pe_one (pe_fbG G__law_shows hgd hr (by decide) (by rfl) (pa_cons (pe_call GM (hr.mono (show 5 ≤ 7 by decide)) (by rfl) mM kM bM .nil passN0 (pa_cons (pe_prop (pv 3) PA.s.pc.cl Pn Gn (hr.mono (show 2 ≤ 7 by decide)) Bn .nil pass0 rfl) pa_nil)) (pa_cons (pv 1) pa_nil))))))))))), ?_⟩
    have big : 1000 ≤ sizeLine := by decide
    refine sq_ (par_ ?_)
    refine ⟨_, rfl, p, 4, 6, rfl, by decide, by decide, by decide, by decide, hp, fun D1 qs H1 hb1 o1 hP1 l1 ok1 => ?_⟩
    refine ⟨_, rfl, p, 4, 3, rfl, by decide, by decide, by decide, by decide, hb1, fun D2 ms H2 hb2 o2 hP2 l2 ok2 => ?_⟩
    refine ⟨_, _, rfl, ?_⟩
    have P1 : PlanH Anyw H2 D1 qs := hP1.keep (fun _ _ => trivial) (fun b o nb e => o2 _ _ (N3.bag_ne hp nb) e)
    have P2 : PlanH Anyw H2 D2 ms := hP2.keep (fun _ _ => trivial) (fun _ _ _ e => e)
    refine pr_seq (asg_ ?_)
    refine ⟨_, rfl, Anyw, D1, qs, rfl, P1, ok1, l1, fun x1 H3 s3 a1 => ?_⟩
    refine ⟨_, rfl, Anyw, D2, ms, rfl, plan_same s3 P2, ok2, l2, fun x2 H4 s4 a2 => ?_⟩
    refine ⟨(by show 2 ≤ sizeLine; omega), fun t nt => ?_⟩
    refine ⟨t, _, rfl, SqT.of upd_same, rfl, _, _, rfl, _, _, rfl, rfl, ?_⟩
    have st := same_new (o := .tup [.ref x1, .ref x2]) nt
    have sA := (s3.trans s4).trans st
    have oA : OffT p H (upd H4 t (.tup [.ref x1, .ref x2])) := OffT.of ((o1.trans o2).trans (N3.Same.off sA))
    have TA := (tabs_off (tabs_off hT o1 hp) o2 hb1).ext sA
    have bA := hb2.ext sA
    have P1 := plan_same sA P1
    have P2 := plan_same sA P2
    have a1 := a1.ext (s4.trans st)
    have a2 := a2.ext st
    generalize upd H4 t (.tup [.ref x1, .ref x2]) = HA at *
    have n1 : (qs.map Part.nest).length = qs.length := List.length_map ..
    have n2 : (ms.map Part.nest).length = ms.length := List.length_map ..
    have nT : ∀ {rs : List Part}, (∀ q ∈ rs, PartOk q) → ∀ n ∈ rs.map Part.nest, NestT n := fun ok n hn => by
      obtain ⟨p, hp, rfl⟩ := List.mem_map.mp hn
      exact (ok p hp).nest
    have okA : ∀ q ∈ qs ++ ms, PartOk q := fun q hq => (List.mem_append.mp hq).elim (ok1 q) (ok2 q)
    refine pr_seq (st_sameR (fun H' => BagAt H' p ∧ OffT p H H' ∧ Tabs Ts H' ∧ PlanH Anyw H' D1 qs ∧ PlanH Anyw H' D2 ms ∧ ProgAt CP CN H' x1 (qs.map Part.nest) ∧ ProgAt CP CN H' x2 (ms.map Part.nest)) (fun D' k => if_ ?_) ?_)
    · obtain ⟨_, ts, hD1, tl1, _⟩ := id P1
      obtain ⟨_, us, hD2, tl2, _⟩ := id P2
      have lc : (ts.map V.ref).length + (us.map V.ref).length ≤ sizeLine := by rw [List.length_map, List.length_map]; omega
      refine ⟨_, rfl, _, rfl, D1, D2, _, _, rfl, rfl, hD1, hD2, lc, fun l nl => ⟨l, _, rfl, .inl (SqL.of upd_same), _, _, rfl, rfl, _, rfl, ?_⟩⟩
      rw [List.length_append, List.length_map, List.length_map, tl1, tl2]
      have sl := same_new (o := .lst (ts.map V.ref ++ us.map V.ref)) nl
      have P1 := plan_same sl P1
      have P2 := plan_same sl P2
      have a1 := a1.ext sl
      have a2 := a2.ext sl
      have bA := bA.ext sl
      have TA := TA.ext sl
      have oA := oA.trans (OffT.of (N3.Same.off sl))
      have hD1 := sl _ _ hD1
      have hD2 := sl _ _ hD2
      generalize upd HA l (.lst (ts.map V.ref ++ us.map V.ref)) = HB at *
      obtain ⟨dx, tp, xs, h1, h2, h3, h4⟩ := id a1
      obtain ⟨dy, tq, ys, g1, g2, g3, g4⟩ := id a2
      refine ite2 (fun hl => if_ ?_) (fun hl => if_ ?_)
      · have hl : 4 < qs.length + ms.length := by have := of_decide_eq_true hl; omega
        refine ⟨TA, fun f2 H5 e5 T5 => ?_⟩
        refine ⟨_, rfl, _, rfl, x1, x2, dx, dy, _, _, rfl, rfl, e5 _ _ h1 (fun ps z => by cases z), e5 _ _ g1 (fun ps z => by cases z), x1, x2, _, _, rfl, prog_extN e5 a1, prog_extN e5 a2, by omega, by omega, fun le => ?_, fun _ => ?_⟩
        · rw [List.length_append] at le
          omega
        · refine told_err (t := 16) (d := .int 4) EN (fun H2 s => .old (.dat (.int 4) rfl)) (fits0 (f0_int (i := 4) (by decide) (by decide)) (by simp [PyData.bulk]) (by simp [PyData.depth])) fun t6 H6 s6 h6 => ?_
          refine ⟨(by show 2 ≤ sizeLine; omega), fun t7 n7 => ?_⟩
          obtain ⟨s7, h7⟩ := new_at (o := .tup [.str "nests", .str "4"]) n7
          have ee : PyData.eqv (.tuple [.str "nests", .str "4"]) (.tuple [.str "nests", .str "4"]) = true := by simp [PyData.eqv, PyData.eqvAll]
          refine ⟨.tuple [.str "nests", .str "4"], .tuple [.str "nests", .str "4"], .tup (SqT.of (s7 _ _ h6)) (.cons (.str _) (.cons (.str _) .nil)), .tup (SqT.of h7) (.cons (.str _) (.cons (.str _) .nil)), nests_told, nests_told, ?_⟩
          rw [ee]
          refine ⟨false, rfl, ?_⟩
          refine iteF ?_
          have s67 := s6.trans s7
          have e57 := e5.trans (ExtN.of s67)
          refine k _ ⟨?_, oA.trans (OffT.ext e57), T5.ext s67, plan_extN e57 P1, plan_extN e57 P2, prog_extN e57 a1, prog_extN e57 a2⟩
          obtain ⟨m, d, c, hb⟩ := bA
          exact ⟨m, d, c, e57 _ _ hb (fun ps z => by cases z)⟩
      · have hl : qs.length + ms.length ≤ 4 := by
          have : ¬ (4 : Int) < ((qs.length + ms.length : Nat) : Int) := fun z => hl (decide_eq_true z)
          omega
        have em : (qs ++ ms).map Part.nest = qs.map Part.nest ++ ms.map Part.nest := List.map_append
        refine ⟨_, rfl, _, rfl, x1, x2, dx, dy, _, _, rfl, rfl, h1, g1, x1, x2, _, _, rfl, a1, a2, by omega, by omega, fun _ x3 H5 s5 a3 => ?_, fun gt => ?_⟩
        · refine ⟨_, rfl, _, rfl, D1, D2, _, _, rfl, rfl, s5 _ _ hD1, s5 _ _ hD2, lc, fun l nl => ?_⟩
          have s6 := same_new (o := .lst (ts.map V.ref ++ us.map V.ref)) nl
          have P12 := plan_app (plan_same s5 P1) (plan_same s5 P2) (s5 _ _ hD1) (s5 _ _ hD2) nl
          refine ⟨Anyw, x3, l, qs ++ ms, rfl, by rw [em]; exact a3.ext s6, P12, okA, by rw [List.length_append]; exact hl, fun H7 s7 => ?_⟩
          refine ⟨true, rfl, ?_⟩
          refine iteF ?_
          have s57 := (s5.trans s6).trans s7
          refine ⟨_, rfl, _, rfl, x1, x2, dx, dy, _, _, rfl, rfl, s57 _ _ h1, s57 _ _ g1, x1, x2, _, _, rfl, a1.ext s57, a2.ext s57, by omega, by omega, fun _ x4 H8 s8 a4 => ?_, fun gt => ?_⟩
          · obtain ⟨dz, tz, zs, z1, z2, z3, z4⟩ := id a4
            refine ⟨x4, dz, _, rfl, z1, x4, _, rfl, a4, ?_, by rw [List.length_append]; omega, fun H9 s9 => ⟨_, rfl, ?_⟩⟩
            · rw [← em]
              exact nT okA
            have s59 := (s57.trans s8).trans s9
            refine ⟨_, rfl, _, rfl, D1, D2, _, _, rfl, rfl, s59 _ _ hD1, s59 _ _ hD2, lc, fun l2 nl2 => ?_⟩
            have s10 := same_new (o := .lst (ts.map V.ref ++ us.map V.ref)) nl2
            have P12 := plan_app (plan_same s59 P1) (plan_same s59 P2) (s59 _ _ hD1) (s59 _ _ hD2) nl2
            refine ⟨Anyw, l2, qs ++ ms, rfl, P12, okA, by rw [List.length_append]; omega, fun H11 s11 => ?_⟩
            rw [em]
            refine ⟨rfl, _, rfl, ?_⟩
            rw [show decide (V.str (N3.progT (qs.map Part.nest ++ ms.map Part.nest)) = V.str (N3.progT (qs.map Part.nest ++ ms.map Part.nest))) = true from decide_eq_true rfl]
            refine iteF ?_
            have sE := (s59.trans s10).trans s11
            exact k _ ⟨bA.ext sE, oA.trans (OffT.of (N3.Same.off sE)), TA.ext sE, plan_same sE P1, plan_same sE P2, a1.ext sE, a2.ext sE⟩
          · rw [List.length_append] at gt
            omega
        · rw [List.length_append] at gt
          omega
    rintro HC ⟨bC, oC, TC, P1, P2, a1, a2⟩
    refine pr_one (ret_ ?_)
    refine ⟨_, rfl, _, rfl, Anyw, x1, D1, qs, rfl, a1, P1, ok1, l1, fun H5 s5 => ⟨true, rfl, ?_⟩⟩
    refine iteT ?_
    refine ⟨_, rfl, _, rfl, Anyw, x2, D2, ms, rfl, a2.ext s5, plan_same s5 P2, ok2, l2, fun H6 s6 => ⟨true, rfl, ?_⟩⟩
    refine iteT ?_
    have s56 := s5.trans s6
    obtain ⟨dx, tp, xs, h1, h2, h3, h4⟩ := a1.ext s56
    refine ⟨_, rfl, x1, _, _, rfl, h1, x1, _, _, .ref tp, rfl, h1, N3.putN tp, tp, xs, _, rfl, .inr (SqT.of h2), ⟨h3, h4⟩, by omega, fun x5 H7 s7 a5 => ?_⟩
    have s57 := s56.trans s7
    refine ⟨_, rfl, Anyw, x5, D1, qs, rfl, a5, plan_same s57 P1, ok1, l1, fun H8 s8 => ?_⟩
    have sE := s57.trans s8
    exact q _ (bC.ext sE) (oC.trans (OffT.of (N3.Same.off sE))) (TC.ext sE)
end
end Sq
namespace Sq
open PySem L2 PySem.Spec PyProof.Rows TL LamX L2H
open N3 (FlX NestD NestT NestIs ProgAt PlanH PartH PartOk Part reprT deedSum rowOf actS BagAt)

theorem ixN_at {n j : Nat} (hj : j < n) : ixN n (j : Int) = some j := by
  unfold ixN
  rw [if_pos (by omega), if_pos (by omega)]
  rfl
theorem fw_goodM : ∀ (bs : List Bool) (i : Nat), (∀ j, j < bs.length → i + j ≠ 4 ∧ bs[j]? = some true) → fw i 4 bs = none
  | [], _, _ => rfl
  | b :: r, i, h => by
    have h0 := h 0 (by rw [List.length_cons]; omega)
    have hb : b = true := by simpa using h0.2
    unfold fw
    rw [if_neg (by rw [hb]; rintro (e | e); · omega
                   · cases e)]
    exact fw_goodM r (i + 1) fun j hj => by
      have := h (j + 1) (by rw [List.length_cons]; omega)
      rw [List.getElem?_cons_succ] at this
      exact ⟨by omega, this.2⟩
theorem fw_badM : ∀ (bs : List Bool) (i k : Nat), k < bs.length → (i + k = 4 ∨ bs[k]? = some false) → (∀ j, j < k → i + j ≠ 4 ∧ bs[j]? = some true) → fw i 4 bs = some (i + k)
  | [], _, _, h, _, _ => by simp at h
  | b :: r, i, 0, _, hb, _ => by
    unfold fw
    rw [if_pos]
    · rfl
    · rcases hb with e | e
      · exact .inl (by omega)
      · exact .inr (by simpa using e)
  | b :: r, i, k + 1, hk, hb, hg => by
    have h0 := hg 0 (by omega)
    have h1 : b = true := by simpa using h0.2
    unfold fw
    rw [if_neg (by rw [h1]; rintro (e | e); · omega
                   · cases e)]
    rw [fw_badM r (i + 1) k (by rw [List.length_cons] at hk; omega) (hb.elim (fun e => .inl (by omega)) fun e => .inr (by rw [List.getElem?_cons_succ] at e; exact e)) fun j hj => by
      have := hg (j + 1) (by omega)
      rw [List.getElem?_cons_succ] at this
      exact ⟨by omega, this.2⟩]
    rw [show i + 1 + k = i + (k + 1) by omega]
/-- what is wrong among the first of the things -/
def BadM (bs : List Bool) (i : Nat) (ks : List Nat) : Prop :=
  (ks = [] ∧ ∀ j, j < i → 0 + j ≠ 4 ∧ bs[j]? = some true) ∨ ∃ k r, ks = k :: r ∧ k < i ∧ (0 + k = 4 ∨ bs[k]? = some false) ∧ ∀ j, j < k → 0 + j ≠ 4 ∧ bs[j]? = some true
theorem BadM.put {bs : List Bool} {i : Nat} {ks : List Nat} (h : BadM bs i ks) (hb : 0 + i = 4 ∨ bs[i]? = some false) : BadM bs (i + 1) (ks ++ [i]) := by
  rcases h with ⟨rfl, g⟩ | ⟨k, r, rfl, hk, b, g⟩
  · exact .inr ⟨i, [], rfl, by omega, hb, g⟩
  · exact .inr ⟨k, r ++ [i], rfl, by omega, b, g⟩
theorem BadM.skip {bs : List Bool} {i : Nat} {ks : List Nat} (h : BadM bs i ks) (h5 : i ≠ 4) (hb : bs[i]? = some true) : BadM bs (i + 1) ks := by
  rcases h with ⟨rfl, g⟩ | ⟨k, r, rfl, hk, b, g⟩
  · refine .inl ⟨rfl, fun j hj => ?_⟩
    by_cases e : j = i
    · rw [e]
      exact ⟨by omega, hb⟩
    · exact g j (by omega)
  · exact .inr ⟨k, r, rfl, by omega, b, g⟩
def OffD (p D : Addr) (H H' : Hp) : Prop := ∀ b o, b ≠ p → b ≠ D → H b = some o → (∀ ps, o ≠ .tbl ps) → H' b = some o
theorem OffD.trans {p D : Addr} {H H1 H2 : Hp} (a : OffD p D H H1) (b : OffD p D H1 H2) : OffD p D H H2 := fun c o n m h t => b c o n m (a c o n m h t) t
theorem OffD.of {p D : Addr} {H H' : Hp} (a : OffT p H H') : OffD p D H H' := fun c o n _ h t => a c o n h t
/-- a thing, and whether it is a nest, wherever other objects than the bag and the list stay -/
structure Tw (K : PySem.W.Frag) (CN : Addr) (O : Hp → Hp → Prop) (H : Hp) (v : V) (b : Bool) : Prop where
  is : ∀ H', O H H' → N3.IsB K CN H' v b
  nest : b = true → ∃ x n, v = .ref x ∧ ∀ H', O H H' → NestIs CN H' x n
theorem Tw.off {K : PySem.W.Frag} {CN p D : Addr} {H H' : Hp} {v : V} {b : Bool} (h : Tw K CN (OffD p D) H v b) (o : OffD p D H H') : Tw K CN (OffD p D) H' v b := ⟨fun H2 o2 => h.is H2 (o.trans o2), fun e => by
  obtain ⟨x, n, e1, e2⟩ := h.nest e
  exact ⟨x, n, e1, fun H2 o2 => e2 H2 (o.trans o2)⟩⟩
theorem Tw.offT {K : PySem.W.Frag} {CN p : Addr} {H H' : Hp} {v : V} {b : Bool} (h : Tw K CN (OffT p) H v b) (o : OffT p H H') : Tw K CN (OffT p) H' v b := ⟨fun H2 o2 => h.is H2 (OffT.trans o o2), fun e => by
  obtain ⟨x, n, e1, e2⟩ := h.nest e
  exact ⟨x, n, e1, fun H2 o2 => e2 H2 (OffT.trans o o2)⟩⟩
theorem off_newD {p D : Addr} {H H' : Hp} (nD : H D = none) (o : OffD p D H H') : OffT p H H' := fun c u nc hc ht => o c u nc (fun e => by rw [e, nD] at hc; cases hc) hc ht
/-- D is new at H -/
theorem Tw.new {K : PySem.W.Frag} {CN p D : Addr} {H H1 : Hp} {v : V} {b : Bool} (h : Tw K CN (OffT p) H v b) (nD : H D = none) (o : OffD p D H H1) : Tw K CN (OffD p D) H1 v b := ⟨fun H2 o2 => h.is H2 (off_newD nD (o.trans o2)), fun e => by
  obtain ⟨x, n, e1, e2⟩ := h.nest e
  exact ⟨x, n, e1, fun H2 o2 => e2 H2 (off_newD nD (o.trans o2))⟩⟩
structure Kits (K : PySem.W.Frag) (CN CP : Addr) : Prop where
  cl : Cls K CN
  isn : Isn K CN
  pcl : Cls K CP
  pis : Isn K CP
  n : PySem.W.kitOne K (.type "NoneType") (.ref CN) = some false
  i : PySem.W.kitOne K (.type "int") (.ref CN) = some false
  s : PySem.W.kitOne K (.type "str") (.ref CN) = some false
  t : PySem.W.kitOne K (.type "tuple") (.ref CN) = some false
  l : PySem.W.kitOne K (.type "list") (.ref CN) = some false
  p : PySem.W.kitOne K (.ref CP) (.ref CN) = some false
section
variable {K : PySem.W.Frag} {CN CP p : Addr} {H : Hp}
theorem tw_no {O : Hp → Hp → Prop} {v : V} (h : ∀ H', O H H' → N3.IsB K CN H' v false) : Tw K CN O H v false := ⟨h, fun e => by cases e⟩
theorem tw_none (Z : Kits K CN CP) : Tw K CN (OffT p) H .non false := tw_no fun H' _ => ⟨_, .base .non, Z.n⟩
theorem tw_int (Z : Kits K CN CP) (i : Int) : Tw K CN (OffT p) H (.int i) false := tw_no fun H' _ => ⟨_, .base (.int i), Z.i⟩
theorem tw_str (Z : Kits K CN CP) (x : Str) : Tw K CN (OffT p) H (.str x) false := tw_no fun H' _ => ⟨_, .base (.str x), Z.s⟩
theorem tw_tup (Z : Kits K CN CP) {a : Addr} {xs : List V} (h : H a = some (.tup xs)) (ne : a ≠ p) : Tw K CN (OffT p) H (.ref a) false := tw_no fun H' o => ⟨_, .base (.tup (o _ _ ne h fun ps z => by cases z)), Z.t⟩
theorem tw_lst (Z : Kits K CN CP) {a : Addr} {xs : List V} (h : H a = some (.lst xs)) (ne : a ≠ p) : Tw K CN (OffT p) H (.ref a) false := tw_no fun H' o => ⟨_, .base (.lst (o _ _ ne h fun ps z => by cases z)), Z.l⟩
theorem tw_prog (Z : Kits K CN CP) {a dx : Addr} {fs : List (Str × V)} (h : H a = some (.ins CP dx fs)) (ne : a ≠ p) : Tw K CN (OffT p) H (.ref a) false := tw_no fun H' o => ⟨.ref CP, .base (.ins (o _ _ ne h fun ps z => by cases z) Z.pcl Z.pis.c1 Z.pis.c2 Z.pis.c3 Z.pis.c4), Z.p⟩
theorem nest_offT {p x : Addr} {n : NestD} {H H' : Hp} (hp : BagAt H p) (h : NestIs CN H x n) (o : OffT p H H') : NestIs CN H' x n := by
  obtain ⟨m, d, c, hp⟩ := hp
  obtain ⟨dx, dp, ⟨R, h1⟩, h2⟩ := h
  exact ⟨dx, dp, ⟨R, o _ _ (fun e => by rw [e, hp] at h1; cases h1) h1 fun ps z => by cases z⟩, o _ _ (fun e => by rw [e, hp] at h2; cases h2) h2 fun ps z => by cases z⟩
theorem tw_nest (Z : Kits K CN CP) {x : Addr} {n : NestD} (hp : BagAt H p) (h : NestIs CN H x n) : Tw K CN (OffT p) H (.ref x) true := ⟨fun H' o => by
  obtain ⟨dx, dp, ⟨R, h1⟩, h2⟩ := nest_offT hp h o
  exact N3.isB_nest Z.cl Z.isn h1, fun _ => ⟨x, n, rfl, fun H' o => nest_offT hp h o⟩⟩
/-- things that are all nests -/
theorem all_nests {O : Hp → Hp → Prop} : ∀ {zs : List (V × Bool)}, (∀ z ∈ zs, Tw K CN O H z.1 z.2) → (∀ b ∈ zs.map (·.2), b = true) → ∃ (xs : List Addr) (ns : List NestD), zs.map (·.1) = xs.map V.ref ∧ xs.length = ns.length ∧ ∀ H', O H H' → ∀ (i : Nat) (x : Addr) (n : NestD), xs[i]? = some x → ns[i]? = some n → NestIs CN H' x n
  | [], _, _ => ⟨[], [], rfl, rfl, fun H' _ i x n h _ => by cases h⟩
  | z :: zs, h, hb => by
    obtain ⟨xs, ns, e, l, a⟩ := all_nests (zs := zs) (fun y hy => h y (List.mem_cons_of_mem _ hy)) fun b hb' => hb b (by rw [List.map_cons]; exact List.mem_cons_of_mem _ hb')
    have bz : z.2 = true := hb z.2 (by rw [List.map_cons]; exact List.mem_cons_self)
    obtain ⟨x, n, ex, hn⟩ := (h z List.mem_cons_self).nest bz
    refine ⟨x :: xs, n :: ns, by rw [List.map_cons, List.map_cons, e, ex], by rw [List.length_cons, List.length_cons, l], fun H' o i y m hy hm => ?_⟩
    cases i with
    | zero =>
      cases hy
      cases hm
      exact hn H' o
    | succ i => exact a H' o i y m hy hm
/-- what the answer tells of a program of things -/
def outM (zs : List (V × Bool)) : Str × Str := match fw 0 4 (zs.map (·.2)) with
  | some k => (("nests" : Str), reprD (.int (k : Nat)))
  | none => (("told" : Str), reprD (.int (zs.length : Nat)))
theorem fw_lt : ∀ (bs : List Bool) (i m k : Nat), fw i m bs = some k → i ≤ k ∧ k < i + bs.length
  | [], i, m, k, h => by cases h
  | b :: r, i, m, k, h => by
    unfold fw at h
    split at h
    · cases h
      rw [List.length_cons]
      omega
    · have := fw_lt r (i + 1) m k h
      rw [List.length_cons]
      omega
theorem fwA_all : ∀ (bs : List Bool) (i m : Nat), fw i m bs = none → ∀ b ∈ bs, b = true
  | [], _, _, _, b, hb => by cases hb
  | a :: r, i, m, h, b, hb => by
    unfold fw at h
    split at h
    · cases h
    · rename_i hn
      rcases List.mem_cons.mp hb with rfl | hb
      · cases b with
        | true => rfl
        | false => exact absurd (.inr rfl) hn
      · exact fwA_all r (i + 1) m h b hb
theorem fits_nat {k : Nat} (h : k ≤ 1000) : Fits (.int (k : Nat)) := fits0 (f0_int (by unfold lim40; omega) (by unfold lim40; omega)) (by simp [PyData.bulk]) (by simp [PyData.depth])
theorem told_word : wd 16 = "nests" := by decide +kernel
theorem ask_things {C : Nat → Addr} {Ts : List (Addr × Str)} {σ : L2.St} {Q : VK} {i : Nat} {D : Addr} {zs : List (V × Bool)} (EN : ErrK K C (C 16) 16) (h1 : σ[i]? = some (some (.ref D))) (hD : H D = some (.lst (zs.map (·.1)))) (h5 : zs.length ≤ 5) (hw : ∀ z ∈ zs, Tw K CN (OffD p D) H z.1 z.2) (hT : Tabs Ts H)
    (q : ∀ tp H2, ExtN H H2 → Tabs Ts H2 → H2 tp = some (.tup [.str (outM zs).1, .str (outM zs).2]) → Q (.ref tp) H2) :
    tLamN Ts (TAns K C) (fun E2 => tCB (fun xs H Q => ∃ a dx fs, xs = [V.ref a] ∧ H a = some (HO.ins CP dx fs) ∧ N3.spPLen CP CN [.ref a] H (fun v H' => ∃ n : Int, v = .int n ∧ 0 ≤ n ∧ n < 2 ^ 63 ∧ Q (.int n) H') E0) (tCons (tCall (N3.spMadePX K CP CN (C 16)) [] E2 (tCons (tVar i) tNil)) tNil)) σ H Q := by
  refine ⟨hT, fun f H1 e1 T1 => ?_⟩
  have nt : ∀ {xs : List V} (ps : Array Value), HO.lst xs ≠ .tbl ps := fun ps z => by cases z
  have hD1 := e1 _ _ hD nt
  have oE : ∀ {H'}, ExtN H H' → OffD p D H H' := fun e => OffD.of (OffT.ext e)
  refine ⟨_, h1, D, zs.map (·.1), rfl, .inl (SqL.of hD1), by rw [List.length_map]; exact h5, fun x dx tp H4 s4 nx hx htp ne => ?_⟩
  have e4 := e1.trans (ExtN.of s4)
  have T4 : Tabs Ts H4 := T1.ext s4
  refine ⟨x, dx, tp, zs.map (·.1), zs.map (·.2), rfl, hx, htp, by rw [List.length_map]; omega, by rw [List.length_map, List.length_map], fun i v b hv hb => ?_, fun k hk => ?_, fun hn H' hx' off => ⟨rfl, ?_⟩⟩
  · rw [List.getElem?_map] at hv hb
    obtain ⟨z, hz, rfl⟩ := Option.map_eq_some_iff.mp hv
    rw [hz] at hb
    cases hb
    exact (hw z (List.mem_of_getElem? hz)).is H4 (oE e4)
  · have eo : outM zs = (("nests" : Str), reprD (.int (k : Nat))) := by
      unfold outM
      rw [hk]
    rw [eo] at q
    have kl := (fw_lt _ _ _ _ hk).2
    rw [List.length_map] at kl
    refine told_err (t := 16) (d := .int (k : Nat)) EN (fun H2 s => .old (.dat (.int _) rfl)) (fits_nat (by omega)) fun tp H2 s2 e2 => ?_
    exact q tp H2 (e4.trans (ExtN.of s2)) (T4.ext s2) e2
  · obtain ⟨xs, ns, ex, lx, hns⟩ := all_nests hw (fwA_all _ _ _ hn)
    have sm : Same H1 H' := fun b u e => off b u (fun z => by rw [z, nx] at e; cases e) (s4 _ _ e)
    have eH := e1.trans (ExtN.of sm)
    have eo : outM zs = (("told" : Str), reprD (.int (zs.length : Nat))) := by
      unfold outM
      rw [hn]
    rw [eo] at q
    have lz : ns.length = zs.length := by
      have := congrArg List.length ex
      rw [List.length_map, List.length_map] at this
      omega
    rw [ex] at htp
    refine ⟨x, dx, _, rfl, hx', x, ns, rfl, ⟨dx, tp, xs, hx', off _ _ ne htp, lx, fun i y n hy hn' => hns H' (oE eH) i y n hy hn'⟩, _, rfl, Int.natCast_nonneg _, by omega, ?_⟩
    rw [lz]
    refine ans_told (dat := .int (zs.length : Nat)) (.old (.dat (.int _) rfl)) (fits_nat (by omega)) fun tp2 H2 s2 e2 => ?_
    exact q tp2 H2 (eH.trans (ExtN.of s2)) (T1.ext (sm.trans s2)) e2
end
def m0 : NestD := ("0 to n", "0 to 1", [])
def m1 : NestD := ("1 to n down", "i to n", ["copy i,j j,i"])
def m2 : NestD := ("0 to 0", "0 to n", [])
theorem m_ok : N3.NestOk m0 ∧ N3.NestOk m1 ∧ N3.NestOk m2 := ⟨⟨by decide +kernel, by decide +kernel, by decide +kernel, by decide +kernel, ⟨by decide +kernel, by decide +kernel⟩⟩, ⟨by decide +kernel, by decide +kernel, by decide +kernel, by decide +kernel, ⟨by decide +kernel, by decide +kernel⟩⟩, ⟨by decide +kernel, by decide +kernel, by decide +kernel, by decide +kernel, ⟨by decide +kernel, by decide +kernel⟩⟩⟩
section
variable {P : Program} {w : World} {K : PySem.W.Frag} {mg : Str → Option Value} {base : Heap} {C : Nat → Addr} {CP CN c Pt fN fP : Addr} {Ts : List (Addr × Str)}
abbrev s__law_mixed_right : Stmt := top 75
theorem sc__law_mixed_right : FnScope ["_law_bag_here", "_law_some", "_law_odds", "_law_things", "_law_k", "_law_turn", "_law_bad", "_law_told"] ["_law_bag_here"] (defScope s__law_mixed_right) := ⟨rfl, rfl, rfl, by decide +kernel, rfl, by decide +kernel, by decide +kernel⟩
theorem ok_law_mixed_right {f : Addr} {fd : FuncData} (AK : AnsK P w K mg base C) (EN : ErrK K C (C 16) 16) (NK : N3.NestK P w K mg base CN) (PA : ProgA P w K mg base CP CN (C 16)) (Z : Kits K CN CP) (mkP : Mk K CP fP) (GRP : FnR P w K mg base (L2N.CX P w) 3 fP (N3.spPMadeX K CP CN (C 16))) (TB : TabB base mg c Pt) (hmT : (Pt, ("_law_mixed_right.<locals>.<lambda>" : Str)) ∈ Ts) (hu : ∀ p ∈ Ts, p.1 = Pt → p.2 = "_law_mixed_right.<locals>.<lambda>")
    (G__law_take : FB P w K mg base "_law_take" 1 ["_law_bag_here", "_law_many"] N3.spDraw)
    (F : FunT K "_law_mixed_right" "_law_mixed_right" s__law_mixed_right f fd c) (B : Binds K fd ["_law_bag_here"] []) (T : Bt mg) : FnG P w K mg base 8 f (spTurn Ts) := by
  obtain ⟨fN, mkN, GRN⟩ := NK.mks
  obtain ⟨fl, len1, len2, len3⟩ := PA.s.len
  obtain ⟨fM, dM, mM, kM, bM, GM⟩ := PA.made
  refine FnG.ofT F sc__law_mixed_right B (fun vs H Q h => ?_) (fun A outer s H vs Q hgd hr h => ?_)
  · obtain ⟨p, rfl, _⟩ := h
    rfl
  · obtain ⟨p, rfl, hp, hT, q⟩ := h
    refine ⟨_, (pss_cons (ps_set (i := 1) sc__law_mixed_right.nd rfl (by first | exact .inl rfl | exact .inr rfl) (pe_lst (pa_cons (StX.pe_makeR mkN GRN (hr.mono (show 5 ≤ 7 by decide)) (by rfl) NK.mN pass0 (pa_cons pe_str (pa_cons pe_str pa_nil))) (pa_cons (StX.pe_makeR mkN GRN (hr.mono (show 5 ≤ 7 by decide)) (by rfl) NK.mN pass0 (pa_cons pe_str (pa_cons pe_str (pa_cons pe_str pa_nil)))) (pa_cons (StX.pe_makeR mkN GRN (hr.mono (show 5 ≤ 7 by decide)) (by rfl) NK.mN pass0 (pa_cons pe_str (pa_cons pe_str pa_nil))) pa_nil)))))
        (pss_cons (ps_set (i := 2) sc__law_mixed_right.nd rfl (by first | exact .inl rfl | exact .inr rfl) (pe_lst (pa_cons pe_non (pa_cons pe_int (pa_cons pe_str (pa_cons pe_str (pa_cons (pe_tup (pa_cons (pe_ix (show IxR _ (rIxL K) from ix_list) (pv 1) pe_int (fun _ _ => rfl)) pa_nil)) (pa_cons (pe_lst (pa_cons (pe_ix (show IxR _ (rIxL K) from ix_list) (pv 1) pe_int (fun _ _ => rfl)) pa_nil)) (pa_cons (StX.pe_makeR mkP GRP (hr.mono (show 4 ≤ 7 by decide)) (by rfl) PA.s.mP passN0 (pa_cons (pe_ix (show IxR _ (rIxL K) from ix_list) (pv 1) pe_int (fun _ _ => rfl)) pa_nil)) (pa_cons (pe_ix (show IxR _ (rIxL K) from ix_list) (pv 1) pe_int (fun _ _ => rfl)) pa_nil))))))))))
        (pss_cons (ps_asg (pe_lc (own := [("_law_k", 4)]) (g := gName 4) (by rfl) sc__law_mixed_right.nd (pi_range1 (by rfl) T.range (pa_cons (pe_fb G__law_take hr (by decide) (by rfl) (pa_cons (pv 0) (pa_cons pe_int pa_nil))) pa_nil)) (blkOk_by (own := [("_law_k", 4)]) (N := ["_law_bag_here", "_law_some", "_law_odds", "_law_things", "_law_k", "_law_turn", "_law_bad", "_law_told"]) (sc := defScope s__law_mixed_right) (by decide +kernel))
            (fun _ _ _ _ _ => (pg_name (i := 4) sc__law_mixed_right.nd rfl (by first | exact .inl rfl | exact .inr rfl))) (fun _ _ _ _ _ => pts_nil) (fun _ _ _ _ _ => (pe_ix (show IxR _ (rIxL K) from ix_list) (pv 1) (pe_fb G__law_take hr (by decide) (by rfl) (pa_cons (pv 0) (pa_cons pe_int pa_nil))) (fun _ _ => rfl)))) (pg_name (i := 3) sc__law_mixed_right.nd rfl (by first | exact .inl rfl | exact .inr rfl)))
        (pss_cons (ps_for PassesOwn.never rfl (pi_range1 (by rfl) T.range (pa_cons (pe_fb G__law_take hr (by decide) (by rfl) (pa_cons (pv 0) (pa_cons pe_int pa_nil))) pa_nil)) (pg_name (i := 5) sc__law_mixed_right.nd rfl (by first | exact .inl rfl | exact .inr rfl))
        (pss_one (ps_if (pt_cmpR (op_neNil hr) (pv 3) (pe_lst pa_nil) (nomark _))
        (pss_one (ps_asg (pe_ix (show IxR _ (rIxL K) from ix_list) (pv 2) (pe_fb G__law_take hr (by decide) (by rfl) (pa_cons (pv 0) (pa_cons pe_int pa_nil))) (fun _ _ => rfl)) (pg_sub (pv 3) (pe_fb G__law_take hr (by decide) (by rfl) (pa_cons (pv 0) (pa_cons (pe_callB call_len_seq (by rfl) T.len PySem.boot_len (pa_cons (pv 3) pa_nil)) pa_nil))) set_list)))
        pss_nil)))
        (pss_cons (ps_setLc (i := 6) (own := [("_law_k", 4)]) (g := gName 4) (by rfl) sc__law_mixed_right.nd rfl rfl (by first | rfl | exact sw_true rfl rfl rfl (by decide +kernel)) (pi_range1 (by rfl) T.range (pa_cons (pe_callB call_len_seq (by rfl) T.len PySem.boot_len (pa_cons (pv 3) pa_nil)) pa_nil)) (blkOk_by (own := [("_law_k", 4)]) (N := ["_law_bag_here", "_law_some", "_law_odds", "_law_things", "_law_k", "_law_turn", "_law_bad", "_law_told"]) (sc := defScope s__law_mixed_right) (by decide +kernel))
            (fun _ _ _ _ _ => (pg_name (i := 4) sc__law_mixed_right.nd rfl (by first | exact .inl rfl | exact .inr rfl))) (fun _ _ _ _ _ => (pts_one (PW.pt (pw_or (pt_cmpR op_eq (pv 4) pe_int (nomark _)) (pw_or1 (pt_not (pt_val (pe_callB (r := rIsi K) call_isi (by rfl) T.isinstance (by decide +kernel) (pa_cons (pe_ix (show IxR _ (rIxL K) from ix_list) (pv 3) (pv 4) (fun _ _ => rfl)) (pa_cons (pe_glob (v := .ref CN) (by rfl) NK.mN rfl) pa_nil)))))))))) (fun _ _ _ _ _ => (pv 4)))
        (pss_cons (ps_set (i := 7) sc__law_mixed_right.nd rfl (by first | exact .inl rfl | exact .inr rfl) (pe_ask AK hgd TB rfl hmT hu hr (lamS_by (by with_unfolding_all rfl)) rfl (fun _ _ _ _ _ => rfl) (fun A2 outer2 s2 H2 E2 f2 c2 hr2 => (pe_callB (call_lenO len1 len2 len3 (hr2.mono (by decide))) (by rfl) T.len PySem.boot_len (pa_cons (pe_call GM (hr2.mono (by decide)) (by rfl) mM kM bM .nil (L2N.passes_call lam_takes (fun _ _ _ _ h => h)) (pa_cons (pv 3) pa_nil)) pa_nil)))))
        (pss_one (ps_ret (pe_cmpR (op_eqG (rcG_tup mon_flat eqG_flat) (hr.mono (show 1 ≤ 7 by decide))) (pv 7) (pe_ifExp (pt_cmpR (op_neNil hr) (pv 6) (pe_lst pa_nil) (nomark _)) (pe_tup (pa_cons pe_str (pa_cons (pe_callB (call_repr3U hgd hr.units200) (by rfl) AK.rp (by decide +kernel) (pa_cons (pe_ix (show IxR _ (rIxL K) from ix_list) (pv 6) pe_int (fun _ _ => rfl)) pa_nil)) pa_nil))) (pe_tup (pa_cons pe_str (pa_cons (pe_callB (call_repr3U hgd hr.units200) (by rfl) AK.rp (by decide +kernel) (pa_cons (pe_callB call_len_seq (by rfl) T.len PySem.boot_len (pa_cons (pv 3) pa_nil)) pa_nil)) pa_nil)))) (nomark _)))))))))), ?_⟩
    have big : 1000 ≤ sizeLine := by decide
    obtain ⟨ok0, ok1, ok2⟩ := m_ok
    refine sq_ (set_ (gen_of (fun y H' => ∃ S x0 x1 x2, y = .ref S ∧ Same H H' ∧ H' S = some (.lst [.ref x0, .ref x1, .ref x2]) ∧ NestIs CN H' x0 m0 ∧ NestIs CN H' x1 m1 ∧ NestIs CN H' x2 m2) (fun Q' k => ?_) ?_))
    · refine fun x0 d0 nx0 nd0 _ => N3.made_deeds (K := K) (n := m0) nx0 nd0 ok0 fun H1 s1 i0 => ?_
      refine fun x1 d1 nx1 nd1 _ => N3.made_deeds (K := K) (n := m1) nx1 nd1 ok1 fun H2 s2 i1 => ?_
      refine fun x2 d2 nx2 nd2 _ => N3.made_deeds (K := K) (n := m2) nx2 nd2 ok2 fun H3 s3 i2 => ?_
      refine ⟨(by show 3 ≤ sizeLine; omega), fun S nS => ?_⟩
      have s4 := same_new (o := .lst [.ref x0, .ref x1, .ref x2]) nS
      exact k _ _ ⟨S, x0, x1, x2, rfl, ((s1.trans s2).trans s3).trans s4, upd_same, NestAt.ext ((s2.trans s3).trans s4) i0, NestAt.ext (s3.trans s4) i1, NestAt.ext s4 i2⟩
    rintro _ H1 ⟨S, x0, x1, x2, rfl, s1, hS, i0, i1, i2⟩
    have hb1 := hp.ext s1
    have nSp : S ≠ p := fun e => by
      obtain ⟨m, d, c, hb⟩ := hb1
      rw [e, hb] at hS
      cases hS
    refine pr_seq (set_ (gen_of (fun y H' => ∃ O, ∃ os : List (V × Bool), y = .ref O ∧ Same H1 H' ∧ H' O = some (.lst (os.map (·.1))) ∧ os.length = 8 ∧ ∀ z ∈ os, Tw K CN (OffT p) H' z.1 z.2) (fun Q' k => ?_) ?_))
    · refine ⟨_, rfl, S, _, 0, _, rfl, rfl, SqL.of hS, rfl, (by show 1 ≤ sizeLine; omega), fun a4 n4 => ?_⟩
      have t4 := same_new (o := .tup [.ref x0]) n4
      refine ⟨_, rfl, S, _, 1, _, rfl, rfl, SqL.of (t4 _ _ hS), rfl, (by show 1 ≤ sizeLine; omega), fun a5 n5 => ?_⟩
      have t5 := t4.trans (same_new (o := .lst [.ref x1]) n5)
      refine ⟨_, rfl, S, _, 0, _, rfl, rfl, SqL.of (t5 _ _ hS), rfl, fun y dy ny ndy ne => ?_⟩
      refine ⟨[.ref y], [.ref x0], rfl, rfl, (by show 1 ≤ sizeLine; omega), fun dq nq => ?_⟩
      obtain ⟨t6, hy, nqy⟩ := N3.init_at (C := CP) (xs := [.ref x0]) ny ndy ne nq
      have nb : ∀ {a : Addr} {G : Hp}, BagAt G p → G a = none → a ≠ p := fun hb na => N3.bag_ne hb na
      refine N3.pinit_ok (xs := [x0]) (ns := [m0]) Z.cl Z.isn ⟨rfl, fun i x n hx hn => ?_⟩ (by show 1 ≤ 4; omega) t6 ny hy upd_same nqy fun H6 s6 p6 => ?_
      · cases i with
        | zero =>
          cases hx
          cases hn
          exact NestAt.ext t5 i0
        | succ i => cases hx
      refine ⟨_, rfl, S, _, 2, _, rfl, rfl, SqL.of (s6 _ _ (t5 _ _ hS)), rfl, ?_⟩
      refine ⟨(by show 8 ≤ sizeLine; omega), fun O nO => ?_⟩
      have t7 := t5.trans (s6.trans (same_new (o := .lst [.non, .int 0, .str "0 to n", .str "i from 0 to n\nj from 0 to n", .ref a4, .ref a5, .ref y, .ref x2]) nO))
      obtain ⟨dz, tz, zs, z1, _⟩ := p6
      have h4 := (s6.trans (same_new (o := .lst [.non, .int 0, .str "0 to n", .str "i from 0 to n\nj from 0 to n", .ref a4, .ref a5, .ref y, .ref x2]) nO)) _ _ ((same_new (o := .lst [.ref x1]) n5) _ _ (upd_same (H := H1) (a := a4) (o := .tup [.ref x0])))
      have h5 := (s6.trans (same_new (o := .lst [.non, .int 0, .str "0 to n", .str "i from 0 to n\nj from 0 to n", .ref a4, .ref a5, .ref y, .ref x2]) nO)) a5 (.lst [.ref x1]) upd_same
      have hy7 := (same_new (o := .lst [.non, .int 0, .str "0 to n", .str "i from 0 to n\nj from 0 to n", .ref a4, .ref a5, .ref y, .ref x2]) nO) _ _ z1
      refine k _ _ ⟨O, [(.non, false), (.int 0, false), (.str "0 to n", false), (.str "i from 0 to n\nj from 0 to n", false), (.ref a4, false), (.ref a5, false), (.ref y, false), (.ref x2, true)], rfl, t7, upd_same, rfl, fun z hz => ?_⟩
      have hb7 := hb1.ext t7
      simp only [List.mem_cons, List.not_mem_nil, or_false] at hz
      rcases hz with rfl | rfl | rfl | rfl | rfl | rfl | rfl | rfl
      · exact tw_none Z
      · exact tw_int Z 0
      · exact tw_str Z _
      · exact tw_str Z _
      · exact tw_tup Z h4 (nb hb1 n4)
      · exact tw_lst Z h5 (nb (hb1.ext t4) n5)
      · exact tw_prog Z hy7 (nb (hb1.ext t5) ny)
      · exact tw_nest Z hb7 (NestAt.ext t7 i2)
    rintro _ H2 ⟨O, os, rfl, s2, hO, ol, how⟩
    have hb2 := hb1.ext s2
    have hS2 := s2 _ _ hS
    have nOp : O ≠ p := fun e => by
      obtain ⟨m, d, c, hb⟩ := hb2
      rw [e, hb] at hO
      have z := congrArg List.length (HO.lst.inj (Option.some.inj hO))
      rw [List.length_map, ol] at z
      cases z
    have w0 : ∀ i : Nat, i < 3 → ∃ x, ([V.ref x0, .ref x1, .ref x2] : List V)[i]? = some x ∧ Tw K CN (OffT p) H2 x true := fun i hi => by
      rcases (show i = 0 ∨ i = 1 ∨ i = 2 by omega) with rfl | rfl | rfl
      · exact ⟨_, rfl, tw_nest Z hb2 (NestAt.ext s2 i0)⟩
      · exact ⟨_, rfl, tw_nest Z hb2 (NestAt.ext s2 i1)⟩
      · exact ⟨_, rfl, tw_nest Z hb2 (NestAt.ext s2 i2)⟩
    have s12 := s1.trans s2
    have T2 := hT.ext s12
    refine pr_seq (asg_ ?_)
    refine ⟨_, rfl, p, 6, rfl, hb2, by decide, by decide, fun m H3 ml hp3 o3 => ⟨(m : Int), rfl, by omega, by omega, fun D nD => ?_⟩⟩
    have nDp := N3.bag_new hp3 nD
    have hDn2 : H2 D = none := N3.off_none o3 nDp nD
    have hDn : H D = none := none_of s12 hDn2
    have oT3 : OffT p H (upd H3 D (.lst [])) := (OffT.of ((N3.Same.off s12).trans o3)).put hDn
    refine lc_range (lo := 0) (fun i H' => BagAt H' p ∧ OffT p H H' ∧ OffT p H2 H' ∧ Tabs Ts H' ∧ ∃ zs : List (V × Bool), H' D = some (.lst (zs.map (·.1))) ∧ zs.length = i ∧ ∀ z ∈ zs, Tw K CN (OffD p D) H' z.1 z.2)
      ⟨hp3.ext (same_new nD), oT3, (OffT.of o3).put hDn2, (tabs_off T2 o3 hb2).ext (same_new nD), [], upd_same, rfl, fun d hd => absurd hd List.not_mem_nil⟩ (fun i H' hi h => ?_) (fun H' h => ?_)
    · obtain ⟨hb, oo, o2', T', zs, hD, hl, hw⟩ := h
      have hi : i < m := by omega
      refine ⟨rfl, ?_⟩
      refine ⟨_, rfl, _, rfl, p, 3, rfl, hb, by decide, by decide, fun r H4 rl hb4 o4 => ?_⟩
      obtain ⟨x, hx, wx⟩ := w0 r rl
      have o24 := OffT.trans o2' (OffT.of o4)
      have hS4 := o24 _ _ nSp hS2 (fun ps z => by cases z)
      refine ⟨S, _, (r : Int), x, rfl, rfl, SqL.of hS4, atI_nat hx, ?_⟩
      have hD4 := o4 D _ nDp hD
      refine ⟨_, hD4, ?_, ?_, ?_, ?_, ?_, zs ++ [(x, true)], ?_, ?_, fun z hz => ?_⟩
      · rw [List.length_map]
        omega
      · obtain ⟨m', d', c', e⟩ := hb4
        exact ⟨m', d', c', by rw [upd_ne nDp.symm]; exact e⟩
      · exact (OffT.trans oo (OffT.of o4)).put hDn
      · exact o24.put hDn2
      · exact tabs_put (tabs_off T' o4 hb) hD4
      · rw [upd_same, List.map_append]
        rfl
      · rw [List.length_append, hl]
        rfl
      · have up : OffD p D H4 (upd H4 D (.lst (zs.map (·.1) ++ [x]))) := fun b o _ nd h _ => by rw [upd_ne nd]; exact h
        rcases List.mem_append.mp hz with e | e
        · exact (hw z e).off ((OffD.of (OffT.of o4)).trans up)
        · rw [List.mem_singleton.mp e]
          exact wx.new hDn2 ((OffD.of o24).trans up)
    obtain ⟨hb, oo, o2', T', zs, hD, hl, hw⟩ := h
    refine nm_seq ?_
    refine ⟨_, rfl, p, 3, rfl, hb, by decide, by decide, fun m3 H4 ml3 hp4 o4 => ⟨(m3 : Int), rfl, by omega, by omega, ?_⟩⟩
    have hD4 := o4 _ _ nDp hD
    refine for_range (lo := 0) (fun _ σ H' => (∃ v5, σ = [some (.ref p), some (.ref S), some (.ref O), some (.ref D), none, v5, none, none]) ∧ BagAt H' p ∧ OffT p H H' ∧ OffT p H2 H' ∧ Tabs Ts H' ∧ ∃ zs : List (V × Bool), H' D = some (.lst (zs.map (·.1))) ∧ zs.length ≤ 5 ∧ ∀ z ∈ zs, Tw K CN (OffD p D) H' z.1 z.2)
      ⟨⟨_, rfl⟩, hp4, OffT.trans oo (OffT.of o4), OffT.trans o2' (OffT.of o4), tabs_off T' o4 hb, zs, hD4, by omega, fun z hz => (hw z hz).off (OffD.of (OffT.of o4))⟩ (fun i σ H5 hi h => ?_) (fun σ H5 h => ?_)
    · obtain ⟨⟨v5, rfl⟩, hb, oo, o2', T', zs, hD, h5, hw⟩ := h
      refine ⟨_, rfl, (by show 0 ≤ sizeLine; omega), fun e ne => ?_⟩
      have se := same_new (o := .lst []) ne
      refine ⟨D, e, _, rfl, rfl, SqL.of (se _ _ hD), SqL.of upd_same, _, rfl, ?_⟩
      have hb' := hb.ext se
      have oo' := OffT.trans oo (OffT.of (N3.Same.off se))
      have o2e := OffT.trans o2' (OffT.of (N3.Same.off se))
      have T2' := T'.ext se
      have hwe : ∀ z ∈ zs, Tw K CN (OffD p D) (upd H5 e (.lst [])) z.1 z.2 := fun z hz => (hw z hz).off (OffD.of (OffT.of (N3.Same.off se)))
      have hDe := se _ _ hD
      generalize upd H5 e (.lst []) = H6 at *
      rw [List.length_map]
      by_cases hx : zs.length = 0
      · rw [decide_eq_true hx]
        refine iteF ?_
        exact ⟨⟨_, rfl⟩, hb', oo', o2e, T2', zs, hDe, h5, hwe⟩
      rw [decide_eq_false hx]
      refine iteT ?_
      refine ⟨_, rfl, _, rfl, p, 8, rfl, hb', by decide, by decide, fun r H7 rl hb7 o7 => ?_⟩
      have o27 := OffT.trans o2e (OffT.of o7)
      have lr : r < os.length := by omega
      have hO7 := o27 _ _ nOp hO (fun ps z => by cases z)
      refine ⟨O, _, (r : Int), os[r].1, rfl, rfl, SqL.of hO7, atI_nat (by rw [List.getElem?_map, List.getElem?_eq_getElem lr]; rfl), ?_⟩
      have hD7 := o7 _ _ nDp hDe
      refine ⟨_, rfl, _, rfl, _, rfl, D, _, rfl, .inl (SqL.of hD7), p, (zs.map (·.1)).length, rfl, hb7, by rw [List.length_map]; omega, by rw [List.length_map]; omega, fun a H8 al hb8 o8 => ?_⟩
      have hD8 := o8 _ _ nDp hD7
      have o78 := o7.trans o8
      refine ⟨D, _, (a : Int), a, rfl, rfl, hD8, ixN_at al, ?_⟩
      have wr := how _ (List.getElem_mem lr)
      generalize os[r] = y at *
      refine ⟨⟨_, rfl⟩, ?_, (OffT.trans oo' (OffT.of o78)).put hDn, (OffT.trans o2e (OffT.of o78)).put hDn2, tabs_put (tabs_off T2' o78 hb') hD8, zs.set a y, ?_, ?_, fun z hz => ?_⟩
      · obtain ⟨m', d', c', e⟩ := hb8
        exact ⟨m', d', c', by rw [upd_ne nDp.symm]; exact e⟩
      · rw [upd_same, List.map_set]
      · rw [List.length_set]
        exact h5
      · have up : OffD p D H8 (upd H8 D (.lst ((zs.map (·.1)).set a y.1))) := fun b o _ nd h _ => by rw [upd_ne nd]; exact h
        rcases List.mem_or_eq_of_mem_set hz with hz | rfl
        · exact (hwe z hz).off ((OffD.of (OffT.of o78)).trans up)
        · exact wr.new hDn2 ((OffD.of (OffT.trans o2e (OffT.of o78))).trans up)
    obtain ⟨⟨v5, rfl⟩, hb, oo, o2', T', zs, hD, h5, hw⟩ := h
    refine pr_seq ?_
    refine ⟨_, rfl, D, _, rfl, .inl (SqL.of hD), ?_⟩
    rw [List.length_map]
    refine ⟨(zs.length : Int), rfl, by omega, by omega, fun B nB => ?_⟩
    refine lc_range (lo := 0) (n := zs.length) (fun i H' => Same H5 H' ∧ ∃ bs : List Nat, H' B = some (.lst (bs.map fun k => V.int (k : Nat))) ∧ bs.length ≤ i ∧ BadM (zs.map (·.2)) i bs) ⟨same_new nB, [], upd_same, Nat.le_refl _, .inl ⟨rfl, fun j hj => absurd hj (Nat.not_lt_zero _)⟩⟩ (fun i H6 hi h => ?_) (fun H6 h => ?_)
    · obtain ⟨s6, bs, hB, bl, bad⟩ := h
      have hi : i < zs.length := hi
      rw [Int.zero_add]
      refine ⟨rfl, ?_⟩
      have em : (zs.map (·.2))[i]? = some (zs[i].2) := by
        rw [List.getElem?_map, List.getElem?_eq_getElem hi]
        rfl
      have put : (0 + i = 4 ∨ (zs.map (·.2))[i]? = some false) → ∃ acc, H6 B = some (.lst acc) ∧ acc.length < sizeLine ∧ (Same H5 (upd H6 B (.lst (acc ++ [.int (i : Nat)]))) ∧ ∃ bs : List Nat, (upd H6 B (.lst (acc ++ [.int (i : Nat)]))) B = some (.lst (bs.map fun k => V.int (k : Nat))) ∧ bs.length ≤ i + 1 ∧ BadM (zs.map (·.2)) (i + 1) bs) := fun hbad => by
        refine ⟨_, hB, ?_, same_put s6 nB, bs ++ [i], ?_, ?_, bad.put hbad⟩
        · rw [List.length_map]
          omega
        · rw [upd_same, List.map_append]
          rfl
        · rw [List.length_append]
          simp
          exact bl
      refine ⟨_, rfl, rfl, _, rfl, ?_⟩
      refine ite2 (fun h4 => ?_) (fun h4 => ?_)
      · refine iteT ?_
        exact ⟨_, rfl, put (.inl (by have := V.int.inj (of_decide_eq_true h4); omega))⟩
      have h4 : i ≠ 4 := fun e => h4 (decide_eq_true (by rw [e]; rfl))
      obtain ⟨t, ty, kt⟩ := (hw _ (List.getElem_mem hi)).is H6 (OffD.of (OffT.of (N3.Same.off s6)))
      refine ⟨_, rfl, _, rfl, D, _, _, zs[i].1, rfl, rfl, SqL.of (s6 _ _ hD), atI_nat (by rw [List.getElem?_map, List.getElem?_eq_getElem hi]; rfl), ?_⟩
      refine ⟨_, _, t, .ref CN, zs[i].2, rfl, .own CN, ty, kt, zs[i].2, rfl, ?_⟩
      generalize zs[i].2 = b at *
      cases b with
      | false =>
        refine iteT ?_
        exact ⟨_, rfl, put (.inr em)⟩
      | true =>
        refine iteF ?_
        exact ⟨s6, bs, hB, by omega, bad.skip h4 em⟩
    obtain ⟨s6, bs, hB, bl, bad⟩ := h
    refine nm_seq ?_
    refine asg_ (ask_things EN (i := 3) rfl (s6 _ _ hD) h5 (fun z hz => (hw z hz).off (OffD.of (OffT.of (N3.Same.off s6)))) (T'.ext s6) (fun tp H7 e7 T7 h7 => ?_))
    refine nm_one ?_
    have nt : ∀ {xs : List V} (ps : Array Value), HO.lst xs ≠ .tbl ps := fun ps z => by cases z
    have hB7 := e7 _ _ hB nt
    have hD7 := e7 _ _ (s6 _ _ hD) nt
    have hb7 : BagAt H7 p := by
      obtain ⟨m', d', c', e⟩ := hb.ext s6
      exact ⟨m', d', c', e7 _ _ e nt⟩
    have o7 : OffT p H H7 := OffT.trans (OffT.trans oo (OffT.of (N3.Same.off s6))) (OffT.ext e7)
    have fin : ∀ H', Same H7 H' → Q (.bl true) H' := fun H' s' => q H' (hb7.ext s') (OffT.trans o7 (OffT.of (N3.Same.off s'))) (T7.ext s')
    refine ⟨_, rfl, _, rfl, (by show 0 ≤ sizeLine; omega), fun e ne => ?_⟩
    have se := same_new (o := .lst []) ne
    refine ⟨B, e, _, rfl, rfl, SqL.of (se _ _ hB7), SqL.of upd_same, _, rfl, ?_⟩
    generalize upd H7 e (.lst []) = H8 at *
    rw [List.length_map]
    rcases bad with ⟨rfl, g⟩ | ⟨k, r, rfl, hk, b, g⟩
    · refine iteF ?_
      have fw0 : fw 0 4 (zs.map (·.2)) = none := fw_goodM _ 0 fun j hj => g j (by rw [List.length_map] at hj; exact hj)
      have eo : outM zs = (("told" : Str), reprD (.int (zs.length : Nat))) := by
        unfold outM
        rw [fw0]
      rw [eo] at h7
      refine ⟨_, rfl, D, _, rfl, .inl (SqL.of (se _ _ hD7)), ?_⟩
      rw [List.length_map]
      refine ⟨.int (zs.length : Nat), .int (zs.length : Nat), rfl, .old (.dat (.int _) rfl), fits_nat (by omega), (by show 2 ≤ sizeLine; omega), fun t4 n4 => ?_⟩
      obtain ⟨s9, h9⟩ := new_at (o := .tup [.str "told", .str (reprD (.int (zs.length : Nat)))]) n4
      exact eq2 (s9 _ _ (se _ _ h7)) h9 fun Hc sc => fin _ ((se.trans s9).trans sc)
    · refine iteT ?_
      have fwk : fw 0 4 (zs.map (·.2)) = some (0 + k) := fw_badM _ 0 k (by rw [List.length_map]; exact hk) b g
      have eo : outM zs = (("nests" : Str), reprD (.int (k : Nat))) := by
        unfold outM
        rw [fwk, Nat.zero_add]
      rw [eo] at h7
      refine ⟨_, rfl, B, _, ((0 : Nat) : Int), .int (k : Nat), rfl, rfl, SqL.of (se _ _ hB7), atI_nat rfl, ?_⟩
      refine ⟨.int (k : Nat), .int (k : Nat), rfl, .old (.dat (.int _) rfl), fits_nat (by omega), (by show 2 ≤ sizeLine; omega), fun t4 n4 => ?_⟩
      obtain ⟨s9, h9⟩ := new_at (o := .tup [.str "nests", .str (reprD (.int (k : Nat)))]) n4
      exact eq2 (s9 _ _ (se _ _ h7)) h9 fun Hc sc => fin _ ((se.trans s9).trans sc)
end
end Sq
namespace Sq
open PySem L2 PySem.Spec PyProof.Rows TL LamX L2H
open N3 (FlX NestD NestT NestIs ProgAt PlanH PartH PartOk Part reprT deedSum rowOf actS BagAt)

theorem hc5 (L : Int) (hL : 0 ≤ L) : (-(2 ^ 62) ≤ (if (if (5 : Int) < L then 5 else L) > 2 then (if (5 : Int) < L then 5 else L) else 2) ∧ (if (if (5 : Int) < L then 5 else L) > 2 then (if (5 : Int) < L then 5 else L) else 2) < 2 ^ 62) ∧
    (if (if (5 : Int) < L then 5 else L) > 2 then (if (5 : Int) < L then 5 else L) else 2).toNat ≤ 5 := by
  split <;> split <;> refine ⟨⟨?_, ?_⟩, ?_⟩ <;> omega
def spLawT (K : PySem.W.Frag) (Ts : List (Addr × Str)) : Sp := fun vs H Q _ => ∃ (a : Addr) (ns : List Int), vs = [.ref a] ∧ SqL K H a (ns.map V.int) ∧ ns.length ≤ 63 ∧ Tabs Ts H ∧ ∀ H', Q (.bl true) H'
def dNone : PyData := .list [.str (reprT (0 : Nat) (0 : Nat)), .int 0, .bool true, .tuple []]
theorem none_ok : dNone.showable = true ∧ dNone.hasDict = false ∧ dNone.depth ≤ 20 ∧ dNone.shown.length ≤ 1000 := by decide +kernel
theorem none_shown : dNone.shown = "['Program of 0 nests, 0 deeds', 0, True, ()]" := by decide +kernel
section
variable {P : Program} {w : World} {K : PySem.W.Frag} {mg : Str → Option Value} {base : Heap} {C : Nat → Addr} {CP CN fP : Addr} {Ts : List (Addr × Str)}
abbrev s_law : Stmt := top 76
theorem sc_law : FnScope ["_law_script", "_law_none", "_law_k", "_law_bag_here", "_law_turn"] ["_law_script"] (defScope s_law) := ⟨rfl, rfl, rfl, by decide +kernel, rfl, by decide +kernel, by decide +kernel⟩
theorem ok_law {f : Addr} {fd : FuncData} (AK : AnsK P w K mg base C) (PA : ProgA P w K mg base CP CN (C 16)) (Z : Kits K CN CP) (mkP : Mk K CP fP) (GRP : FnR P w K mg base (L2N.CX P w) 3 fP (N3.spPMadeX K CP CN (C 16)))
    (G_bag : FB P w K mg base "_law_bag" 1 ["_law_number_here"] N3.spBag) (G_number : FB P w K mg base "_law_number" 1 ["_law_script", "_law_k"] (N3.spNumber K)) (G__law_joined_right : FBG P w K mg base "_law_joined_right" 8 (spTurn Ts)) (G__law_mixed_right : FBG P w K mg base "_law_mixed_right" 8 (spTurn Ts))
    (F : Fun K "law" "law" s_law f fd) (B : Binds K fd ["_law_script"] []) (T : Bt mg) : FnG P w K mg base 9 f (spLawT K Ts) := by
  obtain ⟨pn, gn, dn, Pn, Gn, Bn⟩ := PA.s.p1
  obtain ⟨fl, len1, len2, len3⟩ := PA.s.len
  obtain ⟨fb, bo1, bo2, bo3⟩ := PA.s.bool
  obtain ⟨fr, rp1, rp2, rp3⟩ := PA.s.repr
  refine FnG.of F sc_law B (fun vs H Q h => ?_) (fun cdv A fr s H vs Q hg hr h => ?_)
  · obtain ⟨a, ns, rfl, _⟩ := h
    rfl
  · obtain ⟨a, ns, rfl, hS, hl, hT, q⟩ := h
    refine ⟨_, (pss_cons (ps_set (i := 1) sc_law.nd rfl (by first | exact .inl rfl | exact .inr rfl) (N3.pe_makeR0 mkP GRP (hr.mono (show 4 ≤ 8 by decide)) (by rfl) PA.s.mP passN0))
        (pss_cons (ps_if (pt_cmpR op_ne (pe_callB (call_repr hg hr) (by rfl) AK.rp (by decide +kernel) (pa_cons (pe_lst (pa_cons (pe_callB (call_reprO rp1 rp2 rp3 (hr.mono (show 4 ≤ 8 by decide))) (by rfl) AK.rp (by decide +kernel) (pa_cons (pv 1) pa_nil)) (pa_cons (pe_callB (call_lenO len1 len2 len3 (hr.mono (show 2 ≤ 8 by decide))) (by rfl) T.len PySem.boot_len (pa_cons (pv 1) pa_nil)) (pa_cons (pe_callTy (call_boolO bo1 bo2 bo3 (hr.mono (show 3 ≤ 8 by decide))) (by rfl) T.bool (by decide +kernel) (pa_cons (pv 1) pa_nil)) (pa_cons (pe_prop (pv 1) PA.s.pc.cl Pn Gn (hr.mono (show 2 ≤ 8 by decide)) Bn .nil pass0 rfl) pa_nil))))) pa_nil)) pe_str (nomark _))
        (pss_one (ps_ret pe_bl))
        pss_nil)
        (pss_cons (ps_for PassesOwn.never rfl (pi_range1 (by rfl) T.range (pa_cons (pe_callB (call_max2 rfl) (by rfl) T.max (by decide +kernel) (pa_cons pe_int (pa_cons (pe_callB (call_min2 rfl) (by rfl) T.min (by decide +kernel) (pa_cons (pe_callB call_len_seq (by rfl) T.len PySem.boot_len (pa_cons (pv 0) pa_nil)) (pa_cons pe_int pa_nil))) pa_nil))) pa_nil)) (pg_name (i := 2) sc_law.nd rfl (by first | exact .inl rfl | exact .inr rfl))
        (pss_cons (ps_set (i := 3) sc_law.nd rfl (by first | exact .inl rfl | exact .inr rfl) (pe_fb G_bag (hr.mono (by decide)) (Nat.le_refl 1) (by rfl) (pa_cons (pe_fb G_number (hr.mono (by decide)) (Nat.le_refl 1) (by rfl) (pa_cons (pv 0) (pa_cons (pv 2) pa_nil))) pa_nil)))
        (pss_cons (ps_if (pt_not (pt_val (pe_callB (cr_all (by rfl)) (by rfl) T.all (by decide +kernel) (pa_cons (pe_lc (own := [("_law_turn", 4)]) (g := gName 4) (by rfl) sc_law.nd (pi_range1 (by rfl) T.range (pa_cons pe_int pa_nil)) (blkOk_by (own := [("_law_turn", 4)]) (N := ["_law_script", "_law_none", "_law_k", "_law_bag_here", "_law_turn"]) (sc := defScope s_law) (by decide +kernel))
            (fun _ _ _ _ _ => (pg_name (i := 4) sc_law.nd rfl (by first | exact .inl rfl | exact .inr rfl))) (fun _ _ _ _ _ => pts_nil) (fun _ _ _ _ _ => (pe_fbG G__law_joined_right hg hr (by decide) (by rfl) (pa_cons (pv 3) pa_nil)))) pa_nil))))
        (pss_one (ps_ret pe_bl))
        pss_nil)
        (pss_one (ps_if (pt_not (pt_val (pe_callB (cr_all (by rfl)) (by rfl) T.all (by decide +kernel) (pa_cons (pe_lc (own := [("_law_turn", 4)]) (g := gName 4) (by rfl) sc_law.nd (pi_range1 (by rfl) T.range (pa_cons pe_int pa_nil)) (blkOk_by (own := [("_law_turn", 4)]) (N := ["_law_script", "_law_none", "_law_k", "_law_bag_here", "_law_turn"]) (sc := defScope s_law) (by decide +kernel))
            (fun _ _ _ _ _ => (pg_name (i := 4) sc_law.nd rfl (by first | exact .inl rfl | exact .inr rfl))) (fun _ _ _ _ _ => pts_nil) (fun _ _ _ _ _ => (pe_fbG G__law_mixed_right hg hr (by decide) (by rfl) (pa_cons (pv 3) pa_nil)))) pa_nil))))
        (pss_one (ps_ret pe_bl))
        pss_nil)))))
        (pss_one (ps_ret pe_bl))))), ?_⟩
    have big : 1000 ≤ sizeLine := by decide
    refine sq_ (set_ (gen_of (fun y H' => ∃ x, y = .ref x ∧ Same H H' ∧ ProgAt CP CN H' x []) (fun Q' k => ?_) ?_))
    · refine fun x dx nx ndx ne => ?_
      refine ⟨[.ref x], [], rfl, rfl, (by show 0 ≤ sizeLine; omega), fun dq nq => ?_⟩
      obtain ⟨s4, hx, nqx⟩ := N3.init_at (C := CP) (xs := []) nx ndx ne nq
      exact N3.pinit_ok (xs := []) (ns := []) (R := fun H3 => Q' (.ref x) H3) Z.cl Z.isn ⟨rfl, fun i x n hx _ => by cases hx⟩ (by show 0 ≤ 4; omega) s4 nx hx upd_same nqx fun H' s' p' => k _ _ ⟨x, rfl, s', p'⟩
    rintro _ H1 ⟨x, rfl, s1, hx⟩
    refine pr_seq (st_sameR (fun H' => Same H H') (fun D' k => if_ ?_) ?_)
    · obtain ⟨dx, tp, xs, h1, h2, h3, _⟩ := id hx
      have e0 : xs = [] := List.length_eq_zero_iff.mp h3
      subst e0
      refine ⟨_, rfl, x, _, _, rfl, h1, x, [], rfl, hx, by decide, fun n hn => absurd hn List.not_mem_nil, fun H2 s2 => ⟨_, rfl, ?_⟩⟩
      have g1 := s2 _ _ h1
      refine ⟨_, rfl, x, dx, _, rfl, g1, x, [], rfl, hx.ext s2, _, rfl, by decide, by decide, ?_⟩
      refine ⟨_, rfl, x, _, _, rfl, g1, x, rfl, true, rfl, ?_⟩
      refine ⟨_, rfl, x, _, _, rfl, g1, x, _, _, .ref tp, rfl, g1, N3.putN tp, ?_⟩
      refine ⟨(by show 4 ≤ sizeLine; omega), fun l nl => ?_⟩
      obtain ⟨s3, hl⟩ := new_at (o := .lst [.str (reprT (0 : Nat) (0 : Nat)), .int 0, .bl true, .ref tp]) nl
      obtain ⟨k1, k2, k3, k4⟩ := none_ok
      refine ⟨l, dNone, rfl, .lst (SqL.of hl) (.cons (.str _) (.cons (.int _) (.cons (.bl _) (.cons (.tup (SqT.of (s3 _ _ (s2 _ _ h2))) .nil) .nil)))), k1, k2, k3, by omega, rfl, _, rfl, ?_⟩
      rw [none_shown, decide_eq_true rfl]
      refine iteF ?_
      exact k _ ((s1.trans s2).trans s3)
    rintro HA sA
    refine pr_seq ?_
    refine ⟨_, rfl, a, _, rfl, .inl (hS.ext sA), _, _, rfl, _, _, rfl, ?_⟩
    rw [List.length_map]
    obtain ⟨hc1, hc2⟩ := hc5 (ns.length : Int) (Int.natCast_nonneg _)
    refine ⟨_, rfl, hc1.1, hc1.2, ?_⟩
    refine for_range (lo := 0) (fun _ σ H' => (∃ v1 v2 v3 v4, σ = [some (.ref a), v1, v2, v3, v4]) ∧ ExtN H H' ∧ Tabs Ts H') ⟨⟨_, _, _, _, rfl⟩, ExtN.of sA, hT.ext sA⟩ (fun i σ H0 hi h => ?_) (fun σ H0 h => ?_)
    · obtain ⟨⟨v1, v2, v3, v4, rfl⟩, e0, T0⟩ := h
      rw [Int.zero_add]
      refine ⟨_, rfl, _, rfl, a, ns, i, rfl, sqL_extN hS e0, hl, by omega, fun n H1 s1 => ⟨n, rfl, fun pb bm bd nb => ?_⟩⟩
      have sb := s1.trans (same_new (o := .lst [.int bm, .int bd, .int 0]) nb)
      have eB := e0.trans (ExtN.of sb)
      have TB' := T0.ext sb
      have hbB : BagAt (upd H1 pb (.lst [.int bm, .int bd, .int 0])) pb := ⟨_, _, _, upd_same⟩
      have npb : ∀ b u, H b = some u → (∀ ps, u ≠ .tbl ps) → b ≠ pb := fun b u hb ht z => by
        have z1 := (e0.trans (ExtN.of s1)) b u hb ht
        rw [z, nb] at z1
        cases z1
      generalize upd H1 pb (.lst [.int bm, .int bd, .int 0]) = HB at *
      refine ⟨3, rfl, by decide, by decide, fun D2 nD2 => ?_⟩
      have nDp2 : D2 ≠ pb := fun e => by
        obtain ⟨m, d, k, hb⟩ := hbB
        rw [← e, nD2] at hb
        cases hb
      refine lc_range (lo := 0) (n := 3) (fun j H' => OffT pb HB H' ∧ Tabs Ts H' ∧ BagAt H' pb ∧ ∃ bs : List Bool, H' D2 = some (.lst (bs.map V.bl)) ∧ bs.all id = true ∧ bs.length = j)
        ⟨OffT.of (N3.Same.off (same_new nD2)), TB'.ext (same_new nD2), hbB.ext (same_new nD2), [], upd_same, rfl, rfl⟩ (fun j H' hj h => ?_) (fun H' h => ?_)
      · obtain ⟨o3, T3, hb, bs, hD, hall', hlen⟩ := h
        refine ⟨rfl, ?_⟩
        refine ⟨_, rfl, pb, rfl, hb, T3, fun H3 hb3 o4 T4 => ⟨bs.map V.bl, o4 D2 _ nDp2 hD (fun ps z => by cases z), ?_, ?_, ?_, ?_, bs ++ [true], ?_, ?_, ?_⟩⟩
        · rw [List.length_map, hlen]
          exact Nat.lt_of_lt_of_le hj (by decide)
        · exact (OffT.trans o3 o4).put nD2
        · exact tabs_put T4 (o4 D2 _ nDp2 hD (fun ps z => by cases z))
        · obtain ⟨x1, x2, x3, hx⟩ := hb3
          exact ⟨x1, x2, x3, by rw [upd_ne nDp2.symm]; exact hx⟩
        · rw [upd_same, List.map_append]
          all_goals rfl
        · rw [List.all_append, hall']
          rfl
        · rw [List.length_append, hlen]
          rfl
      · obtain ⟨o3, TB3, hbB3, bs, hD, hall', _⟩ := h
        refine ⟨D2, bs, rfl, SqL.of hD, _, rfl, ?_⟩
        rw [hall']
        refine iteF ?_
        refine pr_one (if_ ?_)
        refine ⟨4, rfl, by decide, by decide, fun D3 nD3 => ?_⟩
        have nDp3 : D3 ≠ pb := fun e => by
          obtain ⟨m, d, k, hb⟩ := hbB3
          rw [← e, nD3] at hb
          cases hb
        refine lc_range (lo := 0) (n := 4) (fun j G' => OffT pb H' G' ∧ Tabs Ts G' ∧ BagAt G' pb ∧ ∃ bs : List Bool, G' D3 = some (.lst (bs.map V.bl)) ∧ bs.all id = true ∧ bs.length = j)
          ⟨OffT.of (N3.Same.off (same_new nD3)), TB3.ext (same_new nD3), hbB3.ext (same_new nD3), [], upd_same, rfl, rfl⟩ (fun j G' hj h => ?_) (fun G' h => ?_)
        · obtain ⟨o3, T3, hb, bs, hD, hall', hlen⟩ := h
          refine ⟨rfl, ?_⟩
          refine ⟨_, rfl, pb, rfl, hb, T3, fun H3 hb3 o4 T4 => ⟨bs.map V.bl, o4 D3 _ nDp3 hD (fun ps z => by cases z), ?_, ?_, ?_, ?_, bs ++ [true], ?_, ?_, ?_⟩⟩
          · rw [List.length_map, hlen]
            exact Nat.lt_of_lt_of_le hj (by decide)
          · exact (OffT.trans o3 o4).put nD3
          · exact tabs_put T4 (o4 D3 _ nDp3 hD (fun ps z => by cases z))
          · obtain ⟨x1, x2, x3, hx⟩ := hb3
            exact ⟨x1, x2, x3, by rw [upd_ne nDp3.symm]; exact hx⟩
          · rw [upd_same, List.map_append]
            all_goals rfl
          · rw [List.all_append, hall']
            rfl
          · rw [List.length_append, hlen]
            rfl
        · obtain ⟨o5, T5, _, bs, hD, hall', _⟩ := h
          refine ⟨D3, bs, rfl, SqL.of hD, _, rfl, ?_⟩
          rw [hall']
          refine iteF ?_
          refine ⟨⟨_, _, _, _, rfl⟩, fun b u hb ht => ?_, T5⟩
          exact (OffT.trans o3 o5) b u (npb b u hb ht) (eB b u hb ht) ht
    · exact q _
end
end Sq
namespace Sq
open PySem L2 PySem.Spec PyProof.Rows TL LamX L2H
abbrev s_init16 : Stmt := inClass (top 32) 0
theorem sc_init16 : FnScope ["self", "index"] ["self", "index"] (defScope s_init16) := ⟨rfl, rfl, rfl, by decide +kernel, rfl, by decide +kernel, by decide +kernel⟩
/-! ### what the head is asked -/
theorem all_mk {P : Program} {w : World} {K : PySem.W.Frag} {h : Heap} {mg : Str → Option Value} {fa : Addr} (X : K.In h) (G : h.Ns mainGlobals mg) (hfa : mg "law" = some (.ref fa)) (c : SaysA hA w h K) : LawT P w K mg 9 63 fa h := by
  obtain ⟨fdrl, Frl⟩ := c.fns D_rl (List.mem_of_getElem? (i := 0) (show hFn[0]? = some D_rl from rfl))
  obtain ⟨fdro, Fro⟩ := c.fns D_ro (List.mem_of_getElem? (i := 1) (show hFn[1]? = some D_ro from rfl))
  obtain ⟨fdfw, Ffw⟩ := c.fns D_fw (List.mem_of_getElem? (i := 2) (show hFn[2]? = some D_fw from rfl))
  obtain ⟨fdrc, Frc⟩ := c.fns D_rc (List.mem_of_getElem? (i := 3) (show hFn[3]? = some D_rc from rfl))
  obtain ⟨fdrd, Frd⟩ := c.fns D_rd (List.mem_of_getElem? (i := 4) (show hFn[4]? = some D_rd from rfl))
  obtain ⟨fdm1, Fm1⟩ := c.fns D_m1 (List.mem_of_getElem? (i := 5) (show hFn[5]? = some D_m1 from rfl))
  obtain ⟨fdm2, Fm2⟩ := c.fns D_m2 (List.mem_of_getElem? (i := 6) (show hFn[6]? = some D_m2 from rfl))
  obtain ⟨fdm3, Fm3⟩ := c.fns D_m3 (List.mem_of_getElem? (i := 7) (show hFn[7]? = some D_m3 from rfl))
  obtain ⟨fdm4, Fm4⟩ := c.fns D_m4 (List.mem_of_getElem? (i := 8) (show hFn[8]? = some D_m4 from rfl))
  obtain ⟨fdg1, Fg1⟩ := c.fns D_g1 (List.mem_of_getElem? (i := 9) (show hFn[9]? = some D_g1 from rfl))
  obtain ⟨fdg2, Fg2⟩ := c.fns D_g2 (List.mem_of_getElem? (i := 10) (show hFn[10]? = some D_g2 from rfl))
  obtain ⟨fdg3, Fg3⟩ := c.fns D_g3 (List.mem_of_getElem? (i := 11) (show hFn[11]? = some D_g3 from rfl))
  obtain ⟨fdm5, Fm5⟩ := c.fns D_m5 (List.mem_of_getElem? (i := 12) (show hFn[12]? = some D_m5 from rfl))
  obtain ⟨fdg4, Fg4⟩ := c.fns D_g4 (List.mem_of_getElem? (i := 13) (show hFn[13]? = some D_g4 from rfl))
  obtain ⟨fdm6, Fm6⟩ := c.fns D_m6 (List.mem_of_getElem? (i := 14) (show hFn[14]? = some D_m6 from rfl))
  obtain ⟨fdm7, Fm7⟩ := c.fns D_m7 (List.mem_of_getElem? (i := 15) (show hFn[15]? = some D_m7 from rfl))
  obtain ⟨fdm9, Fm9⟩ := c.fns D_m9 (List.mem_of_getElem? (i := 16) (show hFn[16]? = some D_m9 from rfl))
  obtain ⟨fdm10, Fm10⟩ := c.fns D_m10 (List.mem_of_getElem? (i := 17) (show hFn[17]? = some D_m10 from rfl))
  obtain ⟨fdm11, Fm11⟩ := c.fns D_m11 (List.mem_of_getElem? (i := 18) (show hFn[18]? = some D_m11 from rfl))
  obtain ⟨fdbh, Fbh⟩ := c.fns D_bh (List.mem_of_getElem? (i := 19) (show hFn[19]? = some D_bh from rfl))
  obtain ⟨fdrb, Frb⟩ := c.fns D_rb (List.mem_of_getElem? (i := 20) (show hFn[20]? = some D_rb from rfl))
  obtain ⟨fdnt, Fnt⟩ := c.fns D_nt (List.mem_of_getElem? (i := 21) (show hFn[21]? = some D_nt from rfl))
  obtain ⟨fdU, FU⟩ := c.fns D_U (List.mem_of_getElem? (i := 22) (show hFn[22]? = some D_U from rfl))
  obtain ⟨fdbg, Fbg⟩ := c.fns D_bg (List.mem_of_getElem? (i := 23) (show hFn[23]? = some D_bg from rfl))
  obtain ⟨fdT, FT⟩ := c.fns D_T (List.mem_of_getElem? (i := 24) (show hFn[24]? = some D_T from rfl))
  obtain ⟨fdE, FE⟩ := c.fns D_E (List.mem_of_getElem? (i := 25) (show hFn[25]? = some D_E from rfl))
  obtain ⟨fdW, FW⟩ := c.fns D_W (List.mem_of_getElem? (i := 26) (show hFn[26]? = some D_W from rfl))
  obtain ⟨fdQ, FQ⟩ := c.fns D_Q (List.mem_of_getElem? (i := 27) (show hFn[27]? = some D_Q from rfl))
  obtain ⟨fdpg9, Fpg9⟩ := c.fns D_pg9 (List.mem_of_getElem? (i := 28) (show hFn[28]? = some D_pg9 from rfl))
  obtain ⟨fdV, FV⟩ := c.fns D_V (List.mem_of_getElem? (i := 29) (show hFn[29]? = some D_V from rfl))
  obtain ⟨fdY, FY⟩ := c.fns D_Y (List.mem_of_getElem? (i := 30) (show hFn[30]? = some D_Y from rfl))
  obtain ⟨fdpr, Fpr⟩ := c.fns D_pr (List.mem_of_getElem? (i := 31) (show hFn[31]? = some D_pr from rfl))
  obtain ⟨fdsc9, Fsc9⟩ := c.fns D_sc9 (List.mem_of_getElem? (i := 32) (show hFn[32]? = some D_sc9 from rfl))
  obtain ⟨fdM, FM⟩ := c.fns D_M (List.mem_of_getElem? (i := 33) (show hFn[33]? = some D_M from rfl))
  obtain ⟨fdmd, Fmd⟩ := c.fns D_md (List.mem_of_getElem? (i := 34) (show hFn[34]? = some D_md from rfl))
  obtain ⟨fdbu, Fbu⟩ := c.fns D_bu (List.mem_of_getElem? (i := 35) (show hFn[35]? = some D_bu from rfl))
  obtain ⟨fdsh, Fsh⟩ := c.fns D_sh (List.mem_of_getElem? (i := 36) (show hFn[36]? = some D_sh from rfl))
  obtain ⟨fdJ, FJ⟩ := c.fns D_J (List.mem_of_getElem? (i := 37) (show hFn[37]? = some D_J from rfl))
  obtain ⟨fdX, FX⟩ := c.fns D_X (List.mem_of_getElem? (i := 38) (show hFn[38]? = some D_X from rfl))
  obtain ⟨fdL, FL⟩ := c.fns D_L (List.mem_of_getElem? (i := 39) (show hFn[39]? = some D_L from rfl))
  obtain ⟨fdI16, FI16⟩ := c.fns D_I16 (List.mem_of_getElem? (i := 40) (show hFn[40]? = some D_I16 from rfl))
  obtain ⟨fdke, Fke⟩ := c.fns D_ke (List.mem_of_getElem? (i := 41) (show hFn[41]? = some D_ke from rfl))
  obtain ⟨fdkp, Fkp⟩ := c.fns D_kp (List.mem_of_getElem? (i := 42) (show hFn[42]? = some D_kp from rfl))
  obtain ⟨fdan, Fan⟩ := c.fns D_an (List.mem_of_getElem? (i := 43) (show hFn[43]? = some D_an from rfl))
  have Frl : Fun K "read_loop" "read_loop" s_read_loop 41 fdrl := Frl
  have krl := Frl.kp
  have Fro : Fun K "read_outer_loop" "read_outer_loop" s_read_outer_loop 48 fdro := Fro
  have kro := Fro.kp
  have Ffw : Fun K "first_wrong" "first_wrong" s_first_wrong 55 fdfw := Ffw
  have kfw := Ffw.kp
  have Frc : Fun K "read_condition" "read_condition" s_read_condition 100 fdrc := Frc
  have krc := Frc.kp
  have Frd : Fun K "read_deed" "read_deed" s_read_deed 93 fdrd := Frd
  have krd := Frd.kp
  have Fm1 : Fun K "__init__" "Nest.__init__" s_NInit 834 fdm1 := Fm1
  have km1 := Fm1.kp
  have Fm2 : Fun K "__len__" "Nest.__len__" sNLen 865 fdm2 := Fm2
  have km2 := Fm2.kp
  have Fm3 : Fun K "__bool__" "Nest.__bool__" sNBool 872 fdm3 := Fm3
  have km3 := Fm3.kp
  have Fm4 : Fun K "__eq__" "Nest.__eq__" sNEq 879 fdm4 := Fm4
  have km4 := Fm4.kp
  have Fg1 : Fun K "outer" "Nest.outer" sNOuter 841 fdg1 := Fg1
  have kg1 := Fg1.kp
  have Fg2 : Fun K "inner" "Nest.inner" sNInner 849 fdg2 := Fg2
  have kg2 := Fg2.kp
  have Fg3 : Fun K "deeds" "Nest.deeds" sNDeeds 857 fdg3 := Fg3
  have kg3 := Fg3.kp
  have Fm5 : Fun K "__init__" "Program.__init__" N3.sPInit 898 fdm5 := Fm5
  have km5 := Fm5.kp
  have Fg4 : Fun K "nests" "Program.nests" N3.sPNests 913 fdg4 := Fg4
  have kg4 := Fg4.kp
  have Fm6 : Fun K "__str__" "Program.__str__" N3.sPStr 940 fdm6 := Fm6
  have km6 := Fm6.kp
  have Fm7 : Fun K "__len__" "Program.__len__" N3.sPLen 921 fdm7 := Fm7
  have km7 := Fm7.kp
  have Fm9 : Fun K "__repr__" "Program.__repr__" N3.sPRepr 945 fdm9 := Fm9
  have km9 := Fm9.kp
  have Fm10 : Fun K "__bool__" "Program.__bool__" N3.sPBool' 928 fdm10 := Fm10
  have km10 := Fm10.kp
  have Fm11 : Fun K "__add__" "Program.__add__" N3.sPAdd 952 fdm11 := Fm11
  have km11 := Fm11.kp
  have Fbh : Fun K "behind" "behind" N3.sBehind 987 fdbh := Fbh
  have kbh := Fbh.kp
  have Frb : Fun K "rows_by_nest" "rows_by_nest" N3.sRowsBy 973 fdrb := Frb
  have krb := Frb.kp
  have Fnt : Fun K "nest_text" "nest_text" N3.sNestText 966 fdnt := Fnt
  have knt := Fnt.kp
  have FU : Fun K "_law_number" "_law_number" N3.sNumber 994 fdU := FU
  have kU := FU.kp
  have Fbg : Fun K "_law_bag" "_law_bag" N3.sBag 1001 fdbg := Fbg
  have kbg := Fbg.kp
  have FT : Fun K "_law_take" "_law_take" N3.sTake 1008 fdT := FT
  have kT := FT.kp
  have FE : Fun K "_law_edge_row" "_law_edge_row" N3.sEdge 1015 fdE := FE
  have kE := FE.kp
  have FW : Fun K "_law_walk_row" "_law_walk_row" N3.sWalkRow 1022 fdW := FW
  have kW := FW.kp
  have FQ : Fun K "_law_act_row" "_law_act_row" N3.sActRow 1027 fdQ := FQ
  have kQ := FQ.kp
  have Fpg9 : Fun K "_law_page" "_law_page" N3.sPage 1032 fdpg9 := Fpg9
  have kpg9 := Fpg9.kp
  have FV : Fun K "_law_walk" "_law_walk" N3.sWalk 1039 fdV := FV
  have kV := FV.kp
  have FY : Fun K "_law_act" "_law_act" N3.sAct 1046 fdY := FY
  have kY := FY.kp
  have Fpr : Fun K "_law_part" "_law_part" N3.sPart 1051 fdpr := Fpr
  have kpr := Fpr.kp
  have Fsc9 : Fun K "_law_scheme" "_law_scheme" N3.sScheme 1056 fdsc9 := Fsc9
  have ksc9 := Fsc9.kp
  have FM : Fun K "_law_made_nest" "_law_made_nest" N3.sMadeN 1063 fdM := FM
  have kM := FM.kp
  have Fmd : Fun K "_law_made" "_law_made" N3.sMade 1070 fdmd := Fmd
  have kmd := Fmd.kp
  have Fbu : Fun K "_law_built" "_law_built" N3.sBuilt 1075 fdbu := Fbu
  have kbu := Fbu.kp
  have Fsh : Fun K "_law_shows" "_law_shows" s__law_shows 1099 fdsh := Fsh
  have ksh := Fsh.kp
  have FJ : Fun K "_law_joined_right" "_law_joined_right" s__law_joined_right 1106 fdJ := FJ
  have kJ := FJ.kp
  have FX : Fun K "_law_mixed_right" "_law_mixed_right" s__law_mixed_right 1111 fdX := FX
  have kX := FX.kp
  have FL : Fun K "law" "law" s_law 1116 fdL := FL
  have kL := FL.kp
  have FI16 : Fun K "__init__" "InvalidNests.__init__" s_init16 550 fdI16 := FI16
  have kI16 := FI16.kp
  have Fke : Fun K "_law_kind_of_error" "_law_kind_of_error" s__law_kind_of_error 1080 fdke := Fke
  have kke := Fke.kp
  have Fkp : Fun K "_law_kept_of_error" "_law_kept_of_error" s__law_kept_of_error 1087 fdkp := Fkp
  have kkp := Fkp.kp
  have Fan : Fun K "_law_answer" "_law_answer" s__law_answer 1094 fdan := Fan
  have kan := Fan.kp
  have arl : PySem.W.nsIn K mainGlobals "read_loop" = some (some (.ref 41)) := of_decide_eq_true (c.fact 0 (f := X_arl) rfl)
  have aro : PySem.W.nsIn K mainGlobals "read_outer_loop" = some (some (.ref 48)) := of_decide_eq_true (c.fact 1 (f := X_aro) rfl)
  have afw : PySem.W.nsIn K mainGlobals "first_wrong" = some (some (.ref 55)) := of_decide_eq_true (c.fact 2 (f := X_afw) rfl)
  have arc : PySem.W.nsIn K mainGlobals "read_condition" = some (some (.ref 100)) := of_decide_eq_true (c.fact 3 (f := X_arc) rfl)
  have ard : PySem.W.nsIn K mainGlobals "read_deed" = some (some (.ref 93)) := of_decide_eq_true (c.fact 4 (f := X_ard) rfl)
  have dS : PySem.W.nsIn K mainGlobals "COMPARISONS" = some (some (.ref 88)) := of_decide_eq_true (c.fact 5 (f := X_dS) rfl)
  have jS : tupA K 88 (cmps.map He.Dv.str) = true := c.fact 6 (f := X_jS) rfl
  have aMD : intA K "MOST_DEEDS" 6 = true := c.fact 7 (f := X_aMD) rfl
  have dB : PySem.W.nsIn K mainGlobals "BOUNDS" = some (some (.ref 15)) := of_decide_eq_true (c.fact 8 (f := X_dB) rfl)
  have vB : dtT K 15 btabL = true := c.fact 9 (f := X_vB) rfl
  have dC : PySem.W.nsIn K mainGlobals "PLACE_COUNTS" = some (some (.ref 82)) := of_decide_eq_true (c.fact 10 (f := X_dC) rfl)
  have vC : dtT K 82 ctabL = true := c.fact 11 (f := X_vC) rfl
  have dP : PySem.W.nsIn K mainGlobals "PLACE_INDEXES" = some (some (.ref 56)) := of_decide_eq_true (c.fact 12 (f := X_dP) rfl)
  have vP : dtI K 56 ptab = true := c.fact 13 (f := X_vP) rfl
  have dN : PySem.W.nsIn K mainGlobals "NUMBERS" = some (some (.ref 87)) := of_decide_eq_true (c.fact 14 (f := X_dN) rfl)
  have vN : dtI K 87 ntab = true := c.fact 15 (f := X_vN) rfl
  have dR : PySem.W.nsIn K mainGlobals "ORDERS" = some (some (.ref 57)) := of_decide_eq_true (c.fact 16 (f := X_dR) rfl)
  have vR : ordA K 57 = true := c.fact 17 (f := X_vR) rfl
  have aC : PySem.W.nsIn K mainGlobals "Nest" = some (some (.ref 882)) := of_decide_eq_true (c.fact 18 (f := X_aC) rfl)
  have aCP : PySem.W.nsIn K mainGlobals "Program" = some (some (.ref 955)) := of_decide_eq_true (c.fact 19 (f := X_aCP) rfl)
  have am1 : PySem.W.findIn K (.ref 882) "__init__" = some (some (.ref 834)) := of_decide_eq_true (c.fact 20 (f := X_am1) rfl)
  have im1 : PySem.W.isFn K (.ref 834) = true := c.fact 21 (f := X_im1) rfl
  have am2 : PySem.W.findIn K (.ref 882) "__len__" = some (some (.ref 865)) := of_decide_eq_true (c.fact 22 (f := X_am2) rfl)
  have im2 : PySem.W.isFn K (.ref 865) = true := c.fact 23 (f := X_im2) rfl
  have am3 : PySem.W.findIn K (.ref 882) "__bool__" = some (some (.ref 872)) := of_decide_eq_true (c.fact 24 (f := X_am3) rfl)
  have im3 : PySem.W.isFn K (.ref 872) = true := c.fact 25 (f := X_im3) rfl
  have am4 : PySem.W.findIn K (.ref 882) "__eq__" = some (some (.ref 879)) := of_decide_eq_true (c.fact 26 (f := X_am4) rfl)
  have im4 : PySem.W.isFn K (.ref 879) = true := c.fact 27 (f := X_im4) rfl
  have ag1 : PySem.W.findIn K (.ref 882) "outer" = some (some (.ref 842)) := of_decide_eq_true (c.fact 28 (f := X_ag1) rfl)
  have sg1 : PySem.W.specialIn K (.ref 842) "__get__" = some (some (.builtin "property.__get__")) := of_decide_eq_true (c.fact 29 (f := X_sg1) rfl)
  have tg1 : PySem.W.takesIn K (.ref 842) = some true := of_decide_eq_true (c.fact 30 (f := X_tg1) rfl)
  have rg1 : propA K 842 841 = true := c.fact 31 (f := X_rg1) rfl
  have ag2 : PySem.W.findIn K (.ref 882) "inner" = some (some (.ref 850)) := of_decide_eq_true (c.fact 32 (f := X_ag2) rfl)
  have sg2 : PySem.W.specialIn K (.ref 850) "__get__" = some (some (.builtin "property.__get__")) := of_decide_eq_true (c.fact 33 (f := X_sg2) rfl)
  have tg2 : PySem.W.takesIn K (.ref 850) = some true := of_decide_eq_true (c.fact 34 (f := X_tg2) rfl)
  have rg2 : propA K 850 849 = true := c.fact 35 (f := X_rg2) rfl
  have ag3 : PySem.W.findIn K (.ref 882) "deeds" = some (some (.ref 858)) := of_decide_eq_true (c.fact 36 (f := X_ag3) rfl)
  have sg3 : PySem.W.specialIn K (.ref 858) "__get__" = some (some (.builtin "property.__get__")) := of_decide_eq_true (c.fact 37 (f := X_sg3) rfl)
  have tg3 : PySem.W.takesIn K (.ref 858) = some true := of_decide_eq_true (c.fact 38 (f := X_tg3) rfl)
  have rg3 : propA K 858 857 = true := c.fact 39 (f := X_rg3) rfl
  have n_pg : PySem.W.plainGet K 882 Str.empty = true := c.fact 40 (f := X_n_pg) rfl
  have n_hd : PySem.W.hasDictIn K 882 = true := c.fact 41 (f := X_n_hd) rfl
  have n_po : PySem.W.plainOver K 882 = true := c.fact 42 (f := X_n_po) rfl
  have n_sa : PySem.W.findIn K (.ref 882) "__setattr__" = some (some (.builtin "object.__setattr__")) := of_decide_eq_true (c.fact 43 (f := X_n_sa) rfl)
  have n_mk : PySem.W.makesIn K 882 = true := c.fact 44 (f := X_n_mk) rfl
  have n_kc : PySem.W.keepIn K (.ref 882) = true := c.fact 45 (f := X_n_kc) rfl
  have n_nO : PySem.W.findIn K (.ref 882) "_outer" = some none := of_decide_eq_true (c.fact 46 (f := X_n_nO) rfl)
  have n_nI : PySem.W.findIn K (.ref 882) "_inner" = some none := of_decide_eq_true (c.fact 47 (f := X_n_nI) rfl)
  have n_nD : PySem.W.findIn K (.ref 882) "_deeds" = some none := of_decide_eq_true (c.fact 48 (f := X_n_nD) rfl)
  have n_nB : PySem.W.findIn K (.ref 882) "bounds" = some none := of_decide_eq_true (c.fact 49 (f := X_n_nB) rfl)
  have n_nR : PySem.W.findIn K (.ref 882) "orders" = some none := of_decide_eq_true (c.fact 50 (f := X_n_nR) rfl)
  have n_nP : PySem.W.findIn K (.ref 882) "plans" = some none := of_decide_eq_true (c.fact 51 (f := X_n_nP) rfl)
  have n_q1 : PySem.W.findIn K (.ref 882) "__class__" = some (some (.builtin "object.__class__")) := of_decide_eq_true (c.fact 52 (f := X_n_q1) rfl)
  have n_q4 : PySem.W.mroIn K 882 (.type "object") = some true := of_decide_eq_true (c.fact 53 (f := X_n_q4) rfl)
  have sp_ : PySem.W.specialIn K (.builtin "object.__class__") "__get__" = some (some (.builtin "getset_descriptor.__get__")) := of_decide_eq_true (c.fact 54 (f := X_sp_) rfl)
  have tk_ : PySem.W.takesIn K (.builtin "object.__class__") = some true := of_decide_eq_true (c.fact 55 (f := X_tk_) rfl)
  have am5 : PySem.W.findIn K (.ref 955) "__init__" = some (some (.ref 898)) := of_decide_eq_true (c.fact 56 (f := X_am5) rfl)
  have im5 : PySem.W.isFn K (.ref 898) = true := c.fact 57 (f := X_im5) rfl
  have ag4 : PySem.W.findIn K (.ref 955) "nests" = some (some (.ref 914)) := of_decide_eq_true (c.fact 58 (f := X_ag4) rfl)
  have sg4 : PySem.W.specialIn K (.ref 914) "__get__" = some (some (.builtin "property.__get__")) := of_decide_eq_true (c.fact 59 (f := X_sg4) rfl)
  have tg4 : PySem.W.takesIn K (.ref 914) = some true := of_decide_eq_true (c.fact 60 (f := X_tg4) rfl)
  have rg4 : propA K 914 913 = true := c.fact 61 (f := X_rg4) rfl
  have am6 : PySem.W.findIn K (.ref 955) "__str__" = some (some (.ref 940)) := of_decide_eq_true (c.fact 62 (f := X_am6) rfl)
  have im6 : PySem.W.isFn K (.ref 940) = true := c.fact 63 (f := X_im6) rfl
  have am7 : PySem.W.findIn K (.ref 955) "__len__" = some (some (.ref 921)) := of_decide_eq_true (c.fact 64 (f := X_am7) rfl)
  have im7 : PySem.W.isFn K (.ref 921) = true := c.fact 65 (f := X_im7) rfl
  have am9 : PySem.W.findIn K (.ref 955) "__repr__" = some (some (.ref 945)) := of_decide_eq_true (c.fact 66 (f := X_am9) rfl)
  have im9 : PySem.W.isFn K (.ref 945) = true := c.fact 67 (f := X_im9) rfl
  have am10 : PySem.W.findIn K (.ref 955) "__bool__" = some (some (.ref 928)) := of_decide_eq_true (c.fact 68 (f := X_am10) rfl)
  have im10 : PySem.W.isFn K (.ref 928) = true := c.fact 69 (f := X_im10) rfl
  have am11 : PySem.W.findIn K (.ref 955) "__add__" = some (some (.ref 952)) := of_decide_eq_true (c.fact 70 (f := X_am11) rfl)
  have im11 : PySem.W.isFn K (.ref 952) = true := c.fact 71 (f := X_im11) rfl
  have p_pg : PySem.W.plainGet K 955 Str.empty = true := c.fact 72 (f := X_p_pg) rfl
  have p_hd : PySem.W.hasDictIn K 955 = true := c.fact 73 (f := X_p_hd) rfl
  have p_po : PySem.W.plainOver K 955 = true := c.fact 74 (f := X_p_po) rfl
  have p_sa : PySem.W.findIn K (.ref 955) "__setattr__" = some (some (.builtin "object.__setattr__")) := of_decide_eq_true (c.fact 75 (f := X_p_sa) rfl)
  have p_mk : PySem.W.makesIn K 955 = true := c.fact 76 (f := X_p_mk) rfl
  have p_kc : PySem.W.keepIn K (.ref 955) = true := c.fact 77 (f := X_p_kc) rfl
  have p_nN : PySem.W.findIn K (.ref 955) "_nests" = some none := of_decide_eq_true (c.fact 78 (f := X_p_nN) rfl)
  have p_q1 : PySem.W.findIn K (.ref 955) "__class__" = some (some (.builtin "object.__class__")) := of_decide_eq_true (c.fact 79 (f := X_p_q1) rfl)
  have p_q4 : PySem.W.mroIn K 955 (.type "object") = some true := of_decide_eq_true (c.fact 80 (f := X_p_q4) rfl)
  have sf : PySem.W.selfFirst K 955 = true := c.fact 81 (f := X_sf) rfl
  have y_n : PySem.W.kitOne K (.type "NoneType") (.ref 882) = some false := of_decide_eq_true (c.fact 82 (f := X_y_n) rfl)
  have y_i : PySem.W.kitOne K (.type "int") (.ref 882) = some false := of_decide_eq_true (c.fact 83 (f := X_y_i) rfl)
  have y_s : PySem.W.kitOne K (.type "str") (.ref 882) = some false := of_decide_eq_true (c.fact 84 (f := X_y_s) rfl)
  have y_t : PySem.W.kitOne K (.type "tuple") (.ref 882) = some false := of_decide_eq_true (c.fact 85 (f := X_y_t) rfl)
  have y_l : PySem.W.kitOne K (.type "list") (.ref 882) = some false := of_decide_eq_true (c.fact 86 (f := X_y_l) rfl)
  have y_p : PySem.W.kitOne K (.ref 955) (.ref 882) = some false := of_decide_eq_true (c.fact 87 (f := X_y_p) rfl)
  have dOS : strA K "OUTER_START" N3.ofrom = true := c.fact 88 (f := X_dOS) rfl
  have dIS : strA K "INNER_START" N3.jfrom = true := c.fact 89 (f := X_dIS) rfl
  have dMN : intA K "MOST_NESTS" 4 = true := c.fact 90 (f := X_dMN) rfl
  have abh : PySem.W.nsIn K mainGlobals "behind" = some (some (.ref 987)) := of_decide_eq_true (c.fact 91 (f := X_abh) rfl)
  have arb : PySem.W.nsIn K mainGlobals "rows_by_nest" = some (some (.ref 973)) := of_decide_eq_true (c.fact 92 (f := X_arb) rfl)
  have ant : PySem.W.nsIn K mainGlobals "nest_text" = some (some (.ref 966)) := of_decide_eq_true (c.fact 93 (f := X_ant) rfl)
  have aU : PySem.W.nsIn K mainGlobals "_law_number" = some (some (.ref 994)) := of_decide_eq_true (c.fact 94 (f := X_aU) rfl)
  have abg : PySem.W.nsIn K mainGlobals "_law_bag" = some (some (.ref 1001)) := of_decide_eq_true (c.fact 95 (f := X_abg) rfl)
  have aT : PySem.W.nsIn K mainGlobals "_law_take" = some (some (.ref 1008)) := of_decide_eq_true (c.fact 96 (f := X_aT) rfl)
  have aE : PySem.W.nsIn K mainGlobals "_law_edge_row" = some (some (.ref 1015)) := of_decide_eq_true (c.fact 97 (f := X_aE) rfl)
  have aW : PySem.W.nsIn K mainGlobals "_law_walk_row" = some (some (.ref 1022)) := of_decide_eq_true (c.fact 98 (f := X_aW) rfl)
  have aQ : PySem.W.nsIn K mainGlobals "_law_act_row" = some (some (.ref 1027)) := of_decide_eq_true (c.fact 99 (f := X_aQ) rfl)
  have apg9 : PySem.W.nsIn K mainGlobals "_law_page" = some (some (.ref 1032)) := of_decide_eq_true (c.fact 100 (f := X_apg9) rfl)
  have aV : PySem.W.nsIn K mainGlobals "_law_walk" = some (some (.ref 1039)) := of_decide_eq_true (c.fact 101 (f := X_aV) rfl)
  have aY : PySem.W.nsIn K mainGlobals "_law_act" = some (some (.ref 1046)) := of_decide_eq_true (c.fact 102 (f := X_aY) rfl)
  have apr : PySem.W.nsIn K mainGlobals "_law_part" = some (some (.ref 1051)) := of_decide_eq_true (c.fact 103 (f := X_apr) rfl)
  have asc9 : PySem.W.nsIn K mainGlobals "_law_scheme" = some (some (.ref 1056)) := of_decide_eq_true (c.fact 104 (f := X_asc9) rfl)
  have aM : PySem.W.nsIn K mainGlobals "_law_made_nest" = some (some (.ref 1063)) := of_decide_eq_true (c.fact 105 (f := X_aM) rfl)
  have amd : PySem.W.nsIn K mainGlobals "_law_made" = some (some (.ref 1070)) := of_decide_eq_true (c.fact 106 (f := X_amd) rfl)
  have abu : PySem.W.nsIn K mainGlobals "_law_built" = some (some (.ref 1075)) := of_decide_eq_true (c.fact 107 (f := X_abu) rfl)
  have ash : PySem.W.nsIn K mainGlobals "_law_shows" = some (some (.ref 1099)) := of_decide_eq_true (c.fact 108 (f := X_ash) rfl)
  have aJ : PySem.W.nsIn K mainGlobals "_law_joined_right" = some (some (.ref 1106)) := of_decide_eq_true (c.fact 109 (f := X_aJ) rfl)
  have aX : PySem.W.nsIn K mainGlobals "_law_mixed_right" = some (some (.ref 1111)) := of_decide_eq_true (c.fact 110 (f := X_aX) rfl)
  have aL : PySem.W.nsIn K mainGlobals "law" = some (some (.ref 1116)) := of_decide_eq_true (c.fact 111 (f := X_aL) rfl)
  have ae0 : PySem.W.nsIn K mainGlobals "InvalidLoop" = some (some (.ref 144)) := of_decide_eq_true (c.fact 112 (f := X_ae0) rfl)
  have ae1 : PySem.W.nsIn K mainGlobals "InvalidText" = some (some (.ref 170)) := of_decide_eq_true (c.fact 113 (f := X_ae1) rfl)
  have ae2 : PySem.W.nsIn K mainGlobals "InvalidSize" = some (some (.ref 196)) := of_decide_eq_true (c.fact 114 (f := X_ae2) rfl)
  have ae3 : PySem.W.nsIn K mainGlobals "InvalidCell" = some (some (.ref 222)) := of_decide_eq_true (c.fact 115 (f := X_ae3) rfl)
  have ae4 : PySem.W.nsIn K mainGlobals "InvalidKind" = some (some (.ref 248)) := of_decide_eq_true (c.fact 116 (f := X_ae4) rfl)
  have ae5 : PySem.W.nsIn K mainGlobals "InvalidTable" = some (some (.ref 274)) := of_decide_eq_true (c.fact 117 (f := X_ae5) rfl)
  have ae6 : PySem.W.nsIn K mainGlobals "InvalidEntry" = some (some (.ref 300)) := of_decide_eq_true (c.fact 118 (f := X_ae6) rfl)
  have ae7 : PySem.W.nsIn K mainGlobals "InvalidPower" = some (some (.ref 326)) := of_decide_eq_true (c.fact 119 (f := X_ae7) rfl)
  have ae8 : PySem.W.nsIn K mainGlobals "InvalidCount" = some (some (.ref 352)) := of_decide_eq_true (c.fact 120 (f := X_ae8) rfl)
  have ae9 : PySem.W.nsIn K mainGlobals "InvalidTail" = some (some (.ref 378)) := of_decide_eq_true (c.fact 121 (f := X_ae9) rfl)
  have ae10 : PySem.W.nsIn K mainGlobals "InvalidName" = some (some (.ref 404)) := of_decide_eq_true (c.fact 122 (f := X_ae10) rfl)
  have ae11 : PySem.W.nsIn K mainGlobals "InvalidWish" = some (some (.ref 430)) := of_decide_eq_true (c.fact 123 (f := X_ae11) rfl)
  have ae12 : PySem.W.nsIn K mainGlobals "InvalidIndex" = some (some (.ref 456)) := of_decide_eq_true (c.fact 124 (f := X_ae12) rfl)
  have ae13 : PySem.W.nsIn K mainGlobals "NotAProgram" = some (some (.ref 482)) := of_decide_eq_true (c.fact 125 (f := X_ae13) rfl)
  have ae14 : PySem.W.nsIn K mainGlobals "NotAnAction" = some (some (.ref 508)) := of_decide_eq_true (c.fact 126 (f := X_ae14) rfl)
  have ae15 : PySem.W.nsIn K mainGlobals "InvalidDeeds" = some (some (.ref 534)) := of_decide_eq_true (c.fact 127 (f := X_ae15) rfl)
  have ae16 : PySem.W.nsIn K mainGlobals "InvalidNests" = some (some (.ref 560)) := of_decide_eq_true (c.fact 128 (f := X_ae16) rfl)
  have ae17 : PySem.W.nsIn K mainGlobals "InvalidListed" = some (some (.ref 586)) := of_decide_eq_true (c.fact 129 (f := X_ae17) rfl)
  have ae18 : PySem.W.nsIn K mainGlobals "InvalidChanges" = some (some (.ref 612)) := of_decide_eq_true (c.fact 130 (f := X_ae18) rfl)
  have ae19 : PySem.W.nsIn K mainGlobals "InvalidPrograms" = some (some (.ref 638)) := of_decide_eq_true (c.fact 131 (f := X_ae19) rfl)
  have ae20 : PySem.W.nsIn K mainGlobals "UnknownName" = some (some (.ref 684)) := of_decide_eq_true (c.fact 132 (f := X_ae20) rfl)
  have ae21 : PySem.W.nsIn K mainGlobals "InUse" = some (some (.ref 710)) := of_decide_eq_true (c.fact 133 (f := X_ae21) rfl)
  have ae22 : PySem.W.nsIn K mainGlobals "Falls" = some (some (.ref 756)) := of_decide_eq_true (c.fact 134 (f := X_ae22) rfl)
  have ae23 : PySem.W.nsIn K mainGlobals "NotOneToOne" = some (some (.ref 782)) := of_decide_eq_true (c.fact 135 (f := X_ae23) rfl)
  have ae24 : PySem.W.nsIn K mainGlobals "NothingToUndo" = some (some (.ref 794)) := of_decide_eq_true (c.fact 136 (f := X_ae24) rfl)
  have ae25 : PySem.W.nsIn K mainGlobals "Broken" = some (some (.ref 820)) := of_decide_eq_true (c.fact 137 (f := X_ae25) rfl)
  have ae26 : PySem.W.nsIn K mainGlobals "WrongValue" = some (some (.ref 117)) := of_decide_eq_true (c.fact 138 (f := X_ae26) rfl)
  have ae27 : PySem.W.nsIn K mainGlobals "WrongName" = some (some (.ref 657)) := of_decide_eq_true (c.fact 139 (f := X_ae27) rfl)
  have ae28 : PySem.W.nsIn K mainGlobals "NoAnswer" = some (some (.ref 729)) := of_decide_eq_true (c.fact 140 (f := X_ae28) rfl)
  have oe16 : oexA K 560 = true := c.fact 141 (f := X_oe16) rfl
  have ga16_ : PySem.W.findIn K (.ref 560) "__getattribute__" = some (some (.builtin "BaseException.__getattribute__")) := of_decide_eq_true (c.fact 142 (f := X_ga16_) rfl)
  have gg16_ : PySem.W.findIn K (.ref 560) "__getattr__" = some none := of_decide_eq_true (c.fact 143 (f := X_gg16_) rfl)
  have gv16_ : PySem.W.findIn K (.ref 560) "given" = some none := of_decide_eq_true (c.fact 144 (f := X_gv16_) rfl)
  have gi16_ : PySem.W.findIn K (.ref 560) "index" = some none := of_decide_eq_true (c.fact 145 (f := X_gi16_) rfl)
  have gs16_ : PySem.W.findIn K (.ref 560) "size" = some none := of_decide_eq_true (c.fact 146 (f := X_gs16_) rfl)
  have i16_ : PySem.W.findIn K (.ref 560) "__init__" = some (some (.ref 550)) := of_decide_eq_true (c.fact 147 (f := X_i16_) rfl)
  have t16_ : PySem.W.typeIn K (.ref 550) = some (.type "function") := of_decide_eq_true (c.fact 148 (f := X_t16_) rfl)
  have e16_ : PySem.W.subIn K (.ref 560) (.type "BaseException") = some true := of_decide_eq_true (c.fact 149 (f := X_e16_) rfl)
  have h16_ : PySem.W.hasDictIn K 560 = true := c.fact 150 (f := X_h16_) rfl
  have cl16_ : PySem.W.findIn K (.ref 560) "__class__" = some (some (.builtin "object.__class__")) := of_decide_eq_true (c.fact 151 (f := X_cl16_) rfl)
  have mr16_ : PySem.W.mroIn K 560 (.type "object") = some true := of_decide_eq_true (c.fact 152 (f := X_mr16_) rfl)
  have ex16_ : PySem.W.exmAny K (.ref 560) [.ref 117, .ref 657, .ref 729] = some true := of_decide_eq_true (c.fact 153 (f := X_ex16_) rfl)
  have o16_0_ : PySem.W.kitOne K (.ref 560) (.ref 144) = some false := of_decide_eq_true (c.fact 154 (f := X_o16_0_) rfl)
  have o16_1_ : PySem.W.kitOne K (.ref 560) (.ref 170) = some false := of_decide_eq_true (c.fact 155 (f := X_o16_1_) rfl)
  have o16_2_ : PySem.W.kitOne K (.ref 560) (.ref 196) = some false := of_decide_eq_true (c.fact 156 (f := X_o16_2_) rfl)
  have o16_3_ : PySem.W.kitOne K (.ref 560) (.ref 222) = some false := of_decide_eq_true (c.fact 157 (f := X_o16_3_) rfl)
  have o16_4_ : PySem.W.kitOne K (.ref 560) (.ref 248) = some false := of_decide_eq_true (c.fact 158 (f := X_o16_4_) rfl)
  have o16_5_ : PySem.W.kitOne K (.ref 560) (.ref 274) = some false := of_decide_eq_true (c.fact 159 (f := X_o16_5_) rfl)
  have o16_6_ : PySem.W.kitOne K (.ref 560) (.ref 300) = some false := of_decide_eq_true (c.fact 160 (f := X_o16_6_) rfl)
  have o16_7_ : PySem.W.kitOne K (.ref 560) (.ref 326) = some false := of_decide_eq_true (c.fact 161 (f := X_o16_7_) rfl)
  have o16_8_ : PySem.W.kitOne K (.ref 560) (.ref 352) = some false := of_decide_eq_true (c.fact 162 (f := X_o16_8_) rfl)
  have o16_9_ : PySem.W.kitOne K (.ref 560) (.ref 378) = some false := of_decide_eq_true (c.fact 163 (f := X_o16_9_) rfl)
  have o16_10_ : PySem.W.kitOne K (.ref 560) (.ref 404) = some false := of_decide_eq_true (c.fact 164 (f := X_o16_10_) rfl)
  have o16_11_ : PySem.W.kitOne K (.ref 560) (.ref 430) = some false := of_decide_eq_true (c.fact 165 (f := X_o16_11_) rfl)
  have o16_12_ : PySem.W.kitOne K (.ref 560) (.ref 456) = some false := of_decide_eq_true (c.fact 166 (f := X_o16_12_) rfl)
  have o16_13_ : PySem.W.kitOne K (.ref 560) (.ref 482) = some false := of_decide_eq_true (c.fact 167 (f := X_o16_13_) rfl)
  have o16_14_ : PySem.W.kitOne K (.ref 560) (.ref 508) = some false := of_decide_eq_true (c.fact 168 (f := X_o16_14_) rfl)
  have o16_15_ : PySem.W.kitOne K (.ref 560) (.ref 534) = some false := of_decide_eq_true (c.fact 169 (f := X_o16_15_) rfl)
  have o16_16_ : PySem.W.kitOne K (.ref 560) (.ref 560) = some true := of_decide_eq_true (c.fact 170 (f := X_o16_16_) rfl)
  have o16_17_ : PySem.W.kitOne K (.ref 560) (.ref 586) = some false := of_decide_eq_true (c.fact 171 (f := X_o16_17_) rfl)
  have o16_18_ : PySem.W.kitOne K (.ref 560) (.ref 612) = some false := of_decide_eq_true (c.fact 172 (f := X_o16_18_) rfl)
  have o16_19_ : PySem.W.kitOne K (.ref 560) (.ref 638) = some false := of_decide_eq_true (c.fact 173 (f := X_o16_19_) rfl)
  have o16_20_ : PySem.W.kitOne K (.ref 560) (.ref 684) = some false := of_decide_eq_true (c.fact 174 (f := X_o16_20_) rfl)
  have o16_21_ : PySem.W.kitOne K (.ref 560) (.ref 710) = some false := of_decide_eq_true (c.fact 175 (f := X_o16_21_) rfl)
  have o16_22_ : PySem.W.kitOne K (.ref 560) (.ref 756) = some false := of_decide_eq_true (c.fact 176 (f := X_o16_22_) rfl)
  have o16_23_ : PySem.W.kitOne K (.ref 560) (.ref 782) = some false := of_decide_eq_true (c.fact 177 (f := X_o16_23_) rfl)
  have o16_24_ : PySem.W.kitOne K (.ref 560) (.ref 794) = some false := of_decide_eq_true (c.fact 178 (f := X_o16_24_) rfl)
  have o16_25_ : PySem.W.kitOne K (.ref 560) (.ref 820) = some false := of_decide_eq_true (c.fact 179 (f := X_o16_25_) rfl)
  have o16_26_ : PySem.W.kitOne K (.ref 560) (.ref 117) = some true := of_decide_eq_true (c.fact 180 (f := X_o16_26_) rfl)
  have o16_27_ : PySem.W.kitOne K (.ref 560) (.ref 657) = some false := of_decide_eq_true (c.fact 181 (f := X_o16_27_) rfl)
  have o16_28_ : PySem.W.kitOne K (.ref 560) (.ref 729) = some false := of_decide_eq_true (c.fact 182 (f := X_o16_28_) rfl)
  have o16_29_ : PySem.W.kitOne K (.ref 560) (.type "ValueError") = some true := of_decide_eq_true (c.fact 183 (f := X_o16_29_) rfl)
  have o16_30_ : PySem.W.kitOne K (.ref 560) (.type "LookupError") = some false := of_decide_eq_true (c.fact 184 (f := X_o16_30_) rfl)
  have o16_31_ : PySem.W.kitOne K (.ref 560) (.type "ArithmeticError") = some false := of_decide_eq_true (c.fact 185 (f := X_o16_31_) rfl)
  have ake : PySem.W.nsIn K mainGlobals "_law_kind_of_error" = some (some (.ref 1080)) := of_decide_eq_true (c.fact 186 (f := X_ake) rfl)
  have akp : PySem.W.nsIn K mainGlobals "_law_kept_of_error" = some (some (.ref 1087)) := of_decide_eq_true (c.fact 187 (f := X_akp) rfl)
  have aan : PySem.W.nsIn K mainGlobals "_law_answer" = some (some (.ref 1094)) := of_decide_eq_true (c.fact 188 (f := X_aan) rfl)
  have z_len : PySem.W.nsIn K mainGlobals "len" = some none := of_decide_eq_true (c.fact 189 (f := X_z_len) rfl)
  have z_int : PySem.W.nsIn K mainGlobals "int" = some none := of_decide_eq_true (c.fact 190 (f := X_z_int) rfl)
  have z_abs : PySem.W.nsIn K mainGlobals "abs" = some none := of_decide_eq_true (c.fact 191 (f := X_z_abs) rfl)
  have z_divmod : PySem.W.nsIn K mainGlobals "divmod" = some none := of_decide_eq_true (c.fact 192 (f := X_z_divmod) rfl)
  have z_range : PySem.W.nsIn K mainGlobals "range" = some none := of_decide_eq_true (c.fact 193 (f := X_z_range) rfl)
  have z_isinstance : PySem.W.nsIn K mainGlobals "isinstance" = some none := of_decide_eq_true (c.fact 194 (f := X_z_isinstance) rfl)
  have z_bool : PySem.W.nsIn K mainGlobals "bool" = some none := of_decide_eq_true (c.fact 195 (f := X_z_bool) rfl)
  have z_tuple : PySem.W.nsIn K mainGlobals "tuple" = some none := of_decide_eq_true (c.fact 196 (f := X_z_tuple) rfl)
  have z_str : PySem.W.nsIn K mainGlobals "str" = some none := of_decide_eq_true (c.fact 197 (f := X_z_str) rfl)
  have z_list : PySem.W.nsIn K mainGlobals "list" = some none := of_decide_eq_true (c.fact 198 (f := X_z_list) rfl)
  have z_min : PySem.W.nsIn K mainGlobals "min" = some none := of_decide_eq_true (c.fact 199 (f := X_z_min) rfl)
  have z_max : PySem.W.nsIn K mainGlobals "max" = some none := of_decide_eq_true (c.fact 200 (f := X_z_max) rfl)
  have z_all : PySem.W.nsIn K mainGlobals "all" = some none := of_decide_eq_true (c.fact 201 (f := X_z_all) rfl)
  have z_any : PySem.W.nsIn K mainGlobals "any" = some none := of_decide_eq_true (c.fact 202 (f := X_z_any) rfl)
  have z_sum : PySem.W.nsIn K mainGlobals "sum" = some none := of_decide_eq_true (c.fact 203 (f := X_z_sum) rfl)
  have z_sorted : PySem.W.nsIn K mainGlobals "sorted" = some none := of_decide_eq_true (c.fact 204 (f := X_z_sorted) rfl)
  have z_enumerate : PySem.W.nsIn K mainGlobals "enumerate" = some none := of_decide_eq_true (c.fact 205 (f := X_z_enumerate) rfl)
  have z_set : PySem.W.nsIn K mainGlobals "set" = some none := of_decide_eq_true (c.fact 206 (f := X_z_set) rfl)
  have z_ValueError : PySem.W.nsIn K mainGlobals "ValueError" = some none := of_decide_eq_true (c.fact 207 (f := X_z_ValueError) rfl)
  have z_LookupError : PySem.W.nsIn K mainGlobals "LookupError" = some none := of_decide_eq_true (c.fact 208 (f := X_z_LookupError) rfl)
  have z_ArithmeticError : PySem.W.nsIn K mainGlobals "ArithmeticError" = some none := of_decide_eq_true (c.fact 209 (f := X_z_ArithmeticError) rfl)
  have z_repr : PySem.W.nsIn K mainGlobals "repr" = some none := of_decide_eq_true (c.fact 210 (f := X_z_repr) rfl)
  have B_rl := Frl.binds (ps := ["value"]) fun _ _ _ _ _ _ us hl => match us, hl with | [_], _ => rfl
  have B_ro := Fro.binds (ps := ["value"]) fun _ _ _ _ _ _ us hl => match us, hl with | [_], _ => rfl
  have B_fw := Ffw.binds (ps := ["rights", "most"]) fun _ _ _ _ _ _ us hl => match us, hl with | [_, _], _ => rfl
  have B_rc := Frc.binds (ps := ["words"]) fun _ _ _ _ _ _ us hl => match us, hl with | [_], _ => rfl
  have B_rd := Frd.binds (ps := ["value"]) fun _ _ _ _ _ _ us hl => match us, hl with | [_], _ => rfl
  have B_m2 := Fm2.binds (ps := ["self"]) fun _ _ _ _ _ _ us hl => match us, hl with | [_], _ => rfl
  have B_m3 := Fm3.binds (ps := ["self"]) fun _ _ _ _ _ _ us hl => match us, hl with | [_], _ => rfl
  have B_m4 := Fm4.binds (ps := ["self", "other"]) fun _ _ _ _ _ _ us hl => match us, hl with | [_, _], _ => rfl
  have B_g1 := Fg1.binds (ps := ["self"]) fun _ _ _ _ _ _ us hl => match us, hl with | [_], _ => rfl
  have B_g2 := Fg2.binds (ps := ["self"]) fun _ _ _ _ _ _ us hl => match us, hl with | [_], _ => rfl
  have B_g3 := Fg3.binds (ps := ["self"]) fun _ _ _ _ _ _ us hl => match us, hl with | [_], _ => rfl
  have B_g4 := Fg4.binds (ps := ["self"]) fun _ _ _ _ _ _ us hl => match us, hl with | [_], _ => rfl
  have B_m6 := Fm6.binds (ps := ["self"]) fun _ _ _ _ _ _ us hl => match us, hl with | [_], _ => rfl
  have B_m7 := Fm7.binds (ps := ["self"]) fun _ _ _ _ _ _ us hl => match us, hl with | [_], _ => rfl
  have B_m9 := Fm9.binds (ps := ["self"]) fun _ _ _ _ _ _ us hl => match us, hl with | [_], _ => rfl
  have B_m10 := Fm10.binds (ps := ["self"]) fun _ _ _ _ _ _ us hl => match us, hl with | [_], _ => rfl
  have B_m11 := Fm11.binds (ps := ["self", "other"]) fun _ _ _ _ _ _ us hl => match us, hl with | [_, _], _ => rfl
  have B_bh := Fbh.binds (ps := ["start", "row"]) fun _ _ _ _ _ _ us hl => match us, hl with | [_, _], _ => rfl
  have B_rb := Frb.binds (ps := ["text"]) fun _ _ _ _ _ _ us hl => match us, hl with | [_], _ => rfl
  have B_nt := Fnt.binds (ps := ["nest"]) fun _ _ _ _ _ _ us hl => match us, hl with | [_], _ => rfl
  have B_U := FU.binds (ps := ["_law_script", "_law_k"]) fun _ _ _ _ _ _ us hl => match us, hl with | [_, _], _ => rfl
  have B_bg := Fbg.binds (ps := ["_law_number_here"]) fun _ _ _ _ _ _ us hl => match us, hl with | [_], _ => rfl
  have B_T := FT.binds (ps := ["_law_bag_here", "_law_many"]) fun _ _ _ _ _ _ us hl => match us, hl with | [_, _], _ => rfl
  have B_E := FE.binds (ps := ["_law_bound"]) fun _ _ _ _ _ _ us hl => match us, hl with | [_], _ => rfl
  have B_W := FW.binds (ps := ["_law_walk_here"]) fun _ _ _ _ _ _ us hl => match us, hl with | [_], _ => rfl
  have B_Q := FQ.binds (ps := ["_law_act_here"]) fun _ _ _ _ _ _ us hl => match us, hl with | [_], _ => rfl
  have B_pg9 := Fpg9.binds (ps := ["_law_plan"]) fun _ _ _ _ _ _ us hl => match us, hl with | [_], _ => rfl
  have B_V := FV.binds (ps := ["_law_bag_here", "_law_deep"]) fun _ _ _ _ _ _ us hl => match us, hl with | [_, _], _ => rfl
  have B_Y := FY.binds (ps := ["_law_bag_here"]) fun _ _ _ _ _ _ us hl => match us, hl with | [_], _ => rfl
  have B_pr := Fpr.binds (ps := ["_law_bag_here", "_law_most"]) fun _ _ _ _ _ _ us hl => match us, hl with | [_, _], _ => rfl
  have B_sc9 := Fsc9.binds (ps := ["_law_bag_here", "_law_parts", "_law_acts"]) fun _ _ _ _ _ _ us hl => match us, hl with | [_, _, _], _ => rfl
  have B_M := FM.binds (ps := ["_law_over", "_law_under", "_law_deeds"]) fun _ _ _ _ _ _ us hl => match us, hl with | [_, _, _], _ => rfl
  have B_md := Fmd.binds (ps := ["_law_nests"]) fun _ _ _ _ _ _ us hl => match us, hl with | [_], _ => rfl
  have B_bu := Fbu.binds (ps := ["_law_plan"]) fun _ _ _ _ _ _ us hl => match us, hl with | [_], _ => rfl
  have B_sh := Fsh.binds (ps := ["_law_one", "_law_plan"]) fun _ _ _ _ _ _ us hl => match us, hl with | [_, _], _ => rfl
  have B_J := FJ.binds (ps := ["_law_bag_here"]) fun _ _ _ _ _ _ us hl => match us, hl with | [_], _ => rfl
  have B_X := FX.binds (ps := ["_law_bag_here"]) fun _ _ _ _ _ _ us hl => match us, hl with | [_], _ => rfl
  have B_L := FL.binds (ps := ["_law_script"]) fun _ _ _ _ _ _ us hl => match us, hl with | [_], _ => rfl
  have B_ke := Fke.binds (ps := ["_law_e"]) fun _ _ _ _ _ _ us hl => match us, hl with | [_], _ => rfl
  have B_kp := Fkp.binds (ps := ["_law_e", "_law_word"]) fun _ _ _ _ _ _ us hl => match us, hl with | [_, _], _ => rfl
  have B_an := Fan.binds (ps := ["_law_call"]) fun _ _ _ _ _ _ us hl => match us, hl with | [_], _ => rfl
  have FJ : FunT K "_law_joined_right" "_law_joined_right" s__law_joined_right 1106 fdJ 1105 := codeA_of FJ (c.cod (1106, 1105, 1101) (by simp [hA]))
  have FX : FunT K "_law_mixed_right" "_law_mixed_right" s__law_mixed_right 1111 fdX 1110 := codeA_of FX (c.cod (1111, 1110, 1108) (by simp [hA]))
  have e := hfa.symm.trans (PySem.W.mg_of X G aL)
  cases e
  refine ⟨[(1105, 1101), (1110, 1108)], spLawT K (Ts2n "_law_joined_right.<locals>.<lambda>" "_law_mixed_right.<locals>.<lambda>" 1101 1108), fun p hp => ?_, fun H a ns hn hH hS => ⟨a, ns, rfl, hS, hn, tabs2n (hH _ List.mem_cons_self) (hH _ (List.mem_cons_of_mem _ List.mem_cons_self)), fun _ => rfl⟩, fun base _ _ TBs => ?_⟩
  · rcases List.mem_cons.mp hp with rfl | hp
    · exact c.tab (1106, 1105, 1101) (by simp [hA])
    · rw [List.mem_singleton.mp hp]
      exact c.tab (1111, 1110, 1108) (by simp [hA])
  have TB1 := TBs _ List.mem_cons_self
  have TB2 := TBs _ (List.mem_cons_of_mem _ List.mem_cons_self)
  have T : Bt mg := ⟨(PySem.W.mg_none_of X G z_len), (PySem.W.mg_none_of X G z_int), (PySem.W.mg_none_of X G z_abs), (PySem.W.mg_none_of X G z_divmod), (PySem.W.mg_none_of X G z_range), (PySem.W.mg_none_of X G z_isinstance), (PySem.W.mg_none_of X G z_bool), (PySem.W.mg_none_of X G z_tuple), (PySem.W.mg_none_of X G z_str), (PySem.W.mg_none_of X G z_list), (PySem.W.mg_none_of X G z_min), (PySem.W.mg_none_of X G z_max), (PySem.W.mg_none_of X G z_all), (PySem.W.mg_none_of X G z_any), (PySem.W.mg_none_of X G z_sum), (PySem.W.mg_none_of X G z_sorted), (PySem.W.mg_none_of X G z_enumerate)⟩
  have T3 : N3.Bt mg := ⟨(PySem.W.mg_none_of X G z_len), (PySem.W.mg_none_of X G z_int), (PySem.W.mg_none_of X G z_abs), (PySem.W.mg_none_of X G z_divmod), (PySem.W.mg_none_of X G z_range)⟩
  obtain ⟨_, aMD⟩ := intA_ok aMD
  have DB := dtB_ok vB (c.dic hTB (List.mem_of_getElem? (i := 0) (show hTs[0]? = some hTB from rfl)))
  have DC := dtC_ok vC (c.dic hTC (List.mem_of_getElem? (i := 1) (show hTs[1]? = some hTC from rfl)))
  have DP := dtI_ok vP (c.dic hTP (List.mem_of_getElem? (i := 2) (show hTs[2]? = some hTP from rfl)))
  have DN := dtI_ok vN (c.dic hTN (List.mem_of_getElem? (i := 3) (show hTs[3]? = some hTN from rfl)))
  have DR : OrdD P w K 57 := ordA_ok vR
  have DS : ∀ H, SqT K H 88 (cmps.map V.str) := fun H => (show SqT K H 88 (cmps.map V.str) from tupA_ok jS H)
  have Brl : FB P w K mg base "read_loop" 1 ["value"] (spReadL K (obs ++ ibs)) := ⟨_, _, ok_read_loop (P := P) (w := w) (base := base) Frl T (PySem.W.mg_of X G dB) DB, (PySem.W.mg_of X G arl), krl, B_rl⟩
  have Bro : FB P w K mg base "read_outer_loop" 2 ["value"] (spReadL K obs) := ⟨_, _, ok_read_outer_loop (P := P) (w := w) (base := base) Fro T Brl, (PySem.W.mg_of X G aro), kro, B_ro⟩
  have Bfw : FB P w K mg base "first_wrong" 1 ["rights", "most"] (spFirst K) := ⟨_, _, ok_first_wrong (P := P) (w := w) (base := base) Ffw T , (PySem.W.mg_of X G afw), kfw, B_fw⟩
  have Brc : FB P w K mg base "read_condition" 1 ["words"] (spReadC K) := ⟨_, _, ok_read_condition (P := P) (w := w) (base := base) Frc T (PySem.W.mg_of X G dN) DN (PySem.W.mg_of X G dS) DS, (PySem.W.mg_of X G arc), krc, B_rc⟩
  have Brd : FB P w K mg base "read_deed" 2 ["value"] (spReadD K) := ⟨_, _, ok_read_deed (P := P) (w := w) (base := base) Frd T (PySem.W.mg_of X G dC) DC (PySem.W.mg_of X G dP) DP (PySem.W.mg_none_of X G z_set) Brc, (PySem.W.mg_of X G ard), krd, B_rd⟩
  obtain ⟨_, dOS⟩ := strA_ok dOS
  obtain ⟨_, dIS⟩ := strA_ok dIS
  obtain ⟨_, dMN⟩ := intA_ok dMN
  have I16 := FI16
  have bI16 := I16.binds (ps := ["self", "index"]) fun _ _ _ _ _ _ us hl => match us, hl with | [_, _], _ => rfl
  have X16 : OexC K 560 := oexA_ok oe16
  have xf16 : XfC K 560 := ⟨ga16_, gg16_, e16_, h16_⟩
  have R16 : ErrC P w K mg base "InvalidNests" "index" 560 := ⟨X16, xf16, gi16_, PySem.W.mg_of X G ae16, ⟨_, _, _, i16_, t16_, ok_eindex (P := P) (w := w) (mg := mg) (base := base) I16 sc_init16 rfl rfl rfl X16 gi16_, bI16⟩⟩
  have xc16 : ExcC K 560 := ⟨ga16_, gg16_, e16_, h16_, cl16_, sp_, tk_, mr16_⟩
  have kit16 : ∀ i, i < 32 → PySem.W.kitOne K (.ref 560) (cvs Cf i) = some (ansB 16 i) := fun i hi => by
    match i, hi with
    | 0, _ => exact o16_0_
    | 1, _ => exact o16_1_
    | 2, _ => exact o16_2_
    | 3, _ => exact o16_3_
    | 4, _ => exact o16_4_
    | 5, _ => exact o16_5_
    | 6, _ => exact o16_6_
    | 7, _ => exact o16_7_
    | 8, _ => exact o16_8_
    | 9, _ => exact o16_9_
    | 10, _ => exact o16_10_
    | 11, _ => exact o16_11_
    | 12, _ => exact o16_12_
    | 13, _ => exact o16_13_
    | 14, _ => exact o16_14_
    | 15, _ => exact o16_15_
    | 16, _ => exact o16_16_
    | 17, _ => exact o16_17_
    | 18, _ => exact o16_18_
    | 19, _ => exact o16_19_
    | 20, _ => exact o16_20_
    | 21, _ => exact o16_21_
    | 22, _ => exact o16_22_
    | 23, _ => exact o16_23_
    | 24, _ => exact o16_24_
    | 25, _ => exact o16_25_
    | 26, _ => exact o16_26_
    | 27, _ => exact o16_27_
    | 28, _ => exact o16_28_
    | 29, _ => exact o16_29_
    | 30, _ => exact o16_30_
    | 31, _ => exact o16_31_
    | n + 32, h => exact absurd h (by omega)
  have Er16 : ErrK K Cf 560 16 := ⟨⟨by decide, xc16, kit16⟩, ⟨xf16, gv16_, gi16_, gs16_⟩, by decide, ex16_⟩
  have M : Ers mg Cf := ⟨(PySem.W.mg_of X G ae0), (PySem.W.mg_of X G ae1), (PySem.W.mg_of X G ae2), (PySem.W.mg_of X G ae3), (PySem.W.mg_of X G ae4), (PySem.W.mg_of X G ae5), (PySem.W.mg_of X G ae6), (PySem.W.mg_of X G ae7), (PySem.W.mg_of X G ae8), (PySem.W.mg_of X G ae9), (PySem.W.mg_of X G ae10), (PySem.W.mg_of X G ae11), (PySem.W.mg_of X G ae12), (PySem.W.mg_of X G ae13), (PySem.W.mg_of X G ae14), (PySem.W.mg_of X G ae15), (PySem.W.mg_of X G ae16), (PySem.W.mg_of X G ae17), (PySem.W.mg_of X G ae18), (PySem.W.mg_of X G ae19), (PySem.W.mg_of X G ae20), (PySem.W.mg_of X G ae21), (PySem.W.mg_of X G ae22), (PySem.W.mg_of X G ae23), (PySem.W.mg_of X G ae24), (PySem.W.mg_of X G ae25), (PySem.W.mg_of X G ae26), (PySem.W.mg_of X G ae27), (PySem.W.mg_of X G ae28), (PySem.W.mg_none_of X G z_ValueError), (PySem.W.mg_none_of X G z_LookupError), (PySem.W.mg_none_of X G z_ArithmeticError)⟩
  have G_ke : FBP P w K mg base "_law_kind_of_error" 1 (spKind K Cf) := ⟨1080, ok_kind (P := P) (w := w) (base := base) Fke B_ke T M, (PySem.W.mg_of X G ake), kke⟩
  have G_kp : FBP P w K mg base "_law_kept_of_error" 1 (spKept K) := ⟨1087, ok_kept (P := P) (w := w) (base := base) Fkp B_kp, (PySem.W.mg_of X G akp), kkp⟩
  have AK : AnsK P w K mg base Cf := ⟨⟨1094, _, Fan, (PySem.W.mg_of X G aan), B_an⟩, G_ke, G_kp, M, (PySem.W.mg_none_of X G z_repr)⟩
  have Nc' : Nc K 882 := ⟨⟨n_pg, n_hd, n_po, n_sa⟩, n_nO, n_nI, n_nD, n_nB, n_nR, n_nP⟩
  have Pc' : N3.Pc K 955 := ⟨⟨p_pg, p_hd, p_po, p_sa⟩, p_nN⟩
  have Is' : Isn K 882 := ⟨n_q1, sp_, tk_, n_q4⟩
  have GR := ok_initR Fm1 Nc' T Bro Brl Brd Bfw (PySem.W.mg_of X G aMD) (PySem.W.mg_of X G dR) DR
  have mk1 : Mk K 882 834 := ⟨n_mk, am1, im1, n_kc⟩
  have mk2 : Mk K 955 898 := ⟨p_mk, am5, im5, p_kc⟩
  have NK : N3.NestK P w K mg base 882 :=
    { nc := Nc', isn := Is', mN := (PySem.W.mg_of X G aC), mks := ⟨834, mk1, GR⟩,
      p1 := ⟨_, 841, _, ⟨ag1, sg1, tg1, propA_ok rg1⟩, ok_get1 Fg1 Nc', B_g1⟩, p2 := ⟨_, 849, _, ⟨ag2, sg2, tg2, propA_ok rg2⟩, ok_get2 Fg2 Nc', B_g2⟩, p3 := ⟨_, 857, _, ⟨ag3, sg3, tg3, propA_ok rg3⟩, ok_get3 Fg3 Nc', B_g3⟩,
      len := ⟨865, am2, im2, Sq.FnOk.asR (ok_nlen Fm2 Nc' T) B_m2⟩, bool := ⟨872, am3, im3, Sq.FnOk.asR (ok_nbool Fm3) B_m3⟩, eq := ⟨879, am4, im4, Sq.FnOk.asR (ok_neq Fm4 Nc' Is' (PySem.W.mg_of X G aC) T) B_m4⟩ }
  have Kc : Ck K mg := ⟨(PySem.W.mg_none_of X G z_isinstance), (PySem.W.mg_none_of X G z_str)⟩
  have KF : N3.Kn P w K mg base "first_wrong" 1 ["rights", "most"] (spFirst K) := let ⟨f, fd, G, hm, kk, b⟩ := Bfw.ex; ⟨f, fd, hm, kk, b, G⟩
  have Gbh := N3.ok_behind (P := P) (w := w) (K := K) (mg := mg) (base := base) Fbh
  have Grb := N3.ok_rowsBy (P := P) (w := w) (K := K) (base := base) Frb (PySem.W.mg_of X G dOS)
  have R : N3.Rd1 P w K mg base := ⟨⟨987, _, (PySem.W.mg_of X G abh), kbh, B_bh, Gbh⟩, ⟨973, _, (PySem.W.mg_of X G arb), krb, B_rb, Grb⟩, ⟨_, PySem.W.mg_of X G dOS⟩, ⟨_, PySem.W.mg_of X G dIS⟩, ⟨_, PySem.W.mg_of X G dMN⟩⟩
  have GRP := N3.ok_pinitXR Fm5 Pc' (PySem.W.mg_of X G aC) Kc R R16 KF
  have Gnt := N3.ok_nestText Fnt R NK
  have Gm6 := N3.ok_pstr Fm6 Pc' ⟨966, _, (PySem.W.mg_of X G ant), knt, B_nt, Gnt⟩
  have Gm7 := N3.ok_plen (P := P) (w := w) (base := base) (K := K) (mg := mg) (C := 882) Fm7 Pc' T3
  have Gm9 := N3.ok_prepr (P := P) (w := w) (base := base) Fm9 Pc' T3 (PySem.W.mg_none_of X G z_sum) NK
  have Gm10 := N3.ok_pbool (P := P) (w := w) (base := base) (mg := mg) Fm10
  have Gm11 := N3.ok_padd (P := P) (w := w) (base := base) Fm11 Pc' (PySem.W.mg_of X G aCP) Nc'.cl Is' mk2 GRP
  have Gmd := N3.ok_madeX Fmd T3 (PySem.W.mg_of X G aCP) mk2 GRP
  have PS : ProgS P w K mg base 955 882 := ⟨Pc', (PySem.W.mg_of X G aCP), ⟨_, 913, _, ⟨ag4, sg4, tg4, propA_ok rg4⟩, N3.ok_pnests Fg4 Pc', B_g4⟩, ⟨921, am7, im7, Sq.FnOk.asR Gm7 B_m7⟩, ⟨928, am10, im10, Sq.FnOk.asR Gm10 B_m10⟩, ⟨945, am9, im9, Sq.FnOk.asR Gm9 B_m9⟩, ⟨940, am6, im6, Sq.FnOk.asR Gm6 B_m6⟩⟩
  have PA : ProgA P w K mg base 955 882 (Cf 16) := ⟨PS, sf, ⟨952, am11, im11, Sq.FnOk.asR Gm11 B_m11⟩, ⟨1070, _, (PySem.W.mg_of X G amd), kmd, B_md, Gmd⟩, ⟨1070, _, (PySem.W.mg_of X G amd), kmd, B_md, Gmd.imp fun _ _ _ _ => N3.made_of Nc'.cl Is'⟩⟩
  have Z : Kits K 882 955 := ⟨Nc'.cl, Is', Pc'.cl, ⟨p_q1, sp_, tk_, p_q4⟩, y_n, y_i, y_s, y_t, y_l, y_p⟩
  have GT := N3.FnOk.draw (N3.ok_take (P := P) (w := w) (base := base) (K := K) FT T3)
  have GE := N3.ok_edge (P := P) (w := w) (base := base) (K := K) FE T3
  have GW := N3.ok_walkrow FW GE B_E kE (PySem.W.mg_of X G aE)
  have GQ := N3.ok_actRow (P := P) (w := w) (base := base) (K := K) (mg := mg) FQ
  have GV := N3.ok_walk FV T3 ⟨1008, _, (PySem.W.mg_of X G aT), kT, B_T, GT⟩
  have GY := N3.ok_act FY T3 (PySem.W.mg_none_of X G z_list) ⟨1008, _, (PySem.W.mg_of X G aT), kT, B_T, GT⟩
  have Gpr := N3.ok_part Fpr T3 ⟨1008, _, (PySem.W.mg_of X G aT), kT, B_T, GT⟩ ⟨1046, _, (PySem.W.mg_of X G aY), kY, B_Y, GY⟩ ⟨1039, _, (PySem.W.mg_of X G aV), kV, B_V, GV⟩
  have Gsc := N3.ok_scheme Fsc9 T3 ⟨1008, _, (PySem.W.mg_of X G aT), kT, B_T, GT⟩ ⟨1051, _, (PySem.W.mg_of X G apr), kpr, B_pr, Gpr⟩
  have Gpg := N3.ok_page Fpg9 ⟨1027, _, (PySem.W.mg_of X G aQ), kQ, B_Q, GQ⟩ ⟨1022, _, (PySem.W.mg_of X G aW), kW, B_W, GW⟩
  have GM := N3.ok_madeN FM T3 (PySem.W.mg_none_of X G z_list) NK
  have Gbu := N3.ok_built Fbu T3 ⟨1027, _, (PySem.W.mg_of X G aQ), kQ, B_Q, GQ⟩ ⟨1022, _, (PySem.W.mg_of X G aW), kW, B_W, GW⟩ ⟨1063, _, (PySem.W.mg_of X G aM), kM, B_M, GM⟩ PA.madeP
  have GB := N3.ok_bag (P := P) (w := w) (base := base) (K := K) Fbg T3
  have GU := N3.ok_number (P := P) (w := w) (base := base) FU T3
  have Gsh := ok_law_shows Fsh B_sh T (PySem.W.mg_none_of X G z_repr) NK PS (⟨1022, _, GW, (PySem.W.mg_of X G aW), kW, B_W⟩ : FB P w K mg base "_law_walk_row" 2 ["_law_walk_here"] (N3.spWalkRow K)) (⟨1027, _, GQ, (PySem.W.mg_of X G aQ), kQ, B_Q⟩ : FB P w K mg base "_law_act_row" 1 ["_law_act_here"] (N3.spActRow K))
  have GSH : FBG P w K mg base "_law_shows" 5 (spShows 955 882) := ⟨1099, Gsh, (PySem.W.mg_of X G ash), ksh⟩
  have ne12 : (1101 : Nat) ≠ 1108 := by decide
  have GJ := ok_law_joined_right (Ts := Ts2n "_law_joined_right.<locals>.<lambda>" "_law_mixed_right.<locals>.<lambda>" 1101 1108) AK Er16 PA TB1 List.mem_cons_self (ts2n_1 ne12) (⟨1056, _, Gsc, (PySem.W.mg_of X G asc9), ksc9, B_sc9⟩ : FB P w K mg base "_law_scheme" 4 ["_law_bag_here", "_law_parts", "_law_acts"] N3.spScheme) (⟨1075, _, Gbu, (PySem.W.mg_of X G abu), kbu, B_bu⟩ : FB P w K mg base "_law_built" 7 ["_law_plan"] (N3.spBuilt 955 882)) (⟨1032, _, Gpg, (PySem.W.mg_of X G apg9), kpg9, B_pg9⟩ : FB P w K mg base "_law_page" 3 ["_law_plan"] N3.spPage) GSH FJ B_J T
  have GX := ok_law_mixed_right (Ts := Ts2n "_law_joined_right.<locals>.<lambda>" "_law_mixed_right.<locals>.<lambda>" 1101 1108) AK Er16 NK PA Z mk2 GRP TB2 (List.mem_cons_of_mem _ List.mem_cons_self) (ts2n_2 ne12) (⟨1008, _, GT, (PySem.W.mg_of X G aT), kT, B_T⟩ : FB P w K mg base "_law_take" 1 ["_law_bag_here", "_law_many"] N3.spDraw) FX B_X T
  exact ok_law (Ts := Ts2n "_law_joined_right.<locals>.<lambda>" "_law_mixed_right.<locals>.<lambda>" 1101 1108) AK PA Z mk2 GRP (⟨1001, _, GB, (PySem.W.mg_of X G abg), kbg, B_bg⟩ : FB P w K mg base "_law_bag" 1 ["_law_number_here"] N3.spBag) (⟨994, _, GU, (PySem.W.mg_of X G aU), kU, B_U⟩ : FB P w K mg base "_law_number" 1 ["_law_script", "_law_k"] (N3.spNumber K)) ⟨1106, GJ, (PySem.W.mg_of X G aJ), kJ⟩ ⟨1111, GX, (PySem.W.mg_of X G aX), kX⟩ FL B_L T
end Sq
namespace Sq
open PySem L2 PySem.Spec PyProof.Rows TL LamX L2H
end Sq
namespace Sq
open PySem L2 PySem.Spec PyProof.Rows TL LamX L2H
end Sq
open PySem PySem.W PySem.Calls PyProof.Rows
set_option maxRecDepth 100000 in
set_option maxHeartbeats 0 in
theorem PySem.Challenge.cw_squareloops_k06_programs_made_and_joined_holds : PySem.Challenge.rw_squareloops_k06_programs_made_and_joined.Holds := by
  w_on; o_law
  refine HandSHeadRun.head_any (r := OpenLaw.row PySem.Challenge.rw_squareloops_k06_programs_made_and_joined) (q := view (OpenLaw.row PySem.Challenge.rw_squareloops_k06_programs_made_and_joined).prog [76]) (H := Sq.hA.hook) (ob := Sq.obA) (M := 11468) (loose := Sq.names) (d := HandSHeadRun.topDef (OpenLaw.row PySem.Challenge.rw_squareloops_k06_programs_made_and_joined).prog 76) (kwd := []) Sq.hA.eq
    (by kernel_rfl) (fun s => by kernel_rfl) Sq.runA (by kernel_rfl) (by kernel_rfl) (by kernel_rfl) (by rfl) (by first | assumption | decide +kernel) (by decide +kernel) ⟨rfl, rfl, rfl, rfl, rfl, by decide +kernel⟩ ?hw ?hc
  case hw => w_witness2
  case hc =>
    refine Sq.walkGA (l := PySem.Challenge.rw_squareloops_k06_programs_made_and_joined) (n := 63) (k := 9) (A := Sq.hA) rfl (by decide) (by kernel_rfl) ⟨rfl, by decide, by decide⟩ ?F
    intro w K mg fa h KX c G hmg0
    have hmg : mg ("law" : PySem.Str) = some (.ref fa) := by
      have e : (HandSHeadRun.topDef (OpenLaw.row PySem.Challenge.rw_squareloops_k06_programs_made_and_joined).prog 76).name = ("law" : PySem.Str) := by kernel_rfl
      rw [← e]
      exact hmg0
    exact Sq.all_mk KX G hmg c
