import PyProof.Rows.All
import Wide.All
import OpenK.AllK
import Wide.FinOn
import HandS.ForMost
import HandS.Star
import HandS.Property
import HandS.OwnEq
import HandS.Wide
import HandS.WideBits
import HandS.Flow
import HandS.Defaults
import HandS.MakeKw
import HandS.MapObj
import HandS.SetFor
import PyProof.Rows.CountFlat
import HandS.TupSets
import HandS.Deep
import KE.OsSort
import HandS.Dict
import HandS.Comp
import HandS.SetBool
import HandS.Iter
import HandS.Walk
import KE.KDictWalk
import HandS.IsInst
import HandS.TryOnly
import HandS.Small
import HandS.Conv
import PySem.Challenge.RW_squareloops_k26_kinds_of_tables
set_option Elab.async false
set_option maxRecDepth 100000
set_option maxHeartbeats 16000000
namespace Sq
open PySem L2 PySem.Spec PyProof.Rows

/-- a promise that is kept where no repr is under way -/
def FnG (P : Program) (w : World) (K : PySem.W.Frag) (mg : Str → Option Value) (base : Heap) (k : Nat) (f : Addr) (sp : Sp) : Prop :=
  ∀ (A : Around) (fr : List Env) (s : Shared) (H : Hp) (us : List Value) (vs : List V) (Q : VK), A.guards = some [] → Room k A →
    Env0 P w K mg base A fr s H → Vals vs us → sp vs H Q E0 → codeAny (model P w) A (.call (.ref f) ⟨us, []⟩) (CR CX0 fr P w H s Q E0) s

section
variable {P : Program} {w : World} {K : PySem.W.Frag} {mg : Str → Option Value} {base : Heap} {k : Nat} {f : Addr} {fd : FuncData} {sp : Sp} {x qual : Str} {st : Stmt} {N ps : List Str}

theorem FnG.of (F : Fun K x qual st f fd) (S : FnScope N ps (defScope st)) (b : Binds K fd ps []) (len : ∀ vs H Q, sp vs H Q E0 → vs.length = ps.length)
    (hbody : ∀ (cdv : Value) (A : Around) (fr : List Env) (s : Shared) (H : Hp) (vs : List V) (Q : VK),
      (A.deeper (envOfC qual (defScope st) s.heap.objs.size f cdv)).guards = some [] →
      Room k (A.deeper (envOfC qual (defScope st) s.heap.objs.size f cdv)) → sp vs H Q E0 →
      ∃ t, PSs (cxOf CX0 P w K mg base N qual (defScope st) f cdv A fr s H E0).nox (defBody st) t ∧
        t { nx := fun _ H' => Q .non H', rt := Q } (L2.start N vs) H) : FnG P w K mg base (k + 1) f sp := by
  intro A fr s H us vs Q hg hr e0 r hs
  obtain ⟨oc, od, kV, doc, pm, an, cdv, ct, osl, rfl, lk, hcd⟩ := F.ex
  have hin : K.In s.heap := e0.mod.kin.keeps fun b o e => (e0.bs b o e).1
  have hl : vs.length = ps.length := len vs H Q hs
  have hu : (us ++ []).length = ps.length := by
    rw [List.append_nil, ← r.length]
    exact hl
  refine StX.run_bnd lk hcd S hr e0 (G := fun vs' H2 => vs' = vs ∧ H2 = H) (fun A' Ex Q' h => ?_) fun s2 H2 vs' hv hr' => ?_
  · have z := b s us hin hu
    rw [List.append_nil] at z
    exact z (model P w) A' Ex Q' (h s H vs us e0 Un.refl rfl (fun _ _ q => q) r hl ⟨rfl, rfl⟩)
  · obtain ⟨e1, e2⟩ := hv
    subst e1 e2
    obtain ⟨t, ht, q⟩ := hbody cdv A fr s2 _ _ Q hg hr' hs
    exact ⟨t, ht.nox, q⟩
theorem FnG.ofR (F : FnR P w K mg base CX0 k f sp) : FnG P w K mg base k f sp := fun A fr s H us vs Q _ hr e0 r h => F A fr s H us vs Q E0 hr e0 r h
end

section
variable {X : Cx} {k : Nat} {f : Addr} {sp : Sp} {x : Str} {p pos : Pos} {e : Expr} {es : List Expr} {t : TA}
theorem run_fnG {pins : List (Addr × Obj)} {σ : L2.St} {H : Hp} {s : Shared} {Q : VK} {us : List Value} {vs : List V} (F : FnG X.prog X.w X.K X.mg X.base k f sp)
    (hg : X.A.guards = some []) (hr : Room k X.A) (I : Inv X pins σ H s) (r : Vals vs us) (h : sp vs H Q E0) :
    wpAny (model X.prog X.w) X.A (call (.ref f) us) (EP X pins σ Q) X.xe s := by
  refine wpAny_call (codeAny_mono (F X.A X.stack s H us vs Q hg hr I.env0 r h) fun z s' hz => ?_)
  match z, hz with
  | .error _, hz => exact False.elim hz
  | .ok (.ret _), hz => exact I.after hz
  | .ok .next, hz => exact False.elim hz
  | .ok .brk, hz => exact False.elim hz
  | .ok .cont, hz => exact False.elim hz
def tCallG (sp : Sp) (t : TA) : TE := fun σ H Q => t σ H fun vs H1 => sp vs H1 Q E0
/-- f(e, ..) by such a promise -/
theorem pe_callG (F : FnG X.prog X.w X.K X.mg X.base k f sp) (hg : X.A.guards = some []) (hr : Room k X.A) (hgl : Gl X x) (hm : X.mg x = some (.ref f))
    (hk : PySem.W.keepIn X.K (.ref f) = true) (ha : PA X (e :: es) t) (hdb : (x == ("__debug__" : Str)) = false := by decide)
    (he : starEach (e :: es) X.env = (false, eval e X.env) :: starEach es X.env := by rfl)
    (hpl : (backTo pos (starEach es X.env)).any (·.1) = false := by rfl) : PE X (.Call (.Name x p) (e :: es) [] pos) (tCallG sp t) := by
  constructor
  intro pins s σ H Q I h
  apply wpAny_Call_Name_kw
  refine ld_glob I hgl hm (PySem.W.callWith_K (h₀ := X.base) I.ok.mod.kin hk ?_ he hpl) hdb
  refine thn (ha.run pos pins s σ H _ I h) ?_
  rintro us s1 ⟨vs, H1, I1, r, q⟩
  exact ⟨I1.kIn, run_fnG F hg hr I1 r q⟩

/-- repr of data: what is shown, exactly -/
def rRepr (K : PySem.W.Frag) : List V → Hp → VK → Prop := fun xs H Q => ∃ (a : Addr) (d : PyData), xs = [.ref a] ∧ Dp K H (.ref a) d ∧ d.showable = true ∧ d.hasDict = false ∧ d.depth ≤ 20 ∧ d.shown.length ≤ sizeLine ∧ Q (.str d.shown) H
theorem call_repr (hg : X.A.guards = some []) (hr : Room k X.A) : CallR X (.builtin "repr") (rRepr X.K) := by
  intro pins s σ H xs us Q I r h
  obtain ⟨a, d, rfl, hd, h1, h2, h3, h4, q⟩ := h
  obtain ⟨u, rfl, r1⟩ := vals1 r
  obtain ⟨as, rd⟩ := Dp.reads I d _ u hd r1
  cases r1
  have hu := hr.units
  refine repr_of_reads' rd h1 (fun z => by rw [h2] at z; cases z) hg (by omega) (fun _ _ z => z) (fun h' u' tk kp => ?_) h4
  exact ⟨.str d.shown, H, I.kept kp, ⟨u', rfl⟩, q⟩
end
end Sq
namespace Sq
open PySem L2 PySem.Spec PyProof.Rows

section
variable {P : Program} {w : World} {K : PySem.W.Frag} {mg mb : Str → Option Value} {k : Nat} {fa a : Addr} {sp : Sp} {s1 : Shared} {vs : List Value} {ns : List Int}
/-- the law's own call, from such a promise of it, over one abstract heap -/
theorem end_core (KX : K.In s1.heap) (hns : s1.heap.Ns mainGlobals mg) (hb : s1.heap.Ns builtinsNs mb) (hbb : ∀ x : Str, x ≠ "__name__" → mb x = bootBuiltins x)
    (hlim : s1.heap.NoLimit) (hg : s1.gens = #[]) (ha : s1.heap.get? a = some { cls := .type "list", data := .seq vs.toArray }) (hr : Room k callerA)
    (F : ∀ base : Heap, K.In base → base.Ns mainGlobals mg → FnG P w K mg base k fa sp)
    (H : Hp) (hO : Only H) (hsp : sp [.ref a] H (fun v _ => v = .bl true) E0) (hok : HOk P w H s1.heap) (hA : ∀ b, H b ≠ none → b = a) (hK : H a ≠ none → K.lookup a = none) :
    codeAny (model P w) callerA (.call (.ref fa) ⟨[.ref a], []⟩) (fun r s' => r = .ok (.ret (.bool true)) ∧ OldK s1.heap s'.heap ∧ s'.os = s1.os ∧ AllBare s'.gens) s1 := by
  have free : ∀ {b : Addr} {o : Obj}, s1.heap.get? b = some o → o ≠ { cls := .type "list", data := .seq vs.toArray } → H b = none := by
    intro b o e n
    refine Classical.byContradiction fun q => n ?_
    have eb := hA b q
    rw [eb, ha] at e
    exact (Option.some.inj e).symm
  have ns1 : ∀ {b : Addr} {m : Str → Option Value}, s1.heap.Ns b m → (hidT s1.heap H).Ns b m := by
    rintro b m ⟨o, es, ep, e, d, r⟩
    refine ⟨o, es, ep, hidT_get e (free e fun q => ?_), d, r⟩
    rw [q] at d
    cases d
  have kin : K.In (hidT s1.heap H) := by
    intro b o e
    refine hidT_get (KX b o e) (Classical.byContradiction fun q => ?_)
    have eb := hA b q
    rw [eb] at e q
    rw [hK q] at e
    cases e
  have md : Mod K mg (hidT s1.heap H) := by
    obtain ⟨mc, h1, h2⟩ := hlim
    exact ⟨kin, ns1 hns, ⟨mb, ns1 hb, hbb⟩, ⟨mc, ns1 h1, h2⟩⟩
  have e0 : Env0 P w K mg (hidT s1.heap H) callerA [] s1 H :=
    { frames := rfl, mod := md, bs := fun b o e => of_hidT e, bsz := Nat.le_of_eq (hidT_size _ _), funs := trivial, frf := fun b hb => (by cases hb), hok := hok, bare := .of_eq hg }
  have run := F _ kin (ns1 hns) callerA [] s1 H [.ref a] [.ref a] (fun v _ => v = .bl true) rfl hr e0 (.cons rfl .nil) hsp
  refine codeAny_mono run fun r s' h => ?_
  match r, h with
  | .error _, h => exact False.elim h
  | .ok .next, h => exact False.elim h
  | .ok .brk, h => exact False.elim h
  | .ok .cont, h => exact False.elim h
  | .ok (.ret u), h =>
    obtain ⟨v, H', os, bare, un, hok', r', q⟩ := h
    cases (show v = .bl true from q)
    cases (show u = Value.bool true from r')
    refine ⟨rfl, OldK.of_keep fun b o e => ?_, os, bare⟩
    rcases hO b with z | ⟨ob, xs, z⟩
    · exact un.keep b o e z (fun q => by cases q) (fun q => by cases q)
    · have e1 := (hok b _ z).1
      have e2 := (hok' b _ (un.frzs b ob _ z)).1
      exact e2.trans (e1.symm.trans e)

theorem end_call (KX : K.In s1.heap) (hns : s1.heap.Ns mainGlobals mg) (hb : s1.heap.Ns builtinsNs mb) (hbb : ∀ x : Str, x ≠ "__name__" → mb x = bootBuiltins x)
    (hlim : s1.heap.NoLimit) (hg : s1.gens = #[]) (ha : s1.heap.get? a = some { cls := .type "list", data := .seq vs.toArray }) (hi : IntsAre vs ns) (hl : ns.length ≤ sizeLine)
    (hr : Room k callerA) (F : ∀ base : Heap, K.In base → base.Ns mainGlobals mg → FnG P w K mg base k fa sp)
    (hsp : ∀ H : Hp, Only H → SqL K H a (ns.map V.int) → sp [.ref a] H (fun v _ => v = .bl true) E0) :
    codeAny (model P w) callerA (.call (.ref fa) ⟨[.ref a], []⟩) (fun r s' => r = .ok (.ret (.bool true)) ∧ OldK s1.heap s'.heap ∧ s'.os = s1.os ∧ AllBare s'.gens) s1 := by
  have rv := vals_ints hi
  have ez : vs.toArray.size ≤ sizeLine := by
    rw [List.size_toArray, hi.length]
    exact hl
  by_cases hk : K.lookup a = none
  · let H : Hp := fun b => if b = a then some (.frz { cls := .type "list", data := .seq vs.toArray } (.lst (ns.map V.int))) else none
    have at_a : H a = some (.frz { cls := .type "list", data := .seq vs.toArray } (.lst (ns.map V.int))) := if_pos rfl
    have off : ∀ {b : Addr}, b ≠ a → H b = none := fun q => if_neg q
    have only : Only H := fun b => by
      by_cases q : b = a
      · exact .inr ⟨_, _, q ▸ at_a⟩
      · exact .inl (off q)
    refine end_core KX hns hb hbb hlim hg ha hr F H only (hsp H only (.inl (.inr ⟨_, at_a⟩))) (fun b u z => ?_) (fun b z => Classical.byContradiction fun q => z (off q)) fun _ => hk
    by_cases q : b = a
    · subst q
      cases at_a.symm.trans z
      exact ⟨ha, by rw [List.length_map]; exact hl, vs, _, rv, ha⟩
    · cases (off q).symm.trans z
  · obtain ⟨o, ho⟩ := Option.ne_none_iff_exists'.mp hk
    have e := (KX a o ho).symm.trans ha
    cases e
    refine end_core KX hns hb hbb hlim hg ha hr F (fun _ => none) (fun _ => .inl rfl) (hsp _ (fun _ => .inl rfl) (.inr ⟨_, vs.toArray, _, ho, rfl, rfl, rfl, ez, by simpa using rv⟩)) (fun b u z => by cases z) (fun b z => absurd rfl z) fun z => absurd rfl z
end

/-- the goal that k_head leaves, from such a promise of the law -/
theorem walkG {l : PySem.W.OpenLaw} {n k : Nat} {q : Program} {loose : List Str} {XP : (Str → Option Value) → Heap → Prop} {YP : World → Heap → Prop} {d : DefRec} {K : Params → PySem.W.Frag} {sp : PySem.W.Frag → Sp}
    (hn : l.most = some n) (hn2 : n ≤ sizeLine) (hdf : d.params.defaults = []) (hr : Room k callerA) (hY : ∀ (w : World) (h : Heap), YP w h → (K w.params).In h)
    (F : ∀ (w : World) (mg : Str → Option Value) (fa : Addr) (h : Heap), (K w.params).In h → h.Ns mainGlobals mg → mg d.name = some (.ref fa) →
      ∀ base : Heap, (K w.params).In base → base.Ns mainGlobals mg → FnG l.prog w (K w.params) mg base k fa (sp (K w.params)))
    (hsp : ∀ (K : PySem.W.Frag) (H : Hp) (a : Addr) (ns : List Int), ns.length ≤ n → Only H → SqL K H a (ns.map V.int) → sp K [.ref a] H (fun v _ => v = .bl true) E0) :
    PySem.W.WalkO q loose XP YP l.row.toRowW d [] (fun f vs => PySem.call f vs) := by
  refine Att.attach_call hn hdf ?_
  intro w s0 s1 mg mb fa o pm cd doc a vs ns G Y _ _ _ hmg hobj hints hlen hg
  have KX := hY w _ Y
  exact end_call KX G.T.g G.T.b G.T.builtins G.T.nolimit hg hobj hints (Nat.le_trans hlen hn2) hr (F w mg fa _ KX G.T.g hmg) fun H hO hS => hsp _ H a ns hlen hO hS
end Sq
namespace Sq
open PySem L2 PySem.Spec PyProof.Rows
section
variable {prog : Program} {w : World}
theorem meets_boolO (a : Addr) : MeetsIn prog w (Builtin.«bool.__new__» ⟨[.type "bool", .ref a], []⟩)
    (fun A R s => wpAny (model prog w) A.in1 (truthy (.ref a)) (fun b s1 => R (.ok (.ret (.bool b))) s1) (fun e s1 => R (.error e) s1) s) :=
  MeetsIn.of_wp fun A R s h => by
    have f1 := F.conv_sub_bool
    unfold Builtin.«bool.__new__»
    repeat (any_goals (first | assumption | (with_reducible refine wpAny_bind (wpAny_mono h (fun b s1 hb => ?_) fun _ _ z => z)) | wp_step))
    all_goals exact ⟨_, rfl, hb⟩
end
theorem rel1 (a : Addr) : Vals [V.ref a] [Value.ref a] := .cons rfl .nil
theorem rel2 (a b : Addr) : Vals [V.ref a, V.ref b] [Value.ref a, Value.ref b] := .cons rfl (.cons rfl .nil)
section
variable {X : Cx} {k : Nat} {f C : Addr} {sp : Sp}
/-- a def of the text run below the body -/
theorem run_below {A : Around} {pins : List (Addr × Obj)} {σ : L2.St} {H : Hp} {s : Shared} {Q : VK} {us : List Value} {vs : List V} {E : Value → Shared → Prop} (F : FnR X.prog X.w X.K X.mg X.base CX0 k f sp)
    (hr : Room k A) (fr : A.frames = X.A.frames) (I : Inv X pins σ H s) (r : Vals vs us) (h : sp vs H Q E0) :
    wpAny (model X.prog X.w) A (call (.ref f) us) (EP X pins σ Q) E s := by
  have e := I.env0
  have e1 : Env0 X.prog X.w X.K X.mg X.base A X.stack s H := { frames := fr.trans e.frames, mod := e.mod, bs := e.bs, bsz := e.bsz, funs := e.funs, frf := e.frf, hok := e.hok, bare := e.bare }
  refine wpAny_call (codeAny_mono (F A X.stack s H us vs Q E0 hr e1 r h) fun z s' hz => ?_)
  match z, hz with
  | .error _, hz => exact False.elim hz
  | .ok (.ret _), hz => exact I.after hz
  | .ok .next, hz => exact False.elim hz
  | .ok .brk, hz => exact False.elim hz
  | .ok .cont, hz => exact False.elim hz
/-- bool(o), o an instance of a class of the text that has a __bool__ -/
theorem call_boolO (hs : PySem.W.findIn X.K (.ref C) "__bool__" = some (some (.ref f))) (hf : PySem.W.isFn X.K (.ref f) = true) (F : FnR X.prog X.w X.K X.mg X.base CX0 k f sp) (hr : Room (k + 2) X.A) :
    CallR X (.type "bool") (fun xs H Q => ∃ a dx fs, xs = [.ref a] ∧ H a = some (.ins C dx fs) ∧ sp [.ref a] H (fun v H' => ∃ b, v = .bl b ∧ Q (.bl b) H') E0) := by
  intro pins s σ H xs us Q I r h
  obtain ⟨a, dx, fs, rfl, ha, q⟩ := h
  obtain ⟨u, rfl, r1⟩ := vals1 r
  cases r1
  obtain ⟨mA, J, _⟩ := ins_get I.hok ha
  obtain ⟨od, J, _⟩ := J.look
  obtain ⟨m, hF⟩ := I.fr
  refine callType_newIn PySem.F.called_bool PySem.F.newNe_bool (PySem.F.typeCall_bool_1 _) (PySem.F.newCall_bool_1 _) (fun obj => PySem.F.args_object_init_2 obj _) PySem.F.entry_bool_new (meets_boolO a) ?_
  show wpAny (model X.prog X.w) X.A.in1.in1 (truthy (.ref a)) _ _ s
  refine PySem.W.truthy_K hF I.ok.mod.kin J hs hf ?_
  refine wpAny_mono (run_below F hr.in1.in1 rfl I (rel1 a) q) (fun v s' hv => ?_) fun _ _ z => z
  obtain ⟨y, H', I', ry, b, ey, q'⟩ := hv
  subst ey
  cases ry
  exact ⟨PySem.typeIs_bool _ _, ⟨.bl b, H', I', rfl, q'⟩⟩

def rOwn2 (C : Addr) (sp : Sp) (g : Bool → Bool) : R2 := fun x y H Q => ∃ a b dx dy fs gs, x = .ref a ∧ y = .ref b ∧ H a = some (.ins C dx fs) ∧ H b = some (.ins C dy gs) ∧
  sp [.ref a, .ref b] H (fun v H' => ∃ r, v = .bl r ∧ Q (.bl (g r)) H') E0
/-- a == b, both instances of a class of the text with an __eq__ -/
theorem op_eqO (hs : PySem.W.findIn X.K (.ref C) "__eq__" = some (some (.ref f))) (hf : PySem.W.isFn X.K (.ref f) = true) (F : FnR X.prog X.w X.K X.mg X.base CX0 k f sp) (hr : Room k X.A) :
    OpR X (compareOp .Eq) (rOwn2 C sp id) := by
  intro pins s σ H x y v u Q I rx ry h
  obtain ⟨a, b, dx, dy, fs, gs, rfl, rfl, ha, hb, q⟩ := h
  cases rx
  cases ry
  obtain ⟨mA, J, _⟩ := ins_get I.hok ha
  obtain ⟨mB, J', _⟩ := ins_get I.hok hb
  obtain ⟨od, J, _⟩ := J.look
  obtain ⟨od', J', _⟩ := J'.look
  obtain ⟨m, hF⟩ := I.fr
  show wpAny (model X.prog X.w) X.A (richCompare .Eq (.ref a) (.ref b)) _ _ s
  refine PySem.W.cmp_K (op := .Eq) (tb := .ref C) hr.units0 hF I.ok.mod.kin J J'.type (by simp [PySem.W.notFirst]) hs hf ?_
  refine wpAny_mono (run_below F hr rfl I (rel2 a b) q) (fun v s' hv => ?_) fun _ _ z => z
  obtain ⟨y, H', I', ry, r, ey, q'⟩ := hv
  subst ey
  cases ry
  exact ⟨.bl r, H', I', rfl, q'⟩
end
section
variable {M : Model} {A : Around} {E : Value → Shared → Prop} {s : Shared} {K : PySem.W.Frag} {x C : Addr} {ox : Obj} {od : Option Obj}
/-- a method of object's own that a class of the text inherits -/
theorem ifBound_obj {name : Str} {id : String} {args : List Value} {Q : Option Value → Shared → Prop} (S : Slot "object" name id) (X : K.In s.heap) (I : PySem.W.InstAt s.heap x ox C od)
    (hs : PySem.W.findIn K (.ref C) name = some (some (.builtin id))) (h : wpAny M A (call (.builtin id) (.ref x :: args)) (fun v => Q (some v)) E s) :
    wpAny M A (callSpecialIfBound? (.ref x) name args) Q E s := by
  simp only [callSpecialIfBound?, bindSpecialIfBound?]
  refine wpAny_holding (wpAny_bind (wpAny_bind (wpAny_bind (I.type.here ((PySem.W.looks_findIn X hs).here ?_)))))
  simp only [S.bind]
  refine wpAny_bind (wpAny_askSetting (wpAny_ite ?_))
  have go : wpAny M A (call (.builtin id) ([.ref x] ++ args) >>= fun v => pure (some v)) Q E s := wpAny_bind (wpAny_mono h (fun _ _ q => wpAny_pure q) fun _ _ q => q)
  split
  · exact wpAny_bind (wpAny_pure (wpAny_pure go))
  · exact wpAny_tryCatch (wpAny_bind (wpAny_pure (wpAny_pure go)))
end
section
variable {prog : Program} {w : World} {A : Around} {E : Value → Shared → Prop} {s : Shared} {K : PySem.W.Frag} {x C : Addr} {ox : Obj} {od : Option Obj}
theorem checked_ne {y : Value} {Q : Unit → Shared → Prop} (X : K.In s.heap) (I : PySem.W.InstAt s.heap x ox C od) (ho : PySem.W.subIn K (.ref C) (.type "object") = some true) (h : Q () s) :
    wpAny (model prog w) A (checkBuiltinCall "object.__ne__" ⟨[.ref x, y], []⟩) Q E s := by
  simp only [checkBuiltinCall, F.cmpKind_ne, F.cmpSplit_ne]
  unfold isInstance
  refine wpAny_bind (wpAny_bind (I.type.here ((PySem.W.looks_subIn X ho).here ?_)))
  have z := F.cmpArgs_ne (.ref x) y
  cases hsig : Manifest.signature? "object.__ne__" with
  | none => exact wpAny_pure h
  | some sig =>
    simp only [argsOk, hsig] at z
    have z2 : Bind.checkArgs "object.__ne__" sig ⟨[.ref x, y], []⟩ = pure () := z
    show wpAny _ A (Bind.checkArgs "object.__ne__" sig ⟨[.ref x, y], []⟩) Q E s
    rw [z2]
    exact wpAny_pure h
theorem ne_entry {f : Addr} {y : Value} {Q : PySem.Fin → Shared → Prop} (hu : A.units < cLine) (X : K.In s.heap) (I : PySem.W.InstAt s.heap x ox C od) (hs : PySem.W.findIn K (.ref C) "__eq__" = some (some (.ref f)))
    (hf : PySem.W.isFn K (.ref f) = true) (h : wpAny (model prog w) A (call (.ref f) [.ref x, y]) (fun v s' => ∃ b, v = .bool b ∧ Q (.done (.ret (.bool (!b)))) s') E s) :
    wpAny (model prog w) A (Builtin.«object.__ne__» ⟨[.ref x, y], []⟩) Q E s := by
  unfold Builtin.«object.__ne__»
  repeat (first
    | with_reducible refine wpAny_cRoomFor hu ?_
    | (refine wpAny_bind (m := callSpecialIfBound? (.ref x) (Str.ofString "__eq__") [y])
        (PySem.W.ifBound_K X I hs hf (wpAny_mono h (fun r s' hr => by
          obtain ⟨b, rfl, hq⟩ := hr
          repeat (first | exact hq | exact wpAny_pure hq | (refine wpAny_bind (m := truthy (.bool _)) (wpAny_truthy_bool ?_)) | wp_step)) fun _ _ e => e)))
    | wp_step)
theorem rich_ne {f b : Addr} {Q : Value → Shared → Prop} (hu : A.units + 1 < cLine) (X : K.In s.heap) (I : PySem.W.InstAt s.heap x ox C od) (hb : PySem.W.Looks (model prog w) s.heap (typeOf (.ref b)) (.ref C))
    (hn : PySem.W.findIn K (.ref C) "__ne__" = some (some (.builtin "object.__ne__"))) (ho : PySem.W.subIn K (.ref C) (.type "object") = some true)
    (hs : PySem.W.findIn K (.ref C) "__eq__" = some (some (.ref f))) (hf : PySem.W.isFn K (.ref f) = true)
    (h : wpAny (model prog w) A.in1 (call (.ref f) [.ref x, .ref b]) (fun v s' => ∃ r, v = .bool r ∧ Q (.bool (!r)) s') E s) :
    wpAny (model prog w) A (richCompare .NotEq (.ref x) (.ref b)) Q E s := by
  have one : wpAny (model prog w) A (tryCompare (.ref x) "__ne__" (.ref b)) (fun r s' => ∃ z, r = some (.bool z) ∧ Q (.bool z) s') E s := by
    unfold tryCompare
    refine wpAny_bind (ifBound_obj F.cmp_object.ne X I hn (wpAny_call (codeAny_call_builtin F.cmp_object.ne.plain F.cmpEntry_ne (checked_ne X I ho (ne_entry (A := A.in1) hu X I hs hf (wpAny_mono h (fun v s' hv => ?_) fun _ _ z => z))))))
    obtain ⟨r, rfl, q⟩ := hv
    exact ⟨r, rfl, wpAny_pure ⟨_, rfl, q⟩⟩
  unfold richCompare
  simp only [PySem.oneThing_ref]
  refine wpAny_holding (wpAny_bind (wpAny_cRoomFor (Nat.lt_of_succ_lt hu) ?_))
  rw [cmpInfo_NotEq]
  dsimp only
  refine wpAny_bind (I.type.here (wpAny_bind (hb.here ?_)))
  rw [show (Value.ref C != Value.ref C) = false from by simp]
  simp only [Bool.false_eq_true, if_false]
  refine wpAny_bind (wpAny_pure ?_)
  simp only [Bool.false_eq_true, if_false]
  refine wpAny_bind (wpAny_mono one (fun r s' hz => ?_) fun _ _ z => z)
  obtain ⟨z, rfl, q⟩ := hz
  exact wpAny_pure q
end
section
variable {X : Cx} {k : Nat} {f C : Addr} {sp : Sp}
/-- a != b, by the text's __eq__ alone -/
theorem op_neO (hn : PySem.W.findIn X.K (.ref C) "__ne__" = some (some (.builtin "object.__ne__"))) (ho : PySem.W.subIn X.K (.ref C) (.type "object") = some true)
    (hs : PySem.W.findIn X.K (.ref C) "__eq__" = some (some (.ref f))) (hf : PySem.W.isFn X.K (.ref f) = true) (F : FnR X.prog X.w X.K X.mg X.base CX0 k f sp) (hr : Room (k + 1) X.A) :
    OpR X (compareOp .NotEq) (rOwn2 C sp (!·)) := by
  intro pins s σ H x y v u Q I rx ry h
  obtain ⟨a, b, dx, dy, fs, gs, rfl, rfl, ha, hb, q⟩ := h
  cases rx
  cases ry
  obtain ⟨mA, J, _⟩ := ins_get I.hok ha
  obtain ⟨mB, J', _⟩ := ins_get I.hok hb
  obtain ⟨od, J, _⟩ := J.look
  obtain ⟨od', J', _⟩ := J'.look
  show wpAny (model X.prog X.w) X.A (richCompare .NotEq (.ref a) (.ref b)) _ _ s
  refine rich_ne (hu_of hr) I.kIn J J'.type hn ho hs hf ?_
  refine wpAny_mono (run_below F hr.in1 rfl I (rel2 a b) q) (fun v s' hv => ?_) fun _ _ z => z
  obtain ⟨y, H', I', ry, r, ey, q'⟩ := hv
  subst ey
  cases ry
  exact ⟨r, rfl, .bl (!r), H', I', rfl, q'⟩
end
end Sq
namespace Sq
open PySem L2 PySem.Spec PyProof.Rows
/-- the built-ins that the text calls are still so -/
structure Bt (mg : Str → Option Value) : Prop where
  len : mg "len" = none
  int : mg "int" = none
  abs : mg "abs" = none
  divmod : mg "divmod" = none
  range : mg "range" = none
  isinstance : mg "isinstance" = none
  bool : mg "bool" = none
  tuple : mg "tuple" = none
  str : mg "str" = none
  list : mg "list" = none
  min : mg "min" = none
  max : mg "max" = none
  all : mg "all" = none
  any : mg "any" = none
  sum : mg "sum" = none
  sorted : mg "sorted" = none
  enumerate : mg "enumerate" = none
/-- a promise of a top function, with all that a call of it asks -/
structure FB (P : Program) (w : World) (K : PySem.W.Frag) (mg : Str → Option Value) (base : Heap) (x : Str) (k : Nat) (ps : List Str) (sp : Sp) : Prop where
  ex : ∃ (f : Addr) (fd : FuncData), FnOk P w K mg base CX0 k f fd ps sp ∧ mg x = some (.ref f) ∧ PySem.W.keepIn K (.ref f) = true ∧ Binds K fd ps []
section
variable {X : Cx} {j k : Nat} {x : Str} {p pos : Pos} {e : Expr} {es : List Expr} {t : TA} {ps : List Str} {sp : Sp}
theorem pe_fb (F : FB X.prog X.w X.K X.mg X.base x k ps sp) (hr : Room j X.A) (hk : k ≤ j) (hg : Gl X x) (ha : PA X (e :: es) t) (hdb : (x == ("__debug__" : Str)) = false := by decide)
    (he : starEach (e :: es) X.env = (false, eval e X.env) :: starEach es X.env := by rfl) (hpl : (backTo pos (starEach es X.env)).any (·.1) = false := by rfl) :
    PE X (.Call (.Name x p) (e :: es) [] pos) (tCall sp [] E0 t) := by
  obtain ⟨f, fd, G, hm, kk, b⟩ := F.ex
  exact pe_call G (hr.mono hk) hg hm kk b .nil pass0 ha hdb he hpl
theorem pe_fb0 (F : FB X.prog X.w X.K X.mg X.base x k ps sp) (hr : Room j X.A) (hk : k ≤ j) (hg : Gl X x) (hdb : (x == ("__debug__" : Str)) = false := by decide) :
    PE X (.Call (.Name x p) [] [] pos) (tCall sp [] E0 tNil) := by
  obtain ⟨f, fd, G, hm, kk, b⟩ := F.ex
  exact pe_call0 G (hr.mono hk) hg hm kk b .nil pass0 hdb
end
/-! ### list.count of truths -/
def rCntB (K : PySem.W.Frag) : V → List V → Hp → VK → Prop := fun x xs H Q => ∃ (p : Addr) (bs : List Bool) (k : Bool), x = .ref p ∧ xs = [.bl k] ∧ SqL K H p (bs.map V.bl) ∧ Q (.int (bs.count k : Nat)) H
theorem cnt_bools (k : Bool) : ∀ {bs : List Bool} {vs : List Value}, Vals (bs.map V.bl) vs → vs.countP (isBoolOf k) = bs.count k
  | [], _, h => by cases h; rfl
  | b :: r, _, h => by
    cases h with
    | cons r1 rr =>
      cases r1
      rw [List.countP_cons, List.count_cons, cnt_bools k rr]
      cases b <;> cases k <;> rfl
theorem eq_bools (k : Bool) : ∀ {bs : List Bool} {vs : List Value}, Vals (bs.map V.bl) vs → ∀ y, y ∈ vs → ∀ (A : Around) (s : Shared), PySem.SeqAt.EqAt A s y (.bool k) (isBoolOf k y)
  | [], _, h, y, hy, _, _ => by cases h; cases hy
  | b :: r, _, h, y, hy, A, s => by
    cases h with
    | cons r1 rr =>
      cases r1
      rcases List.mem_cons.mp hy with e | hy
      · rw [e]; exact PySem.SeqAt.EqAt.bool_bool b k
      · exact eq_bools k rr y hy A s
theorem mt_bcount {X : Cx} : MtR X "list.count" (rCntB X.K) := by
  intro pins s σ H x xs v us Q I rx rxs h
  obtain ⟨p, bs, k, rfl, rfl, hs, q⟩ := h
  cases rx
  obtain ⟨u, rfl, ru⟩ := rxs.one
  cases ru
  obtain ⟨its, rv, ⟨⟨cls, dd, data, sl⟩, n, ho, hc, hdn, hd⟩, hlen⟩ := I.list hs
  simp only at hc hd
  subst hc hd
  refine call_meets PySem.F.slot_list_count ⟨_, ho, rfl⟩ PySem.F.entry_list_count (PySem.F.args_list_count_2 _ _)
    (PySem.SeqAt.list_countAt p its.toArray n dd sl (.bool k) (isBoolOf k)) ⟨ho, fun y hy => eq_bools k rv y (by simpa using hy) _ _, ?_⟩
  refine ⟨.int (bs.count k : Nat), H, I.tok _, ⟨s.toks, ?_⟩, q⟩
  rw [show its.toArray.toList = its from rfl, cnt_bools k rv]
/-! ### the draws -/
/-- all but what stands at p is as it was -/
def Off (p : Addr) (H H' : Hp) : Prop := ∀ b o, b ≠ p → H b = some o → H' b = some o
theorem Off.trans {p : Addr} {H H1 H2 : Hp} (a : Off p H H1) (b : Off p H1 H2) : Off p H H2 := fun c o n h => b c o n (a c o n h)
theorem Same.off {p : Addr} {H H1 : Hp} (a : Same H H1) : Off p H H1 := fun c o _ h => a c o h
theorem Off.refl {p : Addr} {H : Hp} : Off p H H := fun _ _ _ h => h
theorem same_new {H : Hp} {p : Addr} {o : HO} (h : H p = none) : Same H (upd H p o) := fun b u e => by
  rw [upd_ne (ne_of_none e h)]
  exact e
def PurlAt (H : Hp) (p : Addr) : Prop := ∃ m d : Int, H p = some (.lst [.int m, .int d])
theorem PurlAt.same {H H' : Hp} {p : Addr} (h : PurlAt H p) (s : Same H H') : PurlAt H' p := by
  obtain ⟨m, d, e⟩ := h
  exact ⟨m, d, s _ _ e⟩
def spPurl (K : PySem.W.Frag) : Sp := fun vs H Q _ => ∃ (a : Addr) (ns : List Int) (k : Nat), vs = [.ref a, .int (k : Int)] ∧ SqL K H a (ns.map V.int) ∧ ns.length ≤ 63 ∧ k ≤ 63 ∧
  ∀ p H', H p = none → PurlAt H' p → Same H H' → Q (.ref p) H'
def spDig : Sp := fun vs H Q _ => ∃ (p : Addr) (k : Int), vs = [.ref p, .int k] ∧ PurlAt H p ∧ 0 < k ∧ k < 1073741824 ∧
  ∀ (r : Int) (H' : Hp), 0 ≤ r → r < k → PurlAt H' p → Off p H H' → Q (.int r) H'
def spFar : Sp := fun vs H Q _ => ∃ p : Addr, vs = [.ref p] ∧ PurlAt H p ∧
  ∀ (r : Int) (H' : Hp), 1 ≤ r → r ≤ 1000000000000000000000000000000 → PurlAt H' p → Off p H H' → Q (.int r) H'
theorem nx_seq {t u : TS} {D' : Ends} {rt : VK} {bk ct : L2.St → Hp → Prop} {σ : L2.St} {H : Hp} (h : t { D' with nx := u D' } σ H) : tNext ⟨tSeq t u D', rt, bk, ct⟩ σ H := h
theorem nx_one {t : TS} {D' : Ends} {rt : VK} {bk ct : L2.St → Hp → Prop} {σ : L2.St} {H : Hp} (h : t D' σ H) : tNext ⟨t D', rt, bk, ct⟩ σ H := h
theorem nm_seq {t u : TS} {D' : Ends} {rt : VK} {bk ct : L2.St → Hp → Prop} {σ : L2.St} {H : Hp} {i : Nat} {v : V} (h : t { D' with nx := u D' } (σ.set i (some v)) H) : gName i v σ H (Ends.nx ⟨tSeq t u D', rt, bk, ct⟩) := h
theorem nm_one {t : TS} {D' : Ends} {rt : VK} {bk ct : L2.St → Hp → Prop} {σ : L2.St} {H : Hp} {i : Nat} {v : V} (h : t D' (σ.set i (some v)) H) : gName i v σ H (Ends.nx ⟨t D', rt, bk, ct⟩) := h
theorem pr_seq {t u : TS} {D' : Ends} {rt : VK} {bk ct : L2.St → Hp → Prop} {σ : L2.St} {H : Hp} (h : t { D' with nx := u D' } σ H) : Ends.nx ⟨tSeq t u D', rt, bk, ct⟩ σ H := h
theorem pr_one {t : TS} {D' : Ends} {rt : VK} {bk ct : L2.St → Hp → Prop} {σ : L2.St} {H : Hp} (h : t D' σ H) : Ends.nx ⟨t D', rt, bk, ct⟩ σ H := h
theorem st_of {t : TS} {D : Ends} {σ : L2.St} {H : Hp} (J : L2.St → Hp → Prop) (h : ∀ D' : Ends, (∀ σ' H', J σ' H' → D'.nx σ' H') → t D' σ H) (k : ∀ σ' H', J σ' H' → D.nx σ' H') : t D σ H := h D k
theorem un65 {k : Nat} {A : Around} (h : Room k A) : A.units + 65 < cLine := by
  have := h.un
  omega
theorem gen_of {t : TE} {σ : L2.St} {H : Hp} {Q : VK} (J : V → Hp → Prop) (h : ∀ Q' : VK, (∀ v H', J v H' → Q' v H') → t σ H Q') (k : ∀ v H', J v H' → Q v H') : t σ H Q := h Q k
theorem un1 {k : Nat} {A : Around} (h : Room k A) : A.units + 1 < cLine := by
  have := h.un
  omega
theorem un3 {k : Nat} {A : Around} (h : Room k A) : A.units + 3 < cLine := by
  have := h.un
  omega
theorem nm_q {i : Nat} {v : V} {σ : L2.St} {H : Hp} {Q : L2.St → Hp → Prop} (h : Q (σ.set i (some v)) H) : gName i v σ H Q := h
theorem sq_ {t u : TS} {D : Ends} {σ : L2.St} {H : Hp} (h : t { D with nx := u D } σ H) : tSeq t u D σ H := h
theorem if_ {tc : TT} {t u : TS} {D : Ends} {σ : L2.St} {H : Hp} (h : tc σ H fun b H1 => if b = true then t D σ H1 else u D σ H1) : tIfS tc t u D σ H := h
theorem asg_ {te : TE} {g : TG} {D : Ends} {σ : L2.St} {H : Hp} (h : te σ H fun x H1 => g x σ H1 D.nx) : tAsg te g D σ H := h
theorem ret_ {te : TE} {D : Ends} {σ : L2.St} {H : Hp} (h : te σ H D.rt) : tRet te D σ H := h
theorem val_of {t : TE} {σ : L2.St} {H : Hp} {Q : VK} (v : V) (h : ∀ Q' : VK, Q' v H → t σ H Q') (k : Q v H) : t σ H Q := h Q k
theorem valS_of {t : TE} {σ : L2.St} {H : Hp} {Q : VK} (v : V) (h : ∀ Q' : VK, (∀ H', Same H H' → Q' v H') → t σ H Q') (k : ∀ H', Same H H' → Q v H') : t σ H Q := h Q k
theorem tst_of {t : TT} {σ : L2.St} {H : Hp} {Q : Bool → Hp → Prop} (b : Bool) (h : ∀ Q' : Bool → Hp → Prop, (∀ H', Same H H' → Q' b H') → t σ H Q') (k : ∀ H', Same H H' → Q b H') : t σ H Q := h Q k
theorem sp_eta (sp : Sp) : (fun vs H Q E => sp (vs ++ []) H Q E) = sp := by
  funext vs H Q E
  rw [List.append_nil]
theorem FnOk.asR {P : Program} {w : World} {K : PySem.W.Frag} {mg : Str → Option Value} {base : Heap} {CX : CXT} {k : Nat} {f : Addr} {fd : FuncData} {ps : List Str} {sp : Sp} (F : FnOk P w K mg base CX k f fd ps sp) (b : Binds K fd ps []) : FnR P w K mg base CX k f sp := by
  have z := FnOk.raw F b (dvs := []) .nil
  rw [sp_eta] at z
  exact z
def spRight : Sp := fun vs H Q _ => ∃ p : Addr, vs = [.ref p] ∧ PurlAt H p ∧ ∀ H', Off p H H' → Q (.bl true) H'
def spLaw (K : PySem.W.Frag) : Sp := fun vs H Q _ => ∃ (a : Addr) (ns : List Int), vs = [.ref a] ∧ SqL K H a (ns.map V.int) ∧ ns.length ≤ 63 ∧ ∀ H', Q (.bl true) H'
end Sq
namespace Sq
open PySem L2 TL
def top (i : Nat) : Stmt := PySem.Challenge.pw_squareloops_k26_kinds_of_tables.main.body.getD i (.Pass ⟨0, 0, 0, 0⟩)
section
variable {P : Program} {w : World} {K : PySem.W.Frag} {mg : Str → Option Value} {base : Heap}
abbrev s__law_purl : Stmt := top 20
theorem sc__law_purl : FnScope ["_law_script", "_law_spot", "_law_mixed", "_law_cell", "_law_own"] ["_law_script", "_law_spot"] (defScope s__law_purl) := ⟨rfl, rfl, rfl, by decide +kernel, rfl, by decide +kernel, by decide +kernel⟩
theorem ok__law_purl {f : Addr} {fd : FuncData} (F : Fun K "_law_purl" "_law_purl" s__law_purl f fd) (T : Bt mg)  : FnOk P w K mg base CX0 1 f fd ["_law_script", "_law_spot"] (spPurl K) := by
  refine F.ok sc__law_purl (fun vs H Q E h => ?_) (fun cdv A outer s H vs Q E hr h => ?_)
  · obtain ⟨a, ns, k, rfl, _⟩ := h
    rfl
  · obtain ⟨a, ns, k, rfl, hS, hl, k1, q⟩ := h
    refine ⟨_, (pss_cons (ps_set (i := 2) sc__law_purl.nd rfl (by first | exact .inl rfl | exact .inr rfl) (pe_op op_add pe_int (pe_op op_mul pe_int (pv 1))))
        (pss_cons (ps_for PassesOwn.never rfl (pi_list (pe_op op_cat (pe_slice sl_list (pv 0) po_none (po_some pe_int)) (pe_slice sl_list (pv 0) (po_some (pv 1)) (po_some (pe_op op_add (pv 1) pe_int))))) (pg_name (i := 3) sc__law_purl.nd rfl (by first | exact .inl rfl | exact .inr rfl))
        (pss_one (ps_set (i := 2) sc__law_purl.nd rfl (by first | exact .inl rfl | exact .inr rfl) (pe_op op_mod (pe_callTy call_int1 (by rfl) T.int (by decide +kernel) (pa_cons (pe_op op_add (pe_op op_add (pe_op op_mul (pv 2) pe_int) (pv 3)) pe_int) pa_nil)) pe_int))))
        (pss_cons (ps_set (i := 4) sc__law_purl.nd rfl (by first | exact .inl rfl | exact .inr rfl) (pe_ifExp (pt_cmpR op_lt (pv 1) (pe_callB call_len_seq (by rfl) T.len PySem.boot_len (pa_cons (pv 0) pa_nil)) (nomark _)) (pe_ix ix_list (pv 0) (pv 1) (fun _ _ => rfl)) pe_int))
        (pss_one (ps_ret (pe_lst (pa_cons (pv 2) (pa_cons (pe_ifExp (pt_cmpR op_ge (pe_callB call_abs (by rfl) T.abs (by decide +kernel) (pa_cons (pv 4) pa_nil)) (pe_op op_pow pe_int pe_int) (nomark _)) (pe_callB call_abs (by rfl) T.abs (by decide +kernel) (pa_cons (pv 4) pa_nil)) pe_int) pa_nil)))))))), ?_⟩
    refine ⟨_, rfl, _, _, rfl, rfl, .inl ⟨by decide, by decide⟩, _, _, rfl, rfl, ?_⟩
    refine ⟨_, rfl, _, rfl, a, _, rfl, hS, fun p np => ?_⟩
    have s1 := same_new (o := .lst (cutV (ns.map V.int) none (some 2))) np
    refine ⟨_, rfl, _, rfl, _, rfl, _, rfl, _, _, rfl, rfl, _, rfl, a, _, rfl, hS.ext s1, fun p2 np2 => ?_⟩
    have s2 := same_new (o := .lst (cutV (ns.map V.int) (some (k : Int)) (some ((k : Int) + 1)))) np2
    refine ⟨p, p2, _, _, rfl, rfl, s2 _ _ upd_same, upd_same, ?_, fun p3 np3 => ?_⟩
    · have h1 := cutV_length (ns.map V.int) none (some 2)
      have h2 := cutV_length (ns.map V.int) (some (k : Int)) (some ((k : Int) + 1))
      rw [List.length_map] at h1 h2
      have h3 : (126 : Nat) ≤ sizeLine := by decide
      omega
    have s3 := same_new (o := .lst (cutV (ns.map V.int) none (some 2) ++ cutV (ns.map V.int) (some (k : Int)) (some ((k : Int) + 1)))) np3
    have sm := (s1.trans s2).trans s3
    have allI : ∀ x ∈ cutV (ns.map V.int) none (some 2) ++ cutV (ns.map V.int) (some (k : Int)) (some ((k : Int) + 1)), ∃ i, x = V.int i := fun x hx => by
      have h0 : x ∈ ns.map V.int := by
        rcases List.mem_append.mp hx with hx | hx
        · unfold cutV at hx
          exact List.mem_of_mem_drop (List.mem_of_mem_take hx)
        · unfold cutV at hx
          exact List.mem_of_mem_drop (List.mem_of_mem_take hx)
      obtain ⟨i, _, e⟩ := List.mem_map.mp h0
      exact ⟨i, e.symm⟩
    refine ⟨p3, rfl, ⟨_, SqL.of upd_same⟩, ?_⟩
    refine for_list (K := K) (a := p3) (xs := cutV (ns.map V.int) none (some 2) ++ cutV (ns.map V.int) (some (k : Int)) (some ((k : Int) + 1))) (fun _ σ H' => (∃ m v v2, σ = [some (.ref a), some (.int (k : Int)), some (.int m), v, v2]) ∧ Same H H' ∧ H' p3 = some (.lst (cutV (ns.map V.int) none (some 2) ++ cutV (ns.map V.int) (some (k : Int)) (some ((k : Int) + 1)))))
      ⟨⟨_, _, _, rfl⟩, sm, upd_same⟩ (fun i σ H' _ h => SqL.of h.2.2) (fun i x σ H' hx h => ?_) (fun σ H' h => ?_)
    · obtain ⟨⟨m, v, v2, rfl⟩, sh, hp3⟩ := h
      obtain ⟨z, rfl⟩ := allI x (List.mem_of_getElem? hx)
      refine ⟨_, rfl, _, _, rfl, rfl, .inr ⟨by decide, by decide⟩, _, rfl, _, _, rfl, rfl, _, _, rfl, rfl, .inl ⟨_, rfl, _, _, rfl, rfl, (by show (0 : Int) < 2147483629; decide), ?_⟩⟩
      exact ⟨⟨_, _, _, rfl⟩, sh, hp3⟩
    · obtain ⟨⟨m, v, v2, rfl⟩, sh, hp3⟩ := h
      have fin : ∀ n : Int, ∀ p, H' p = none → Q (.ref p) (upd H' p (.lst [.int m, .int n])) := fun n p np => q _ _ (by
        cases e : H p with
        | none => rfl
        | some o => rw [sh _ _ e] at np; cases np) ⟨m, n, upd_same⟩ (sh.trans (same_new np))
      have last : ∀ j : Int, (∃ i, V.int j = V.int i ∧ ∃ i' j', V.int (if i < 0 then -i else i) = V.int i' ∧ V.int ((10 : Int) ^ (18 : Int).toNat) = V.int j' ∧ True) := fun j => ⟨_, rfl, _, _, rfl, rfl, trivial⟩
      have own : ∀ j : Int, tLst (tCons (tVar 2) (tCons (tIf (tTest (tOp (rI0 fun i j => .bl (decide (j ≤ i))) (tCB (fun xs H Q => ∃ i, xs = [.int i] ∧ Q (.int (if i < 0 then -i else i)) H) (tCons (tVar 4) tNil)) (tOp (rI CPow fun i j => .int (i ^ j.toNat)) (tC (.int 10)) (tC (.int 18)))))
          (tCB (fun xs H Q => ∃ i, xs = [.int i] ∧ Q (.int (if i < 0 then -i else i)) H) (tCons (tVar 4) tNil)) (tC (.int 0))) tNil)) [some (.ref a), some (.int (k : Int)), some (.int m), v, some (.int j)] H' Q := fun j => by
        refine ⟨_, rfl, _, rfl, _, rfl, _, _, rfl, rfl, ⟨by decide, by decide, by decide⟩, _, _, rfl, rfl, _, rfl, ?_⟩
        refine ite2 (fun _ => ?_) (fun _ => ?_)
        · exact ⟨_, rfl, _, rfl, (by show 2 ≤ sizeLine; decide), fun p np => fin _ p np⟩
        · exact ⟨(by show 2 ≤ sizeLine; decide), fun p np => fin _ p np⟩
      refine ⟨_, rfl, _, rfl, a, _, rfl, .inl (hS.ext sh), _, _, rfl, rfl, _, rfl, ?_⟩
      rw [List.length_map]
      refine ite2 (fun hk => ?_) (fun hk => ?_)
      · have hlt : k < ns.length := Int.ofNat_lt.mp (of_decide_eq_true hk)
        refine ⟨_, rfl, _, rfl, a, _, _, _, rfl, rfl, hS.ext sh, atI_nat (by rw [List.getElem?_map, List.getElem?_eq_getElem hlt]; rfl), ?_⟩
        exact own _
      · exact own _
abbrev s__law_dig : Stmt := top 21
theorem sc__law_dig : FnScope ["_law_purl_here", "_law_many", "_law_digit"] ["_law_purl_here", "_law_many"] (defScope s__law_dig) := ⟨rfl, rfl, rfl, by decide +kernel, rfl, by decide +kernel, by decide +kernel⟩
theorem ok__law_dig {f : Addr} {fd : FuncData} (F : Fun K "_law_dig" "_law_dig" s__law_dig f fd) (T : Bt mg)  : FnOk P w K mg base CX0 1 f fd ["_law_purl_here", "_law_many"] spDig := by
  refine F.ok sc__law_dig (fun vs H Q E h => ?_) (fun cdv A outer s H vs Q E hr h => ?_)
  · obtain ⟨p, k, rfl, _⟩ := h
    rfl
  · obtain ⟨p, k, rfl, ⟨m, d, hp⟩, k0, k1, q⟩ := h
    refine ⟨_, (pss_cons (ps_if (pt_cmpR op_gt (pe_ix ix_list (pv 0) pe_int (fun _ _ => rfl)) pe_int (nomark _))
        (pss_cons (ps_asg (pe_callB call_divmod (by rfl) T.divmod (by decide +kernel) (pa_cons (pe_ix ix_list (pv 0) pe_int (fun _ _ => rfl)) (pa_cons (pv 1) pa_nil))) (pg_tup (by rfl) (pgs_cons (pg_sub (pv 0) pe_int set_list) (pgs_cons (pg_name (i := 2) sc__law_dig.nd rfl (by first | exact .inl rfl | exact .inr rfl)) pgs_nil))))
        (pss_one (ps_ret (pv 2))))
        pss_nil)
        (pss_cons (ps_asg (pe_op op_mod (pe_callTy call_int1 (by rfl) T.int (by decide +kernel) (pa_cons (pe_op op_add (pe_op op_mul (pe_ix ix_list (pv 0) pe_int (fun _ _ => rfl)) pe_int) pe_int) pa_nil)) pe_int) (pg_sub (pv 0) pe_int set_list))
        (pss_one (ps_ret (pe_op op_mod (pe_callTy call_int1 (by rfl) T.int (by decide +kernel) (pa_cons (pe_op op_fdiv (pe_ix ix_list (pv 0) pe_int (fun _ _ => rfl)) pe_int) pa_nil)) (pv 1)))))), ?_⟩
    refine ⟨_, rfl, p, _, 1, _, rfl, rfl, SqL.of hp, rfl, _, _, rfl, rfl, _, rfl, ?_⟩
    refine ite2 (fun hd => ?_) (fun hd => ?_)
    · refine ⟨_, rfl, p, _, 1, _, rfl, rfl, SqL.of hp, rfl, _, rfl, d, k, rfl, ⟨k0, k1⟩, fun t nt => ?_⟩
      have ntp : p ≠ t := fun e => by
        rw [← e, hp] at nt
        cases nt
      refine ⟨t, _, rfl, SqT.of upd_same, rfl, _, _, rfl, _, rfl, p, _, 1, 1, rfl, rfl, (by rw [upd_ne ntp]; exact hp), rfl, _, _, rfl, rfl, _, rfl, ?_⟩
      refine q _ _ (Int.emod_nonneg _ (by omega)) (Int.emod_lt_of_pos _ k0) ⟨_, _, upd_same⟩ fun b o hb e => ?_
      have nbt : b ≠ t := fun z => by
        rw [← z, e] at nt
        cases nt
      rw [upd_ne hb, upd_ne nbt]
      exact e
    · refine ⟨_, rfl, p, _, 0, _, rfl, rfl, SqL.of hp, rfl, _, _, rfl, rfl, .inr ⟨by decide, by decide⟩, _, _, rfl, rfl, .inl ⟨_, rfl, _, _, rfl, rfl, (by show (0 : Int) < 2147483629; decide), ?_⟩⟩
      refine ⟨_, rfl, p, _, 0, 0, rfl, rfl, hp, rfl, ?_⟩
      refine ⟨_, rfl, p, _, 0, _, rfl, rfl, SqL.of upd_same, rfl, _, _, rfl, rfl, ⟨by decide, by decide⟩, .inl ⟨_, rfl, _, rfl, _, _, rfl, rfl, k0, ?_⟩⟩
      exact q _ _ (Int.emod_nonneg _ (by omega)) (Int.emod_lt_of_pos _ k0) ⟨_, _, upd_same⟩ fun b o hb e => by rw [upd_ne hb]; exact e
abbrev s__law_far : Stmt := top 22
theorem sc__law_far : FnScope ["_law_purl_here", "_law_figures", "_law_found", "_law_k"] ["_law_purl_here"] (defScope s__law_far) := ⟨rfl, rfl, rfl, by decide +kernel, rfl, by decide +kernel, by decide +kernel⟩
theorem ok__law_far {f : Addr} {fd : FuncData} (F : Fun K "_law_far" "_law_far" s__law_far f fd) (T : Bt mg) (G__law_dig : FB P w K mg base "_law_dig" 1 ["_law_purl_here", "_law_many"] spDig) : FnOk P w K mg base CX0 2 f fd ["_law_purl_here"] spFar := by
  refine F.ok sc__law_far (fun vs H Q E h => ?_) (fun cdv A outer s H vs Q E hr h => ?_)
  · obtain ⟨p, rfl, _⟩ := h
    rfl
  · obtain ⟨p, rfl, hp, q⟩ := h
    refine ⟨_, (pss_cons (ps_if (pt_cmpR op_eq (pe_fb G__law_dig hr (by decide) (by rfl) (pa_cons (pv 0) (pa_cons pe_int pa_nil))) pe_int (nomark _))
        (pss_one (ps_ret (pe_op op_add pe_int (pe_fb G__law_dig hr (by decide) (by rfl) (pa_cons (pv 0) (pa_cons pe_int pa_nil))))))
        pss_nil)
        (pss_cons (ps_par (i := 1) (j := 2) (by rfl) sc__law_far.nd rfl rfl (by decide) rfl rfl (pa_cons (pe_op op_add pe_int (pe_fb G__law_dig hr (by decide) (by rfl) (pa_cons (pv 0) (pa_cons pe_int pa_nil)))) (pa_cons pe_int pa_nil)) (by rfl))
        (pss_cons (ps_for PassesOwn.never rfl (pi_range1 (by rfl) T.range (pa_cons (pv 1) pa_nil)) (pg_name (i := 3) sc__law_far.nd rfl (by first | exact .inl rfl | exact .inr rfl))
        (pss_one (ps_set (i := 2) sc__law_far.nd rfl (by first | exact .inl rfl | exact .inr rfl) (pe_op op_add (pe_op op_mul (pv 2) pe_int) (pe_fb G__law_dig hr (by decide) (by rfl) (pa_cons (pv 0) (pa_cons pe_int pa_nil)))))))
        (pss_one (ps_ret (pe_op op_add pe_int (pe_op op_mod (pe_callTy call_int1 (by rfl) T.int (by decide +kernel) (pa_cons (pv 2) pa_nil)) (pe_op op_pow pe_int pe_int)))))))), ?_⟩
    refine ⟨_, rfl, p, 3, rfl, hp, by decide, by decide, fun r H1 r0 r1 hp1 o1 => ?_⟩
    refine ⟨rfl, _, rfl, ?_⟩
    refine ite2 (fun _ => ?_) (fun _ => ?_)
    · refine ⟨_, rfl, p, 13, rfl, hp1, by decide, by decide, fun r2 H2 r20 r21 hp2 o2 => ?_⟩
      refine ⟨_, _, rfl, rfl, ?_⟩
      exact q _ _ (by omega) (by omega) hp2 (o1.trans o2)
    · refine ⟨_, rfl, p, 29, rfl, hp1, by decide, by decide, fun r2 H2 r20 r21 hp2 o2 => ?_⟩
      refine ⟨_, _, rfl, rfl, _, _, rfl, ?_⟩
      have ez : (2 + r2).toNat ≤ 30 := by omega
      refine ⟨_, rfl, _, rfl, (by omega), (by omega), ?_⟩
      refine for_range (n := (2 + r2).toNat) (fun _ σ H' => (∃ m v, σ = [some (.ref p), some (.int (2 + r2)), some (.int m), v]) ∧ PurlAt H' p ∧ Off p H H') ⟨⟨_, _, rfl⟩, hp2, o1.trans o2⟩ (fun i σ H' _ h => ?_) (fun σ H' h => ?_)
      · obtain ⟨⟨m, v, rfl⟩, hq, off⟩ := h
        refine ⟨_, rfl, _, _, rfl, rfl, .inr ⟨by decide, by decide⟩, ?_⟩
        refine ⟨_, rfl, p, 10, rfl, hq, by decide, by decide, fun r3 H3 _ _ hp3 o3 => ?_⟩
        refine ⟨_, _, rfl, rfl, ?_⟩
        exact ⟨⟨_, _, rfl⟩, hp3, off.trans o3⟩
      · obtain ⟨⟨m, v, rfl⟩, hq, off⟩ := h
        refine ⟨_, rfl, .inl ⟨_, rfl, _, _, rfl, rfl, ⟨by decide, by decide, by decide⟩, ?_⟩⟩
        have e30 : ((10 : Int) ^ (30 : Int).toNat) = 1000000000000000000000000000000 := by decide
        refine ⟨_, (1000000000000000000000000000000 : Int), rfl, congrArg V.int e30, (by show (0 : Int) < 1000000000000000000000000000000; decide), _, _, rfl, rfl, ?_⟩
        have h1 := Int.emod_nonneg m (show (1000000000000000000000000000000 : Int) ≠ 0 by decide)
        have h2 := Int.emod_lt_of_pos m (show (0 : Int) < 1000000000000000000000000000000 by decide)
        exact q _ _ (by omega) (by omega) hq off
end
end Sq
namespace Sq
open PySem L2
/-! ### numbers of orbits -/
def big : Int := 1000000000000000000000000000000
def leastN (a b c : Int) : Int := 2 * a + 2 * b + c + 1
def waysN (p : Nat) (t : Int) : Int := if p = 0 then (if t = 0 then 1 else 0) else if p = 1 then 1 else if p = 2 then t + 1 else (t + 1) * (t + 2) / 2
def openN (a b : Int) : Nat := [decide (a = 1), decide (b = 2)].count true
def grpN (n a b c : Int) : Int := if n - leastN a b c < 0 then 0 else if c = 3 then waysN (openN a b + 1) ((n - leastN a b c) / 2) else if (n - leastN a b c) % 2 = 0 then waysN (openN a b) ((n - leastN a b c) / 2) else 0
def imgN (b c : Int) : Int := if b = 0 ∧ c = 0 then 1 else if b = 0 ∨ c = 0 then 4 else 8
def cntN (n a b c : Int) : Int := grpN n a b c * imgN b c
theorem openN_le (a b : Int) : openN a b ≤ 2 := by
  unfold openN
  exact Nat.le_trans List.count_le_length (by simp)
/-! ### what the functions promise -/
def spWhole : Sp := fun vs H Q _ => ∃ n : Int, vs = [.int n] ∧ Q (.bl true) H
def spWithin : Sp := fun vs H Q _ => ∃ n a b : Int, vs = [.int n, .int a, .int b] ∧ Q (.bl (decide (a ≤ n) && decide (n ≤ b))) H
def spSize : Sp := fun vs H Q _ => ∃ n : Int, vs = [.int n] ∧ 1 ≤ n ∧ n ≤ big ∧ Q .non H
def KindAt (H : Hp) (t : Addr) (a b c : Int) : Prop := H t = some (.tup [.int a, .int b, .int c])
def KindR (a b c : Int) : Prop := (0 ≤ a ∧ a ≤ 1) ∧ (0 ≤ b ∧ b ≤ 2) ∧ (0 ≤ c ∧ c ≤ 3)
def spIsKind : Sp := fun vs H Q _ => ∃ (t : Addr) (a b c : Int), vs = [.ref t] ∧ KindAt H t a b c ∧ KindR a b c ∧ Q (.bl true) H
def spLeast : Sp := fun vs H Q _ => ∃ (t : Addr) (a b c : Int), vs = [.ref t] ∧ KindAt H t a b c ∧ Q (.int (leastN a b c)) H
def spImgN : Sp := fun vs H Q _ => ∃ (t : Addr) (a b c : Int), vs = [.ref t] ∧ KindAt H t a b c ∧ Q (.int (imgN b c)) H
def spWays : Sp := fun vs H Q _ => ∃ (p : Nat) (t : Int), vs = [.int (p : Int), .int t] ∧ 0 ≤ t ∧ t ≤ big ∧ Q (.int (waysN p t)) H
def spGroup : Sp := fun vs H Q _ => ∃ (n : Int) (t : Addr) (a b c : Int), vs = [.int n, .ref t] ∧ KindAt H t a b c ∧ KindR a b c ∧ n ≤ big ∧ ∀ H', Same H H' → Q (.int (grpN n a b c)) H'
def spCount : Sp := fun vs H Q _ => ∃ (n : Int) (t : Addr) (a b c : Int), vs = [.int n, .ref t] ∧ KindAt H t a b c ∧ KindR a b c ∧ 1 ≤ n ∧ n ≤ big ∧ ∀ H', Same H H' → Q (.int (cntN n a b c)) H'
end Sq
namespace Sq
open PySem L2 PySem.Spec PyProof.Rows
/-! ### x is not True, x is not False -/
def plainV : V → Bool
  | .int _ => true
  | .str _ => true
  | .non => true
  | .bl _ => true
  | .ref _ => true
  | _ => false
def rNotTF : R2 := fun x y H Q => ∃ b, y = .bl b ∧ plainV x = true ∧ Q (.bl (!decide (x = .bl b))) H
theorem op_notTF {X : Cx} : OpR X (compareOp .IsNot) rNotTF := by
  intro pins s σ H x y v u Q I rx ry h
  obtain ⟨b, rfl, pv, q⟩ := h
  cases (show u = Value.bool b from ry)
  cases x with
  | int n =>
    obtain ⟨t, rfl⟩ := rx
    exact wpAny_isNot_other rfl (fun z => nomatch z) ⟨.bl true, H, I, rfl, by simpa using q⟩
  | str n =>
    obtain ⟨t, rfl⟩ := rx
    exact wpAny_isNot_other rfl (fun z => nomatch z) ⟨.bl true, H, I, rfl, by simpa using q⟩
  | non =>
    cases rx
    exact wpAny_isNot_other rfl (fun z => nomatch z) ⟨.bl true, H, I, rfl, by simpa using q⟩
  | ref a =>
    cases rx
    exact wpAny_isNot_other rfl (fun z => nomatch z) ⟨.bl true, H, I, rfl, by simpa using q⟩
  | bl a =>
    cases (show v = Value.bool a from rx)
    by_cases e : a = b
    · subst e
      exact wpAny_isNot_self rfl ⟨.bl false, H, I, rfl, by simpa using q⟩
    · exact wpAny_isNot_other rfl (fun z => e (Value.bool.inj z)) ⟨.bl true, H, I, rfl, by simpa [e] using q⟩
  | _ => cases pv
end Sq
namespace Sq
open PySem L2
def rowS (n : Int) (b : Nat) : Nat → Int
  | 0 => 0
  | c + 1 => rowS n b c + cntN n 0 (b : Int) (c : Int)
def allS (n : Int) : Nat → Int
  | 0 => 0
  | b + 1 => allS n b + rowS n b 4
theorem tri (t : Int) : (t + 1) * (t + 2) / 2 = t * (t + 1) / 2 + (t + 1) := by
  have e : (t + 1) * (t + 2) = t * (t + 1) + (t + 1) * 2 := by
    rw [Int.mul_comm t (t + 1), ← Int.mul_add]
  rw [e]
  omega
theorem ring (n : Int) (hn : 1 ≤ n) (b c : Nat) (hb : b < 3) (hc : c < 4) : cntN (n + 2) 1 b c = cntN n 0 b c + cntN n 1 b c := by
  have hb' : b = 0 ∨ b = 1 ∨ b = 2 := by omega
  have hc' : c = 0 ∨ c = 1 ∨ c = 2 ∨ c = 3 := by omega
  have key : grpN (n + 2) 1 b c = grpN n 0 b c + grpN n 1 b c := by
    rcases hb' with rfl | rfl | rfl <;> rcases hc' with rfl | rfl | rfl | rfl
    all_goals unfold grpN leastN waysN openN
    all_goals simp [-Int.reduceNeg, List.count_cons]
    all_goals try (repeat' split) <;> omega
    by_cases h8 : n - 8 < 0
    · rw [if_pos (by omega), if_pos h8, if_pos (by omega)]
      rfl
    rw [if_neg (by omega), if_neg h8]
    by_cases h10 : n - 10 < 0
    · rw [if_pos h10]
      have h : n = 8 ∨ n = 9 := by omega
      rcases h with rfl | rfl <;> decide
    rw [if_neg h10]
    have e1 : (n + 2 - 10) / 2 = (n - 10) / 2 + 1 := by omega
    have e2 : (n - 8) / 2 = (n - 10) / 2 + 1 := by omega
    rw [e1, e2]
    have t := tri ((n - 10) / 2 + 1)
    have e3 : (n - 10) / 2 + 1 + 1 = (n - 10) / 2 + 2 := by omega
    rw [t, e3]
    omega
  unfold cntN
  rw [key, Int.add_mul]
theorem at_big {n : Int} (h : 9 ≤ n) : cntN n 0 0 0 = 0 ∧ cntN n 0 0 1 = 0 ∧ cntN n 0 0 2 = 0 ∧ cntN n 0 0 3 = 4 ∧ cntN n 0 1 0 = 0 ∧ cntN n 0 1 1 = 0 ∧ cntN n 0 1 2 = 0 ∧ cntN n 0 1 3 = 8 ∧
    cntN n 0 2 0 = (if n % 2 = 1 then 4 else 0) ∧ cntN n 0 2 1 = (if n % 2 = 1 then 0 else 8) ∧ cntN n 0 2 2 = (if n % 2 = 1 then 8 else 0) ∧ cntN n 0 2 3 = ((n - 8) / 2 + 1) * 8 := by
  unfold cntN grpN leastN waysN openN imgN
  simp
  refine ⟨?_, ?_, ?_, ?_, ?_, ?_, ?_, ?_, ?_, ?_, ?_, ?_⟩
  all_goals (repeat' split) <;> omega
theorem small_of {n : Int} (h1 : 1 ≤ n) (h2 : n < 9) : n = 1 ∨ n = 2 ∨ n = 3 ∨ n = 4 ∨ n = 5 ∨ n = 6 ∨ n = 7 ∨ n = 8 := by omega
theorem border (n : Int) (hn : 1 ≤ n) : allS n 3 = if 1 < n then 4 * n - 4 else 1 := by
  by_cases h : n < 9
  · rcases small_of hn h with rfl | rfl | rfl | rfl | rfl | rfl | rfl | rfl <;> decide
  · obtain ⟨h1, h2, h3, h4, h5, h6, h7, h8, h9, h10, h11, h12⟩ := at_big (n := n) (by omega)
    show 0 + (0 + cntN n 0 0 0 + cntN n 0 0 1 + cntN n 0 0 2 + cntN n 0 0 3) + (0 + cntN n 0 1 0 + cntN n 0 1 1 + cntN n 0 1 2 + cntN n 0 1 3) + (0 + cntN n 0 2 0 + cntN n 0 2 1 + cntN n 0 2 2 + cntN n 0 2 3) = _
    rw [h1, h2, h3, h4, h5, h6, h7, h8, h9, h10, h11, h12]
    split <;> split <;> omega
theorem c003 {n : Int} (h : 3 < n) : cntN n 0 0 3 = 4 := by
  by_cases g : n < 9
  · rcases small_of (by omega) g with rfl | rfl | rfl | rfl | rfl | rfl | rfl | rfl <;> first | decide | omega
  · exact (at_big (by omega)).2.2.2.1
theorem c020 {n : Int} (h : 4 < n) : cntN n 0 2 0 = if n % 2 = 1 then 4 else 0 := by
  by_cases g : n < 9
  · rcases small_of (by omega) g with rfl | rfl | rfl | rfl | rfl | rfl | rfl | rfl <;> first | decide | omega
  · exact (at_big (by omega)).2.2.2.2.2.2.2.2.1
theorem c021 {n : Int} (h : 8 ≤ n) : cntN n 0 2 1 = if n % 2 = 1 then 0 else 8 := by
  by_cases g : n < 9
  · rcases small_of (by omega) g with rfl | rfl | rfl | rfl | rfl | rfl | rfl | rfl <;> first | decide | omega
  · exact (at_big (by omega)).2.2.2.2.2.2.2.2.2.1
theorem c022 {n : Int} (h : 8 ≤ n) : cntN n 0 2 2 = if n % 2 = 1 then 8 else 0 := by
  by_cases g : n < 9
  · rcases small_of (by omega) g with rfl | rfl | rfl | rfl | rfl | rfl | rfl | rfl <;> first | decide | omega
  · exact (at_big (by omega)).2.2.2.2.2.2.2.2.2.2.1
theorem c013 {n : Int} (h : 8 ≤ n) : cntN n 0 1 3 = 8 := by
  by_cases g : n < 9
  · rcases small_of (by omega) g with rfl | rfl | rfl | rfl | rfl | rfl | rfl | rfl <;> first | decide | omega
  · exact (at_big (by omega)).2.2.2.2.2.2.2.1
end Sq
namespace Sq
open PySem L2
abbrev Cell := Int × Int
def lexlt (a b : Cell) : Prop := a.1 < b.1 ∨ (a.1 = b.1 ∧ a.2 < b.2)
def lexle (a b : Cell) : Prop := a.1 < b.1 ∨ (a.1 = b.1 ∧ a.2 ≤ b.2)
def cells8 (n r c : Int) : List Cell := [(r, c), (c, r), (r, n - 1 - c), (n - 1 - c, r), (n - 1 - r, c), (c, n - 1 - r), (n - 1 - r, n - 1 - c), (n - 1 - c, n - 1 - r)]
def InN (n : Int) (q : Cell) : Prop := (0 ≤ q.1 ∧ q.1 < n) ∧ (0 ≤ q.2 ∧ q.2 < n)
theorem cells8_in {n r c : Int} (h : InN n (r, c)) : ∀ q ∈ cells8 n r c, InN n q := by
  obtain ⟨⟨h1, h2⟩, h3, h4⟩ := h
  simp only at h1 h2 h3 h4
  intro q hq
  unfold cells8 at hq
  simp only [List.mem_cons, List.not_mem_nil, or_false] at hq
  rcases hq with rfl | rfl | rfl | rfl | rfl | rfl | rfl | rfl <;> exact ⟨⟨by simp only; omega, by simp only; omega⟩, by simp only; omega, by simp only; omega⟩
/-- the cells L stand at their places -/
def PL (H : Hp) (L : List (Addr × Cell)) : Prop := ∀ q ∈ L, H q.1 = some (.tup [.int q.2.1, .int q.2.2])
def refs (L : List (Addr × Cell)) : List V := L.map fun q => V.ref q.1
theorem PL.same {H H' : Hp} {L : List (Addr × Cell)} (h : PL H L) (s : Same H H') : PL H' L := fun q hq => s _ _ (h q hq)
theorem perm_refs : ∀ {ys xs : List V}, ys.Perm xs → ∀ L, xs = refs L → ∃ L', L'.Perm L ∧ ys = refs L' := by
  intro ys xs h
  induction h with
  | nil => exact fun L e => ⟨L, .refl _, e⟩
  | @cons x l1 l2 p ih =>
    intro L e
    match L, e with
    | q :: L, e =>
      obtain ⟨e1, e2⟩ := List.cons.inj e
      obtain ⟨L', p', e'⟩ := ih L e2
      exact ⟨q :: L', p'.cons q, by rw [e1, e']; rfl⟩
  | swap x y l =>
    intro L e
    match L, e with
    | q :: r :: L, e =>
      obtain ⟨e1, e2⟩ := List.cons.inj e
      obtain ⟨e3, e4⟩ := List.cons.inj e2
      exact ⟨r :: q :: L, .swap _ _ _, by rw [e1, e3, e4]; rfl⟩
  | trans p1 p2 i1 i2 =>
    intro L e
    obtain ⟨L1, q1, e1⟩ := i2 L e
    obtain ⟨L2, q2, e2⟩ := i1 L1 e1
    exact ⟨L2, q2.trans q1, e2⟩
theorem code_lex {B : Int} {a b : Cell} (ha : InN B a) (hb : InN B b) (h : TS.code B [a.1, a.2] ≤ TS.code B [b.1, b.2]) : lexle a b := by
  have e : ∀ q : Cell, TS.code B [q.1, q.2] = q.1 * B + q.2 := fun q => by
    show q.1 * B ^ 1 + (q.2 * B ^ 0 + 0) = _
    rw [Int.pow_succ, Int.pow_zero, Int.one_mul, Int.mul_one, Int.add_zero]
  rw [e a, e b] at h
  obtain ⟨⟨_, _⟩, a3, a4⟩ := ha
  obtain ⟨⟨_, _⟩, b3, b4⟩ := hb
  unfold lexle
  by_cases h1 : a.1 < b.1
  · exact .inl h1
  by_cases h2 : a.1 = b.1
  · rw [h2] at h
    exact .inr ⟨h2, by omega⟩
  exfalso
  have h3 : b.1 + 1 ≤ a.1 := by omega
  have h4 := Int.mul_le_mul_of_nonneg_right h3 (show 0 ≤ B by omega)
  rw [Int.add_mul, Int.one_mul] at h4
  omega
theorem lexlt_of {a b : Cell} (h : lexle a b) (n : a ≠ b) : lexlt a b := by
  rcases h with h | ⟨h1, h2⟩
  · exact .inl h
  · refine .inr ⟨h1, ?_⟩
    by_cases e : a.2 = b.2
    · exact absurd (Prod.ext h1 e) n
    · omega
theorem tupD {K : PySem.W.Frag} {H : Hp} {t : Addr} {i j : Int} (h : H t = some (.tup [.int i, .int j])) : Dp K H (.ref t) (.tuple [.int i, .int j]) := .tup (SqT.of h) (.cons (.int _) (.cons (.int _) .nil))
def cellD (q : Cell) : PyData := .tuple [.int q.1, .int q.2]
theorem listD {K : PySem.W.Frag} {H : Hp} : ∀ {L : List (Addr × Cell)}, PL H L → DpAll K H (refs L) (L.map fun q => cellD q.2)
  | [], _ => .nil
  | q :: L, h => .cons (tupD (h q (List.mem_cons_self ..))) (listD fun x hx => h x (List.mem_cons_of_mem _ hx))
theorem cell_eqv (a b : Cell) : PyData.eqv (cellD a) (cellD b) = decide (a = b) := by
  have e : PyData.eqv (cellD a) (cellD b) = ((a.1 == b.1) && ((a.2 == b.2) && true)) := rfl
  rw [e, Bool.and_true, Bool.eq_iff_iff]
  simp [Prod.ext_iff]
theorem cell_shaped (a : Cell) : PySem.SeqAt.shaped (cellD a) = true := rfl
theorem any_cell (L : List (Addr × Cell)) (a : Cell) : ((L.map fun q => cellD q.2).any fun z => PyData.eqv z (cellD a)) = decide (a ∈ L.map (·.2)) := by
  rw [Bool.eq_iff_iff, List.any_map, List.any_eq_true, decide_eq_true_eq, List.mem_map]
  constructor
  · rintro ⟨q, hq, e⟩
    refine ⟨q, hq, ?_⟩
    have e : PyData.eqv (cellD q.2) (cellD a) = true := e
    rw [cell_eqv] at e
    exact of_decide_eq_true e
  · rintro ⟨q, hq, e⟩
    refine ⟨q, hq, ?_⟩
    show PyData.eqv (cellD q.2) (cellD a) = true
    rw [cell_eqv]
    exact decide_eq_true e
theorem layAll_of : ∀ {ds : List PyData}, (∀ d ∈ ds, d.canLay0 = true ∧ d.depth ≤ 60) → PyData.canLayAll0 ds = true ∧ PyData.depthAll ds ≤ 60
  | [], _ => ⟨by simp [PyData.canLayAll0], by simp [PyData.depthAll]⟩
  | d :: ds, h => by
    obtain ⟨h1, h2⟩ := h d (List.mem_cons_self ..)
    obtain ⟨h3, h4⟩ := layAll_of fun x hx => h x (List.mem_cons_of_mem _ hx)
    refine ⟨by simp [PyData.canLayAll0, h1, h3], ?_⟩
    simp only [PyData.depthAll]
    omega
theorem shaped_lst {ds : List PyData} (h : ∀ d ∈ ds, d.canLay0 = true ∧ d.depth ≤ 60) : PySem.SeqAt.shaped (.list ds) = true := by
  obtain ⟨h1, h2⟩ := layAll_of h
  show (PyData.canLay0 (.list ds) && decide (PyData.depth (.list ds) ≤ 64)) = true
  rw [Bool.and_eq_true]
  refine ⟨by simp only [PyData.canLay0]; exact h1, decide_eq_true ?_⟩
  simp only [PyData.depth]
  omega
theorem shaped_tup {ds : List PyData} (h : ∀ d ∈ ds, d.canLay0 = true ∧ d.depth ≤ 60) : PySem.SeqAt.shaped (.tuple ds) = true := by
  obtain ⟨h1, h2⟩ := layAll_of h
  show (PyData.canLay0 (.tuple ds) && decide (PyData.depth (.tuple ds) ≤ 64)) = true
  rw [Bool.and_eq_true]
  refine ⟨by simp only [PyData.canLay0]; exact h1, decide_eq_true ?_⟩
  simp only [PyData.depth]
  omega
theorem cell_lay (q : Cell) : (cellD q).canLay0 = true ∧ (cellD q).depth ≤ 60 := by
  refine ⟨by simp [cellD, PyData.canLay0, PyData.canLayAll0], ?_⟩
  simp [cellD, PyData.depth, PyData.depthAll]
theorem cells_lay (L : List (Addr × Cell)) : ∀ d ∈ L.map (fun q => cellD q.2), d.canLay0 = true ∧ d.depth ≤ 60 := fun d hd => by
  obtain ⟨q, _, rfl⟩ := List.mem_map.mp hd
  exact cell_lay _
/-! ### the kind of a cell -/
def srt (l : List Int) : List Int := l.mergeSort fun x y => decide (x ≤ y)
theorem srt_of {a b : List Int} (h : a.Perm b) (s : a.Pairwise (· ≤ ·)) : a = srt b := PySem.W.os_sorted_mergeSort h s
theorem srt_perm (l : List Int) : (srt l).Perm l := List.mergeSort_perm _ _
theorem srt_le (l : List Int) : (srt l).Pairwise (· ≤ ·) := by
  have hs := List.pairwise_mergeSort (le := fun x y : Int => decide (x ≤ y)) (by intro x y z hxy hyz; simp only [decide_eq_true_eq] at *; omega) (by intro x y; simp only [Bool.or_eq_true, decide_eq_true_eq]; omega) l
  simpa [srt] using hs
theorem srt_congr {a b : List Int} (h : a.Perm b) : srt a = srt b := srt_of ((srt_perm a).trans h) (srt_le a)
theorem srt_add (l : List Int) (d : Int) : srt (l.map (· + d)) = (srt l).map (· + d) := by
  refine (srt_of ((srt_perm l).map _) ?_).symm
  rw [List.pairwise_map]
  exact (srt_le l).imp fun h => by omega
def nums (n r c : Int) : List Int := [r, c, n - 1 - r, n - 1 - c]
theorem four_of (n r c : Int) : ∃ x y z w, srt (nums n r c) = [x, y, z, w] := by
  have h : (srt (nums n r c)).length = 4 := by rw [(srt_perm _).length_eq]; rfl
  match srt (nums n r c), h with
  | [x, y, z, w], _ => exact ⟨x, y, z, w, rfl⟩
def mn (a m : Int) : Int := if m < a then m else a
def kindL : List Int → Int × Int × Int
  | [x, y, z, _] => (mn x 1, mn (y - x) 2, mn (z - y) 3)
  | _ => (0, 0, 0)
def kindN (n r c : Int) : Int × Int × Int := kindL (srt (nums n r c))
theorem kind_img {n r c : Int} : ∀ q ∈ cells8 n r c, kindN n q.1 q.2 = kindN n r c := by
  intro q hq
  unfold cells8 at hq
  simp only [List.mem_cons, List.not_mem_nil, or_false] at hq
  have e : ∀ x : Int, n - 1 - (n - 1 - x) = x := fun x => by omega
  unfold kindN
  refine congrArg kindL (srt_congr ?_)
  unfold nums
  have sw : ∀ (a b c d : Int), [b, a, d, c].Perm [a, b, c, d] := fun a b c d => (List.Perm.swap _ _ _).trans (((List.Perm.swap _ _ _).cons _).cons _)
  have s1 : ∀ (a b c d : Int), [a, d, c, b].Perm [a, b, c, d] := fun a b c d => by
    refine .cons _ ?_
    exact (List.Perm.swap _ _ _).trans (((List.Perm.swap _ _ _).cons _).trans (List.Perm.swap _ _ _))
  have s2 : ∀ (a b c d : Int), [c, b, a, d].Perm [a, b, c, d] := fun a b c d => (sw _ _ _ _).symm.trans ((s1 _ _ _ _).trans (sw _ _ _ _))
  rcases hq with rfl | rfl | rfl | rfl | rfl | rfl | rfl | rfl <;> simp only [e]
  · exact .refl _
  · exact sw _ _ _ _
  · exact s1 _ _ _ _
  · exact (sw _ _ _ _).trans (s1 _ _ _ _)
  · exact s2 _ _ _ _
  · exact (sw _ _ _ _).trans (s2 _ _ _ _)
  · exact (s1 _ _ _ _).trans (s2 _ _ _ _)
  · exact (sw _ _ _ _).trans ((s1 _ _ _ _).trans (s2 _ _ _ _))
theorem kind_ring {n r c : Int} (h : InN n (r, c)) : kindN (n + 2) (r + 1) (c + 1) = (1, (kindN n r c).2.1, (kindN n r c).2.2) := by
  have e : nums (n + 2) (r + 1) (c + 1) = (nums n r c).map (· + 1) := by
    show [r + 1, c + 1, n + 2 - 1 - (r + 1), n + 2 - 1 - (c + 1)] = [r + 1, c + 1, n - 1 - r + 1, n - 1 - c + 1]
    have e1 : ∀ x : Int, n + 2 - 1 - (x + 1) = n - 1 - x + 1 := fun x => by omega
    rw [e1, e1]
  unfold kindN
  rw [e, srt_add]
  obtain ⟨x, y, z, w, e4⟩ := four_of n r c
  have hx : 0 ≤ x := by
    have m : x ∈ nums n r c := (srt_perm (nums n r c)).mem_iff.mp (by rw [e4]; exact List.mem_cons_self ..)
    obtain ⟨⟨h1, h2⟩, h3, h4⟩ := h
    simp only at h1 h2 h3 h4
    unfold nums at m
    simp only [List.mem_cons, List.not_mem_nil, or_false] at m
    omega
  rw [e4]
  show (mn (x + 1) 1, mn (y + 1 - (x + 1)) 2, mn (z + 1 - (y + 1)) 3) = (1, mn (y - x) 2, mn (z - y) 3)
  have e1 : y + 1 - (x + 1) = y - x := by omega
  have e2 : z + 1 - (y + 1) = z - y := by omega
  have e3 : mn (x + 1) 1 = 1 := by
    unfold mn
    split <;> omega
  rw [e1, e2, e3]
def triD (k : Int × Int × Int) : PyData := .tuple [.int k.1, .int k.2.1, .int k.2.2]
theorem tri_eqv (a b : Int × Int × Int) : PyData.eqv (triD a) (triD b) = decide (a = b) := by
  have e : PyData.eqv (triD a) (triD b) = ((a.1 == b.1) && ((a.2.1 == b.2.1) && ((a.2.2 == b.2.2) && true))) := rfl
  rw [e, Bool.and_true, Bool.eq_iff_iff]
  simp [Prod.ext_iff]
theorem tri_lay (k : Int × Int × Int) : (triD k).canLay0 = true ∧ (triD k).depth ≤ 60 := by
  refine ⟨by simp [triD, PyData.canLay0, PyData.canLayAll0], ?_⟩
  simp [triD, PyData.depth, PyData.depthAll]
theorem tri_shaped (k : Int × Int × Int) : PySem.SeqAt.shaped (triD k) = true := rfl
theorem triDp {K : PySem.W.Frag} {H : Hp} {t : Addr} {k : Int × Int × Int} (h : H t = some (.tup [.int k.1, .int k.2.1, .int k.2.2])) : Dp K H (.ref t) (triD k) := .tup (SqT.of h) (.cons (.int _) (.cons (.int _) (.cons (.int _) .nil)))
/-! ### promises -/
def spCell : Sp := fun vs H Q _ => ∃ (n : Int) (t : Addr) (q : Cell), vs = [.int n, .ref t] ∧ H t = some (.tup [.int q.1, .int q.2]) ∧ InN n q ∧ ∀ H', Same H H' → Q (.bl true) H'
def spCellOk : Sp := fun vs H Q _ => ∃ (n : Int) (t : Addr) (q : Cell), vs = [.int n, .ref t] ∧ H t = some (.tup [.int q.1, .int q.2]) ∧ InN n q ∧ ∀ H', Same H H' → Q .non H'
def Tup3 (H : Hp) (t : Addr) (k : Int × Int × Int) : Prop := H t = some (.tup [.int k.1, .int k.2.1, .int k.2.2])
def spKindOf : Sp := fun vs H Q _ => ∃ (n : Int) (t : Addr) (q : Cell), vs = [.int n, .ref t] ∧ H t = some (.tup [.int q.1, .int q.2]) ∧ InN n q ∧ n ≤ big ∧ ∀ t' H', Same H H' → Tup3 H' t' (kindN n q.1 q.2) → Q (.ref t') H'
def spSort : Sp := fun vs H Q _ => ∃ n r c : Int, vs = [.int n, .int r, .int c] ∧ ∀ t' H', Same H H' → Tup3 H' t' (kindN n r c) → Q (.ref t') H'
def spSpot : Sp := fun vs H Q _ => ∃ (p : Addr) (n : Int), vs = [.ref p, .int n] ∧ PurlAt H p ∧ 1 ≤ n ∧ ∀ (t : Addr) (q : Cell) (H' : Hp), InN n q → H' t = some (.tup [.int q.1, .int q.2]) → t ≠ p → PurlAt H' p → Off p H H' → Q (.ref t) H'
def spCells : Sp := fun vs H Q _ => ∃ n r c : Int, vs = [.int n, .int r, .int c] ∧ ∀ (p : Addr) (L : List (Addr × Cell)) (H' : Hp), Same H H' → H' p = some (.lst (refs L)) → PL H' L → L.map (·.2) = cells8 n r c → Q (.ref p) H'
def spOrbit : Sp := fun vs H Q _ => ∃ n r c : Int, vs = [.int n, .int r, .int c] ∧ InN n (r, c) ∧ ∀ (p : Addr) (L : List (Addr × Cell)) (H' : Hp), Same H H' → H' p = some (.lst (refs L)) → PL H' L → L.length ≤ 8 → (L.map (·.2)).Pairwise lexlt → (∀ q, q ∈ L.map (·.2) ↔ q ∈ cells8 n r c) → Q (.ref p) H'
end Sq
namespace Sq
open PySem L2
abbrev Kind := Int × Int × Int
def keyOf (k : Kind) : List L2.Key := [.inl k.1, .inl k.2.1, .inl k.2.2]
theorem keyOf_inj {a b : Kind} (h : keyOf a = keyOf b) : a = b := by
  unfold keyOf at h
  simp only [List.cons.injEq, Sum.inl.injEq, and_true] at h
  exact Prod.ext h.1 (Prod.ext h.2.1 h.2.2)
/-- the kind of a cell, reckoned out -/
def lo (a b : Int) : Int := if a ≤ b then a else b
def hi (a b : Int) : Int := if a ≤ b then b else a
def kindF (n r c : Int) : Kind :=
  (mn (lo (lo r (n - 1 - r)) (lo c (n - 1 - c))) 1, mn (hi (lo r (n - 1 - r)) (lo c (n - 1 - c)) - lo (lo r (n - 1 - r)) (lo c (n - 1 - c))) 2, mn (n - 1 - hi (lo r (n - 1 - r)) (lo c (n - 1 - c)) - hi (lo r (n - 1 - r)) (lo c (n - 1 - c))) 3)
theorem kindF_eq (n r c : Int) : kindN n r c = kindF n r c := by
  have main : ∀ a b : Int, a ≤ n - 1 - a → b ≤ n - 1 - b → [a, b, n - 1 - a, n - 1 - b].Perm (nums n r c) → kindN n r c = (mn (lo a b) 1, mn (hi a b - lo a b) 2, mn (n - 1 - hi a b - hi a b) 3) := fun a b ha hb pm => by
    unfold kindN
    by_cases h : a ≤ b
    · have e : srt (nums n r c) = [a, b, n - 1 - b, n - 1 - a] := by
        refine (srt_of (((List.Perm.swap _ _ _).cons _ |>.cons _).trans pm) ?_).symm
        simp only [List.pairwise_cons, List.mem_cons, List.not_mem_nil, or_false, forall_eq_or_imp, forall_eq, false_imp_iff, implies_true, List.Pairwise.nil, and_true]
        omega
      rw [e]
      unfold kindL lo hi
      rw [if_pos h, if_pos h]
    · have e : srt (nums n r c) = [b, a, n - 1 - a, n - 1 - b] := by
        refine (srt_of ((List.Perm.swap _ _ _).trans pm) ?_).symm
        simp only [List.pairwise_cons, List.mem_cons, List.not_mem_nil, or_false, forall_eq_or_imp, forall_eq, false_imp_iff, implies_true, List.Pairwise.nil, and_true]
        omega
      rw [e]
      unfold kindL lo hi
      rw [if_neg h, if_neg h]
  unfold kindF
  have inv : ∀ x : Int, n - 1 - (n - 1 - x) = x := fun x => by omega
  have s1 : ∀ (a b c d : Int), [a, d, c, b].Perm [a, b, c, d] := fun a b c d => by
    refine .cons _ ?_
    exact (List.Perm.swap _ _ _).trans (((List.Perm.swap _ _ _).cons _).trans (List.Perm.swap _ _ _))
  have s2 : ∀ (a b c d : Int), [c, b, a, d].Perm [a, b, c, d] := fun a b c d => by
    exact (List.Perm.swap _ _ _).trans (((List.Perm.swap _ _ _).cons _).trans (List.Perm.swap _ _ _))
  by_cases hr : r ≤ n - 1 - r
  · have e1 : lo r (n - 1 - r) = r := if_pos hr
    rw [e1]
    by_cases hc : c ≤ n - 1 - c
    · have e2 : lo c (n - 1 - c) = c := if_pos hc
      rw [e2]
      exact main r c hr hc (.refl _)
    · have e2 : lo c (n - 1 - c) = n - 1 - c := if_neg hc
      rw [e2]
      refine main r (n - 1 - c) hr (by rw [inv]; omega) ?_
      rw [inv]
      exact s1 _ _ _ _
  · have e1 : lo r (n - 1 - r) = n - 1 - r := if_neg hr
    rw [e1]
    by_cases hc : c ≤ n - 1 - c
    · have e2 : lo c (n - 1 - c) = c := if_pos hc
      rw [e2]
      refine main (n - 1 - r) c (by rw [inv]; omega) hc ?_
      rw [inv]
      exact s2 _ _ _ _
    · have e2 : lo c (n - 1 - c) = n - 1 - c := if_neg hc
      rw [e2]
      refine main (n - 1 - r) (n - 1 - c) (by rw [inv]; omega) (by rw [inv]; omega) ?_
      rw [inv, inv]
      exact (s1 _ _ _ _).trans (s2 _ _ _ _)
/-- the cells of a table up to row i, and of row i up to column j -/
def rowC (i j : Nat) : List Cell := (List.range j).map fun c : Nat => ((i : Int), (c : Int))
def tabC (N i j : Nat) : List Cell := (List.range i).flatMap (fun r => rowC r N) ++ rowC i j
theorem rowC_succ (i j : Nat) : rowC i (j + 1) = rowC i j ++ [((i : Int), (j : Int))] := by
  unfold rowC
  rw [List.range_succ, List.map_append]
  rfl
theorem tabC_succ (N i j : Nat) : tabC N i (j + 1) = tabC N i j ++ [((i : Int), (j : Int))] := by
  unfold tabC
  rw [rowC_succ, List.append_assoc]
theorem tabC_row (N i : Nat) : tabC N (i + 1) 0 = tabC N i N := by
  unfold tabC
  rw [List.range_succ, List.flatMap_append]
  show (_ ++ (rowC i N ++ [])) ++ [] = _
  rw [List.append_nil, List.append_nil]
def cntC (n : Int) (cs : List Cell) (k : Kind) : Int := (cs.countP (fun q => decide (kindN n q.1 q.2 = k)) : Nat)
theorem cntC_snoc (n : Int) (cs : List Cell) (q : Cell) (k : Kind) : cntC n (cs ++ [q]) k = cntC n cs k + (if kindN n q.1 q.2 = k then 1 else 0) := by
  unfold cntC
  rw [List.countP_append, List.countP_singleton]
  by_cases h : kindN n q.1 q.2 = k
  · rw [decide_eq_true h, if_pos h, if_pos rfl]
    omega
  · rw [decide_eq_false h, if_neg h, if_neg (by decide)]
    omega
/-- a dict that tells how many cells there are of each kind -/
def Met (n : Int) (kvs : List (List L2.Key × V)) (cs : List Cell) : Prop := ∀ k : Kind, (valV kvs (keyOf k)).getD (.int 0) = .int (cntC n cs k)
theorem met_nil (n : Int) : Met n [] [] := fun _ => rfl
theorem met_put {n : Int} {kvs : List (List L2.Key × V)} {cs : List Cell} (h : Met n kvs cs) (q : Cell) : Met n (putK kvs (keyOf (kindN n q.1 q.2)) (.int (cntC n cs (kindN n q.1 q.2) + 1))) (cs ++ [q]) := fun k => by
  rw [valV_put, cntC_snoc]
  by_cases e : kindN n q.1 q.2 = k
  · rw [if_pos (congrArg keyOf e.symm), if_pos e, e]
    rfl
  · rw [if_neg (fun z => e (keyOf_inj z).symm), if_neg e, Int.add_zero]
    exact h k
def all24 : List Kind := [(0,0,0),(0,0,1),(0,0,2),(0,0,3),(0,1,0),(0,1,1),(0,1,2),(0,1,3),(0,2,0),(0,2,1),(0,2,2),(0,2,3),(1,0,0),(1,0,1),(1,0,2),(1,0,3),(1,1,0),(1,1,1),(1,1,2),(1,1,3),(1,2,0),(1,2,1),(1,2,2),(1,2,3)]
theorem all24_R : ∀ k ∈ all24, KindR k.1 k.2.1 k.2.2 := by
  unfold KindR
  decide
def cntF (n : Int) (cs : List Cell) (k : Kind) : Nat := cs.countP fun q => decide (kindF n q.1 q.2 = k)
theorem cntF_eq (n : Int) (cs : List Cell) (k : Kind) : cntC n cs k = (cntF n cs k : Int) := by
  unfold cntC cntF
  refine congrArg Int.ofNat (congrArg (fun f => List.countP f cs) ?_)
  funext q
  rw [kindF_eq]
theorem small_all : ∀ N : _root_.Fin 15, N.val = 0 ∨ ∀ k ∈ all24, (cntF (N.val : Int) (tabC N.val N.val 0) k : Int) = cntN (N.val : Int) k.1 k.2.1 k.2.2 := by decide +kernel
theorem small_cnt {N : Nat} (h1 : 1 ≤ N) (h2 : N < 15) : ∀ k ∈ all24, cntC (N : Int) (tabC N N 0) k = cntN (N : Int) k.1 k.2.1 k.2.2 := fun k hk => by
  rw [cntF_eq]
  rcases small_all ⟨N, h2⟩ with h | h
  · have h : N = 0 := h
    omega
  · exact h k hk
/-- all the cells of a table -/
def total (n : Int) : Int := (all24.map fun k => cntN n k.1 k.2.1 k.2.2).sum
def inner (n : Int) : Int := ((all24.drop 12).map fun k => cntN n k.1 k.2.1 k.2.2).sum
theorem total_eq (n : Int) : total n = allS n 3 + inner n := by
  have e : ∀ a b c d e f g h i j k l m : Int, a + (b + (c + (d + (e + (f + (g + (h + (i + (j + (k + (l + m))))))))))) = 0 + (0 + a + b + c + d) + (0 + e + f + g + h) + (0 + i + j + k + l) + m := by
    intro a b c d e f g h i j k l m
    omega
  exact e _ _ _ _ _ _ _ _ _ _ _ _ _
theorem inner_step (n : Int) (hn : 1 ≤ n) : inner (n + 2) = total n := by
  have r : ∀ b c : Nat, b < 3 → c < 4 → cntN (n + 2) 1 b c = cntN n 0 b c + cntN n 1 b c := fun b c hb hc => ring n hn b c hb hc
  show cntN (n + 2) 1 0 0 + (cntN (n + 2) 1 0 1 + (cntN (n + 2) 1 0 2 + (cntN (n + 2) 1 0 3 + (cntN (n + 2) 1 1 0 + (cntN (n + 2) 1 1 1 + (cntN (n + 2) 1 1 2 + (cntN (n + 2) 1 1 3 + (cntN (n + 2) 1 2 0 + (cntN (n + 2) 1 2 1 + (cntN (n + 2) 1 2 2 + (cntN (n + 2) 1 2 3 + 0))))))))))) =
    cntN n 0 0 0 + (cntN n 0 0 1 + (cntN n 0 0 2 + (cntN n 0 0 3 + (cntN n 0 1 0 + (cntN n 0 1 1 + (cntN n 0 1 2 + (cntN n 0 1 3 + (cntN n 0 2 0 + (cntN n 0 2 1 + (cntN n 0 2 2 + (cntN n 0 2 3 + (
    cntN n 1 0 0 + (cntN n 1 0 1 + (cntN n 1 0 2 + (cntN n 1 0 3 + (cntN n 1 1 0 + (cntN n 1 1 1 + (cntN n 1 1 2 + (cntN n 1 1 3 + (cntN n 1 2 0 + (cntN n 1 2 1 + (cntN n 1 2 2 + (cntN n 1 2 3 + 0)))))))))))))))))))))))
  have h1 : cntN (n + 2) 1 0 0 = cntN n 0 0 0 + cntN n 1 0 0 := r 0 0 (by decide) (by decide)
  have h2 : cntN (n + 2) 1 0 1 = cntN n 0 0 1 + cntN n 1 0 1 := r 0 1 (by decide) (by decide)
  have h3 : cntN (n + 2) 1 0 2 = cntN n 0 0 2 + cntN n 1 0 2 := r 0 2 (by decide) (by decide)
  have h4 : cntN (n + 2) 1 0 3 = cntN n 0 0 3 + cntN n 1 0 3 := r 0 3 (by decide) (by decide)
  have h5 : cntN (n + 2) 1 1 0 = cntN n 0 1 0 + cntN n 1 1 0 := r 1 0 (by decide) (by decide)
  have h6 : cntN (n + 2) 1 1 1 = cntN n 0 1 1 + cntN n 1 1 1 := r 1 1 (by decide) (by decide)
  have h7 : cntN (n + 2) 1 1 2 = cntN n 0 1 2 + cntN n 1 1 2 := r 1 2 (by decide) (by decide)
  have h8 : cntN (n + 2) 1 1 3 = cntN n 0 1 3 + cntN n 1 1 3 := r 1 3 (by decide) (by decide)
  have h9 : cntN (n + 2) 1 2 0 = cntN n 0 2 0 + cntN n 1 2 0 := r 2 0 (by decide) (by decide)
  have h10 : cntN (n + 2) 1 2 1 = cntN n 0 2 1 + cntN n 1 2 1 := r 2 1 (by decide) (by decide)
  have h11 : cntN (n + 2) 1 2 2 = cntN n 0 2 2 + cntN n 1 2 2 := r 2 2 (by decide) (by decide)
  have h12 : cntN (n + 2) 1 2 3 = cntN n 0 2 3 + cntN n 1 2 3 := r 2 3 (by decide) (by decide)
  rw [h1, h2, h3, h4, h5, h6, h7, h8, h9, h10, h11, h12]
  omega
theorem total_sq : ∀ m : Nat, total ((m + 1 : Nat) : Int) = ((m + 1 : Nat) : Int) * ((m + 1 : Nat) : Int) ∧ total ((m + 2 : Nat) : Int) = ((m + 2 : Nat) : Int) * ((m + 2 : Nat) : Int)
  | 0 => by decide +kernel
  | m + 1 => by
    obtain ⟨h1, h2⟩ := total_sq m
    refine ⟨h2, ?_⟩
    have e : ((m + 1 + 2 : Nat) : Int) = ((m + 1 : Nat) : Int) + 2 := by omega
    rw [e, total_eq, inner_step _ (by omega), border _ (by omega), h1, if_pos (by omega)]
    have e2 : ∀ x : Int, (x + 2) * (x + 2) = x * x + (4 * x + 4) := fun x => by
      rw [Int.add_mul, Int.mul_add, Int.mul_comm x 2]
      omega
    rw [e2]
    omega
theorem total_of {n : Int} (h : 1 ≤ n) : total n = n * n := by
  obtain ⟨m, rfl⟩ := Int.eq_ofNat_of_zero_le (show 0 ≤ n - 1 by omega) |>.imp fun m e => (show n = ((m + 1 : Nat) : Int) by omega)
  exact (total_sq m).1
theorem waysN_nn {p : Nat} {t : Int} (h : 0 ≤ t) : 0 ≤ waysN p t := by
  unfold waysN
  have h2 : 0 ≤ (t + 1) * (t + 2) := Int.mul_nonneg (by omega) (by omega)
  split
  · split <;> decide
  · split
    · decide
    · split <;> omega
theorem cntN_nn (n a b c : Int) : 0 ≤ cntN n a b c := by
  unfold cntN
  refine Int.mul_nonneg ?_ ?_
  · unfold grpN
    split
    · decide
    · split
      · exact waysN_nn (by omega)
      · split
        · exact waysN_nn (by omega)
        · decide
  · unfold imgN
    split
    · decide
    · split <;> decide
/-- kinds that stand at their places -/
def PK (H : Hp) (L : List (Addr × Kind)) : Prop := ∀ q ∈ L, KindAt H q.1 q.2.1 q.2.2.1 q.2.2.2
def refK (L : List (Addr × Kind)) : List V := L.map fun q => V.ref q.1
theorem PK.same {H H' : Hp} {L : List (Addr × Kind)} (h : PK H L) (s : Same H H') : PK H' L := fun q hq => s _ _ (h q hq)
def spAllK : Sp := fun vs H Q _ => vs = [] ∧ ∀ (p : Addr) (L : List (Addr × Kind)) (H' : Hp), Same H H' → H' p = some (.lst (refK L)) → PK H' L → L.map (·.2) = all24 → Q (.ref p) H'
end Sq
namespace Sq
open PySem L2 PySem.Spec PyProof.Rows
/-! ### comprehensions of any number of clauses: clause by clause -/
/-- what stands behind a clause's tests: a next clause, or what is kept of the turn -/
abbrev TCl := L2.St → Hp → (Hp → Prop) → Prop
/-- the turns over what an iterator gives, then Nx -/
def JLoop (J : It) (g : TG) (tt : TT) (vs : List Nat) (ti : TCl) (σ : L2.St) (H : Hp) (Nx : Hp → Prop) : Prop :=
  ∃ W : Nat → Nat → Hp → Prop, (∃ m, W 0 m H) ∧ ∀ i m H1, W i m H1 →
    (J.stop i H1 ∧ Nx H1) ∨ (J.go i H1 ∧ ∃ N1 : Hp → Prop, (∀ H', N1 H' → ∃ m', m' < m ∧ W (i + 1) m' H') ∧
      ∀ x H', J.yld i H1 x H' → g x (wipe σ vs) H' fun σ2 H2 => wipe σ2 vs = wipe σ vs ∧ tt σ2 H2 fun b H3 => if b = true then ti σ2 H3 N1 else N1 H3)
/-- a clause: its source, then the turns -/
def tClause (wi : TI) (g : TG) (tt : TT) (vs : List Nat) (ti : TCl) : TCl := fun σ H Nx => wi σ H fun J H1 => JLoop J g tt vs ti σ H1 Nx
/-- what σ' knows of what is behind the block's names -/
def Kn (vs : List Nat) (σ σ' : L2.St) : Prop := σ'.length = σ.length ∧ ∀ (j : Nat) v, (wipe σ vs)[j]? = some (some v) → σ'[j]? = some (some v)
abbrev noX : Value → Shared → Prop := fun _ _ => False
/-- how one turn of a comprehension's loop goes: IN is what stands behind the tests -/
def TurnsSo (M : Model) (A : Around) (env : Env) (e : Expr) (d : Nat) (acc : Value) (tg : Expr) (ifs : List Expr) (IN : (Shared → Prop) → Shared → Prop) : Prop :=
  ∀ (it : Value) (k1 k2 : Shared → Prop) (s : Shared),
    wpAny M A (pyNext it) (fun r s1 => match r with
      | none => k1 s1
      | some v => wpAny M A (letOwnedTupleGo tg it v) (fun _ s2 => wpAny M A (assign tg env v) (fun _ s3 =>
          wpAny M A (forIn ifs true fun c r => if r = true then do let ok ← isTrue c env (eval c env); pure (ForInStep.yield ok) else pure (ForInStep.yield r)) (fun ok s4 =>
            if ok = true then IN k2 s4 else k2 s4) noX s3) noX s2) noX s1) noX s →
    wpAny M (A.under (.compLoop e d it acc env)) (M.den (.compLoop e d it acc env))
      (fun fin s' => match fin with | .done f => f = .next ∧ k1 s' | .again c' => c' = .compLoop e d it acc env ∧ k2 s') noX s
/-- what stands behind the tests keeps to its reading -/
def KeepsTo (Y : Cx) (vs : List Nat) (IN : (Shared → Prop) → Shared → Prop) (ti : TCl) : Prop :=
  ∀ (pins : List (Addr × Obj)) (s : Shared) (σ : L2.St) (H : Hp) (Nx : Hp → Prop) (k : Shared → Prop), Inv Y pins σ H s → ti σ H Nx →
    (∀ s' σ' H', Inv Y pins σ' H' s' → Kn vs σ σ' → Nx H' → k s') → IN k s
theorem thnY {α : Type} {t : Sem α} {Q Q' : α → Shared → Prop} {M : Model} {A : Around} {E X : Value → Shared → Prop} {s : Shared} (hx : X = noX) (h : wpAny M A t Q X s) (hQ : ∀ a s, Q a s → Q' a s) : wpAny M A t Q' E s :=
  wpAny_mono h hQ fun _ _ z => by
    rw [hx] at z
    exact z.elim
section
variable {Y : Cx} {e : Expr} {d : Nat} {acc : Value} {tg : Expr} {ifs : List Expr} {IN : (Shared → Prop) → Shared → Prop} {g : TG} {tt : TT} {ti : TCl} {vs vi : List Nat}
/-- one clause's loop, in the block -/
theorem lev (hc : Y.calm = true) (hxe : Y.xe = noX) (hq : ∀ it, (Code.compLoop e d it acc Y.env).quiet = true) (ht : TurnsSo (model Y.prog Y.w) Y.A Y.env e d acc tg ifs IN)
    (pg : PG Y tg g) (pt : PTs Y ifs tt) (hin : KeepsTo Y vi IN ti) (hvi : ∀ j ∈ vi, j ∈ vs)
    {pins : List (Addr × Obj)} {s : Shared} {σ : L2.St} {H : Hp} {Nx : Hp → Prop} (I : Inv Y pins (wipe σ vs) H s) {it : Addr} {fp : List Addr} {tn : Nat → Heap → Prop} {J : It}
    (T : Turn Y.prog Y.w Y.K tg J fp it tn) (st : tn 0 s.heap) (hf : ∀ b ∈ fp, FpOk Y pins H b) (h : JLoop J g tt vs ti σ H Nx) :
    codeAny (model Y.prog Y.w) Y.A (.compLoop e d (.ref it) acc Y.env) (fun r s' => r = .ok .next ∧ ∃ H', Inv Y pins (wipe σ vs) H' s' ∧ Nx H') s := by
  obtain ⟨W, ⟨m0, w0⟩, turn⟩ := h
  refine codeAny_loop (hq _) (fun n s' => ∃ i H', Inv Y pins (wipe σ vs) H' s' ∧ tn i s'.heap ∧ (∀ b ∈ fp, H' b = none) ∧ W i n H') ?_ m0
    ⟨0, H, I, st, fun b hb => (hf b hb).1, w0⟩
  rintro n s1 ⟨i, H1, I1, st1, n1, w1⟩
  have fpo : ∀ {H' : Hp}, (∀ b ∈ fp, H' b = none) → ∀ b ∈ fp, FpOk Y pins H' b := fun hn b hb => ⟨hn b hb, (hf b hb).2⟩
  refine wpAny_mono (ht (.ref it) (fun s' => ∃ H', Inv Y pins (wipe σ vs) H' s' ∧ Nx H') (fun s' => ∃ m, m < n ∧ ∃ i H', Inv Y pins (wipe σ vs) H' s' ∧ tn i s'.heap ∧ (∀ b ∈ fp, H' b = none) ∧ W i m H') s1 ?_) (fun fin s' q => ?_) fun _ _ z => False.elim z
  case refine_2 =>
    cases fin with
    | done f => exact ⟨by rw [q.1], q.2⟩
    | again c => exact q
  rcases turn i n H1 w1 with ⟨stop, nx⟩ | ⟨go, N1, hN1, step⟩
  · refine thnF (T.done Y rfl rfl rfl hc i pins s1 _ H1 noX I1 (fpo n1) st1 stop) fun r s2 q => ?_
    obtain ⟨rfl, I2⟩ := q
    exact ⟨H1, I2, nx⟩
  refine thnF (T.item Y rfl rfl rfl hc i pins s1 _ H1 noX I1 (fpo n1) st1 go) fun r s2 q => ?_
  obtain ⟨u, rfl, q⟩ := q
  refine thnF q fun _ s3 z => ?_
  obtain ⟨x, H3, I3, r3, y3, st3, n3⟩ := z
  have P3 := I3.pinned (fpo n3) (T.obj _ _ st3)
  refine thnY hxe (pg.run _ s3 _ H3 x u _ P3 r3 (step x H3 y3)) fun _ s4 z => ?_
  obtain ⟨σ4, H4, I4, hw, q4⟩ := z
  refine thnY hxe (pt.run _ s4 σ4 H4 _ I4 q4) fun b s5 z => ?_
  obtain ⟨H5, I5, q5⟩ := z
  -- the turn's end
  have fin : ∀ {σ' : L2.St} {s' : Shared} {H' : Hp}, Inv Y (pins ++ pinsAt fp s3.heap) σ' H' s' → Kn vs σ4 σ' → N1 H' →
      ∃ m, m < n ∧ ∃ i H', Inv Y pins (wipe σ vs) H' s' ∧ tn i s'.heap ∧ (∀ b ∈ fp, H' b = none) ∧ W i m H' := fun {σ' s' H'} I' kn nx => by
    obtain ⟨m', hm, w'⟩ := hN1 H' nx
    have held : ∀ b ∈ fp, ∀ o, s3.heap.get? b = some o → s'.heap.get? b = some o ∧ H' b = none := fun b hb o z =>
      ⟨(I'.pin (b, o) (List.mem_append_right _ (List.mem_append_right _ (mem_pinsAt hb z)))).1, (I'.pin (b, o) (List.mem_append_right _ (List.mem_append_right _ (mem_pinsAt hb z)))).2.1⟩
    refine ⟨m', hm, i + 1, H', I'.unpinned.weak ?_ (fun j v z => ?_), T.keep _ _ _ st3 (fun b hb o z => (held b hb o z).1), fun b hb => ?_, w'⟩
    · rw [kn.1, ← hw, wipe_length]
    · rw [← hw] at z
      exact kn.2 j v z
    · obtain ⟨o, z, _⟩ := T.obj _ _ st3 b hb
      exact (held b hb o z).2
  cases b with
  | false => exact fin I5 ⟨rfl, fun j v z => (wipe_some z).1⟩ q5
  | true =>
    refine hin _ s5 σ4 H5 N1 _ I5 q5 fun s' σ' H' I' kn nx => fin I' ⟨kn.1, fun j v z => ?_⟩ nx
    obtain ⟨z1, z2⟩ := wipe_some z
    refine kn.2 j v ?_
    rw [wipe_out fun y => z2 (hvi j y)]
    exact z1
end
/-! ### what stands behind the tests -/
/-- the next clause: its source, its iterator, its loop -/
def inClause (M : Model) (A : Around) (env : Env) (e : Expr) (d : Nat) (acc : Value) (iter : Expr) : (Shared → Prop) → Shared → Prop := fun k s =>
  wpAny M A (eval iter env) (fun x s1 => wpAny M A (pyIter x) (fun it s2 => codeAny M A (.compStart e d it acc env) (fun r s' => match r with | .ok _ => k s' | .error _ => False) s2) noX s1) noX s
/-- an element more in the list -/
def inList (M : Model) (A : Around) (env : Env) (elt : Expr) (acc : Value) : (Shared → Prop) → Shared → Prop := fun k s =>
  wpAny M A (eval elt env) (fun x s1 => wpAny M A (call (.builtin "list.append") [acc, x]) (fun _ s2 => k s2) noX s1) noX s
def tKeep (te : TE) (D : Addr) : TCl := fun σ H Nx => te σ H fun y H1 => ∃ xs, H1 D = some (.lst xs) ∧ xs.length < sizeLine ∧ Nx (upd H1 D (.lst (xs ++ [y])))
theorem keeps_list {Y : Cx} {elt : Expr} {te : TE} {D : Addr} {vs : List Nat} (hxe : Y.xe = noX) (pe : PE Y elt te) : KeepsTo Y vs (inList (model Y.prog Y.w) Y.A Y.env elt (.ref D)) (tKeep te D) := by
  intro pins s σ H Nx k I h hk
  refine thnY hxe (pe.run pins s σ H _ I h) fun u s1 z => ?_
  obtain ⟨y, H1, I1, r1, xs, hD, hz, nx⟩ := z
  exact app_ok I1 hD hz r1 fun s2 I2 => hk s2 σ _ I2 ⟨rfl, fun j v z => (wipe_some z).1⟩ nx
theorem keeps_clause {Y : Cx} {e : Expr} {d : Nat} {acc : Value} {tg iter : Expr} {ifs : List Expr} {IN : (Shared → Prop) → Shared → Prop} {wi : TI} {g : TG} {tt : TT} {ti : TCl} {vs vi : List Nat}
    (hc : Y.calm = true) (hxe : Y.xe = noX) (hq : ∀ it, (Code.compLoop e d it acc Y.env).quiet = true) (ht : TurnsSo (model Y.prog Y.w) Y.A Y.env e d acc tg ifs IN)
    (hst : ∀ (it : Value) (R : Result → Shared → Prop) (s : Shared), codeAny (model Y.prog Y.w) Y.A (.compLoop e d it acc Y.env) R s →
      wpAny (model Y.prog Y.w) Y.A (pyIter it) (fun it' s' => codeAny (model Y.prog Y.w) Y.A (.compLoop e d it' acc Y.env) R s') (notedBy (model Y.prog Y.w) Y.A Y.env fun x s' => R (.error x) s') s → codeAny (model Y.prog Y.w) Y.A (.compStart e d it acc Y.env) R s)
    (pi : PI Y tg iter wi) (pg : PG Y tg g) (pt : PTs Y ifs tt) (hin : KeepsTo Y vi IN ti) (hvi : ∀ j ∈ vi, j ∈ vs) :
    KeepsTo Y vs (inClause (model Y.prog Y.w) Y.A Y.env e d acc iter) (tClause wi g tt vs ti) := by
  intro pins s σ H Nx k I h hk
  refine thnY hxe (pi.run pins s σ H _ I h) fun x s1 hx => thnY hxe hx fun itv s2 z => ?_
  obtain ⟨it, fp, tn, J, H2, rfl, I2, T, st, hf, hl⟩ := z
  have run : codeAny (model Y.prog Y.w) Y.A (.compLoop e d (.ref it) acc Y.env) (fun r s' => match r with | .ok _ => k s' | .error _ => False) s2 := codeAny_mono (lev hc hxe hq ht pg pt hin hvi (I2.weak (wipe_length _ _) (fun j v z => (wipe_some z).1)) T st hf hl) fun r s' z => by
    obtain ⟨rfl, H', I', nx⟩ := z
    exact hk s' _ H' I' ⟨wipe_length _ _, fun j v z => z⟩ nx
  exact hst _ _ _ run (T.self Y.A 0 _ _ _ st run)
/-! ### three clauses -/
section
variable {P : Program} {w : World} {A : Around} {elt t0 i0 t1 i1 t2 i2 : Expr} {f0 f1 f2 : List Expr} {scope : Scope} {pos : Pos} {it acc : Value} {env : Env}
theorem turn3_0 : compTurn (.ListComp elt [⟨t0, i0, f0, 0⟩, ⟨t1, i1, f1, 0⟩, ⟨t2, i2, f2, 0⟩] scope pos) 0 it acc env = (do
    standAt i0.pos
    match ← pyNext it with
    | none => pure (.done .next)
    | some v =>
      letOwnedTupleGo t0 it v
      assign t0 env v
      let mut go := true
      for q in f0 do
        if go then go ← isTrue q env (eval q env)
      if go then
        let y ← eval i1 env
        standAt i1.pos
        let y ← foldedSetIterable i1 env y
        let _ ← runOwn (.compStart (.ListComp elt [⟨t0, i0, f0, 0⟩, ⟨t1, i1, f1, 0⟩, ⟨t2, i2, f2, 0⟩] scope pos) 1 (← holding [y] (pyIter y)) acc env) env
      again (.compLoop (.ListComp elt [⟨t0, i0, f0, 0⟩, ⟨t1, i1, f1, 0⟩, ⟨t2, i2, f2, 0⟩] scope pos) 0 it acc env)) := by rfl
theorem turn3_1 : compTurn (.ListComp elt [⟨t0, i0, f0, 0⟩, ⟨t1, i1, f1, 0⟩, ⟨t2, i2, f2, 0⟩] scope pos) 1 it acc env = (do
    standAt i1.pos
    match ← pyNext it with
    | none => pure (.done .next)
    | some v =>
      letOwnedTupleGo t1 it v
      assign t1 env v
      let mut go := true
      for q in f1 do
        if go then go ← isTrue q env (eval q env)
      if go then
        let y ← eval i2 env
        standAt i2.pos
        let y ← foldedSetIterable i2 env y
        let _ ← runOwn (.compStart (.ListComp elt [⟨t0, i0, f0, 0⟩, ⟨t1, i1, f1, 0⟩, ⟨t2, i2, f2, 0⟩] scope pos) 2 (← holding [y] (pyIter y)) acc env) env
      again (.compLoop (.ListComp elt [⟨t0, i0, f0, 0⟩, ⟨t1, i1, f1, 0⟩, ⟨t2, i2, f2, 0⟩] scope pos) 1 it acc env)) := by rfl
theorem turn3_2 : compTurn (.ListComp elt [⟨t0, i0, f0, 0⟩, ⟨t1, i1, f1, 0⟩, ⟨t2, i2, f2, 0⟩] scope pos) 2 it acc env = (do
    standAt i2.pos
    match ← pyNext it with
    | none => pure (.done .next)
    | some v =>
      letOwnedTupleGo t2 it v
      assign t2 env v
      let mut go := true
      for q in f2 do
        if go then go ← isTrue q env (eval q env)
      if go then
        (do let _ ← call (.builtin "list.append") [acc, ← eval elt env])
      again (.compLoop (.ListComp elt [⟨t0, i0, f0, 0⟩, ⟨t1, i1, f1, 0⟩, ⟨t2, i2, f2, 0⟩] scope pos) 2 it acc env)) := by rfl
theorem so3_0 (hs : ∀ x, foldedSetIterable i1 env x = pure x) : TurnsSo (model P w) A env (.ListComp elt [⟨t0, i0, f0, 0⟩, ⟨t1, i1, f1, 0⟩, ⟨t2, i2, f2, 0⟩] scope pos) 0 acc t0 f0 (inClause (model P w) A env (.ListComp elt [⟨t0, i0, f0, 0⟩, ⟨t1, i1, f1, 0⟩, ⟨t2, i2, f2, 0⟩] scope pos) 1 acc i1) := by
  intro it k1 k2 s h
  show wpAny _ A ((compTurn (.ListComp elt [⟨t0, i0, f0, 0⟩, ⟨t1, i1, f1, 0⟩, ⟨t2, i2, f2, 0⟩] scope pos) 0 it acc env).onRaise (fun x => do noteFrame x env; theTreesLotGoes x)) _ _ s
  refine wpAny_noted ?_
  rw [turn3_0]
  refine wpAny_bind (wpAny_standAt (wpAny_bind (thnF h fun r s1 h1 => ?_)))
  cases r with
  | none => exact wpAny_pure ⟨rfl, h1⟩
  | some v =>
    refine wpAny_bind (thnF h1 fun _ s2 h2 => wpAny_bind (thnF h2 fun _ s3 h3 => wpAny_bind (thnF h3 fun go s4 h4 => ?_)))
    cases go with
    | false => exact wpAny_pure ⟨rfl, h4⟩
    | true =>
      refine wpAny_bind (thnF h4 fun y s5 h5 => ?_)
      refine wpAny_bind (wpAny_standAt (wpAny_bind (wpAny_of_eq (hs y) (wpAny_bind (wpAny_holding (thnF h5 fun it1 s6 h6 => wpAny_bind (wpAny_runOwn ?_)))))))
      rw [Around.mark_none]
      refine codeAny_mono h6 fun r s' hr => ?_
      cases r with
      | ok f => exact wpAny_pure ⟨rfl, hr⟩
      | error x => exact hr.elim
theorem so3_1 (hs : ∀ x, foldedSetIterable i2 env x = pure x) : TurnsSo (model P w) A env (.ListComp elt [⟨t0, i0, f0, 0⟩, ⟨t1, i1, f1, 0⟩, ⟨t2, i2, f2, 0⟩] scope pos) 1 acc t1 f1 (inClause (model P w) A env (.ListComp elt [⟨t0, i0, f0, 0⟩, ⟨t1, i1, f1, 0⟩, ⟨t2, i2, f2, 0⟩] scope pos) 2 acc i2) := by
  intro it k1 k2 s h
  show wpAny _ A ((compTurn (.ListComp elt [⟨t0, i0, f0, 0⟩, ⟨t1, i1, f1, 0⟩, ⟨t2, i2, f2, 0⟩] scope pos) 1 it acc env).onRaise (fun x => do noteFrame x env; theTreesLotGoes x)) _ _ s
  refine wpAny_noted ?_
  rw [turn3_1]
  refine wpAny_bind (wpAny_standAt (wpAny_bind (thnF h fun r s1 h1 => ?_)))
  cases r with
  | none => exact wpAny_pure ⟨rfl, h1⟩
  | some v =>
    refine wpAny_bind (thnF h1 fun _ s2 h2 => wpAny_bind (thnF h2 fun _ s3 h3 => wpAny_bind (thnF h3 fun go s4 h4 => ?_)))
    cases go with
    | false => exact wpAny_pure ⟨rfl, h4⟩
    | true =>
      refine wpAny_bind (thnF h4 fun y s5 h5 => ?_)
      refine wpAny_bind (wpAny_standAt (wpAny_bind (wpAny_of_eq (hs y) (wpAny_bind (wpAny_holding (thnF h5 fun it1 s6 h6 => wpAny_bind (wpAny_runOwn ?_)))))))
      rw [Around.mark_none]
      refine codeAny_mono h6 fun r s' hr => ?_
      cases r with
      | ok f => exact wpAny_pure ⟨rfl, hr⟩
      | error x => exact hr.elim
theorem so3_2 : TurnsSo (model P w) A env (.ListComp elt [⟨t0, i0, f0, 0⟩, ⟨t1, i1, f1, 0⟩, ⟨t2, i2, f2, 0⟩] scope pos) 2 acc t2 f2 (inList (model P w) A env elt acc) := by
  intro it k1 k2 s h
  show wpAny _ A ((compTurn (.ListComp elt [⟨t0, i0, f0, 0⟩, ⟨t1, i1, f1, 0⟩, ⟨t2, i2, f2, 0⟩] scope pos) 2 it acc env).onRaise (fun x => do noteFrame x env; theTreesLotGoes x)) _ _ s
  refine wpAny_noted ?_
  rw [turn3_2]
  refine wpAny_bind (wpAny_standAt (wpAny_bind (thnF h fun r s1 h1 => ?_)))
  cases r with
  | none => exact wpAny_pure ⟨rfl, h1⟩
  | some v =>
    refine wpAny_bind (thnF h1 fun _ s2 h2 => wpAny_bind (thnF h2 fun _ s3 h3 => wpAny_bind (thnF h3 fun go s4 h4 => ?_)))
    cases go with
    | false => exact wpAny_pure ⟨rfl, h4⟩
    | true => exact wpAny_bind (wpAny_bind (thnF h4 fun y s5 h5 => wpAny_bind (thnF h5 fun _ s6 h6 => wpAny_pure (wpAny_pure ⟨rfl, h6⟩))))
end
section
variable {P : Program} {w : World} {A : Around} {elt t0 i0 t1 i1 t2 i2 : Expr} {f0 f1 f2 : List Expr} {scope : Scope} {pos : Pos} {it acc : Value} {env : Env}
theorem start3_1 {R : Result → Shared → Prop} {s : Shared} (h0 : codeAny (model P w) A (.compLoop (.ListComp elt [⟨t0, i0, f0, 0⟩, ⟨t1, i1, f1, 0⟩, ⟨t2, i2, f2, 0⟩] scope pos) 1 it acc env) R s)
    (h : wpAny (model P w) A (pyIter it) (fun it' s' => codeAny (model P w) A (.compLoop (.ListComp elt [⟨t0, i0, f0, 0⟩, ⟨t1, i1, f1, 0⟩, ⟨t2, i2, f2, 0⟩] scope pos) 1 it' acc env) R s') (notedBy (model P w) A env fun x s' => R (.error x) s') s) :
    codeAny (model P w) A (.compStart (.ListComp elt [⟨t0, i0, f0, 0⟩, ⟨t1, i1, f1, 0⟩, ⟨t2, i2, f2, 0⟩] scope pos) 1 it acc env) R s := by
  refine codeAny_of_tree (show wpAny _ _ ((compStart (.ListComp elt [⟨t0, i0, f0, 0⟩, ⟨t1, i1, f1, 0⟩, ⟨t2, i2, f2, 0⟩] scope pos) 1 it acc env).onRaise (fun x => do noteFrame x env; standAt theWindowsPlace)) _ _ s from wpAny_notedAt ?_)
  unfold compStart
  refine (show wpAny _ _ (ask >>= _) _ _ s from wpAny_bind (wpAny_askSetting (wpAny_ite ?_)))
  split
  · exact wpAny_pure (And.intro rfl h0)
  · refine wpAny_bind (wpAny_rule ?_)
    show wpAny _ _ (standAt i1.pos >>= _) _ _ s
    exact wpAny_bind (wpAny_standAt (wpAny_bind (thn h fun _ _ z => wpAny_pure (And.intro rfl z))))
theorem start3_2 {R : Result → Shared → Prop} {s : Shared} (h0 : codeAny (model P w) A (.compLoop (.ListComp elt [⟨t0, i0, f0, 0⟩, ⟨t1, i1, f1, 0⟩, ⟨t2, i2, f2, 0⟩] scope pos) 2 it acc env) R s)
    (h : wpAny (model P w) A (pyIter it) (fun it' s' => codeAny (model P w) A (.compLoop (.ListComp elt [⟨t0, i0, f0, 0⟩, ⟨t1, i1, f1, 0⟩, ⟨t2, i2, f2, 0⟩] scope pos) 2 it' acc env) R s') (notedBy (model P w) A env fun x s' => R (.error x) s') s) :
    codeAny (model P w) A (.compStart (.ListComp elt [⟨t0, i0, f0, 0⟩, ⟨t1, i1, f1, 0⟩, ⟨t2, i2, f2, 0⟩] scope pos) 2 it acc env) R s := by
  refine codeAny_of_tree (show wpAny _ _ ((compStart (.ListComp elt [⟨t0, i0, f0, 0⟩, ⟨t1, i1, f1, 0⟩, ⟨t2, i2, f2, 0⟩] scope pos) 2 it acc env).onRaise (fun x => do noteFrame x env; standAt theWindowsPlace)) _ _ s from wpAny_notedAt ?_)
  unfold compStart
  refine (show wpAny _ _ (ask >>= _) _ _ s from wpAny_bind (wpAny_askSetting (wpAny_ite ?_)))
  split
  · exact wpAny_pure (And.intro rfl h0)
  · refine wpAny_bind (wpAny_rule ?_)
    show wpAny _ _ (standAt i2.pos >>= _) _ _ s
    exact wpAny_bind (wpAny_standAt (wpAny_bind (thn h fun _ _ z => wpAny_pure (And.intro rfl z))))
end
/-! ### the whole -/
section
variable {X : Cx}
def tWhole (ob : Addr → HO) (wi : TI) (g : TG) (tt : TT) (vs : List Nat) (ti : Addr → TCl) : TE := fun σ H Q => wi σ H fun J H1 => ∀ D, H1 D = none → JLoop J g tt vs (ti D) σ (upd H1 D (ob D)) fun H' => Q (.ref D) H'
theorem top_comp {e tg iter : Expr} {ifs : List Expr} {rest : List Comprehension} {newAcc : Sem Value} {O : Obj} {ob : Addr → HO} {scope : Scope} {own : List (Str × Nat)} {pos' : Pos} {wi : TI} {g : TG} {tt : TT} {ti : Addr → TCl}
    {pins : List (Addr × Obj)} {s : Shared} {σ : L2.St} {H : Hp} {Q : VK}
    (hcl : clausesOf e = ⟨tg, iter, ifs, 0⟩ :: rest)
    (hnew : ∀ (s : Shared) (Q : Value → Shared → Prop) (E : Value → Shared → Prop), Q (.ref s.heap.objs.size) { s with heap := s.heap.push O } → wpAny (model X.prog X.w) X.A newAcc Q E s)
    (hlaid : ∀ (H : Hp) (h : Heap), ObjOk X.prog X.w (upd H h.objs.size (ob h.objs.size)) (h.push O) h.objs.size (ob h.objs.size))
    (hst : ∀ (it acc : Value) (env : Env) (R : Result → Shared → Prop) (s : Shared), codeAny (model X.prog X.w) X.A (.compLoop e 0 it acc env) R s →
      wpAny (model X.prog X.w) X.A (pyIter it) (fun it' s' => codeAny (model X.prog X.w) X.A (.compLoop e 0 it' acc env) R s') (notedBy (model X.prog X.w) X.A env fun x s' => R (.error x) s') s → codeAny (model X.prog X.w) X.A (.compStart e 0 it acc env) R s)
    (hq : ∀ it acc env, (Code.compLoop e 0 it acc env).quiet = true)
    (hc : X.calm = true) (hN : X.N.Nodup) (I : Inv X pins σ H s) (hi : PI X tg iter wi) (ok : BlkOk X.N X.env.scope scope own) (hs : ∀ x, foldedSetIterable iter X.env x = pure x)
    (blk : ∀ (s : Shared) (H : Hp) (C : Addr) (cl : List (Str × Addr)) (fp : List Addr) (D : Addr), ∃ (IN : (Shared → Prop) → Shared → Prop) (vi : List Nat),
      TurnsSo (model X.prog X.w) X.A (compEnvC scope cl C X.env) e 0 (.ref D) tg ifs IN ∧ PG (X.blk s H scope (compEnvC scope cl C X.env) fp) tg g ∧ PTs (X.blk s H scope (compEnvC scope cl C X.env) fp) ifs tt ∧
      KeepsTo (X.blk s H scope (compEnvC scope cl C X.env) fp) vi IN (ti D) ∧ ∀ j ∈ vi, j ∈ own.map (·.2))
    (h : tWhole ob wi g tt (own.map (·.2)) ti σ H Q) :
    wpAny (model X.prog X.w) X.A (comprehension e scope X.env pos' newAcc false (eval iter X.env) none) (EP X pins σ Q) X.xe s := by
  have held : ∀ y ∈ scope.names, y.2 = .free → ∃ c, X.env.cells.lookup y.1 = some c := fun y hy z => (ok.free y hy z).elim (fun k => I.ok.has _ (.inl k)) fun k => I.ok.has _ (.inr k)
  refine wpAny_comprehension_free (use := none) hcl hs (closure_ok held) ok.kind (fun y hy z => (ok.uniq y hy).trans (congrArg some z)) (thn (hi.run pins s σ H _ I h) fun xv s1 hx => thn hx fun itv s2 z => ?_)
  obtain ⟨it, fp, tn, J, H2, rfl, I2, T, st2, f2, q⟩ := z
  refine hnew s2 _ _ (newEnv_comp ?_)
  have hDn : H2 s2.heap.objs.size = none := I2.hok.fresh (Nat.le_refl _)
  have loops := q _ hDn
  have I3 : Inv X pins σ (upd H2 s2.heap.objs.size (ob s2.heap.objs.size)) { s2 with heap := s2.heap.push O } :=
    I2.laid (t' := s2.toks) (fun b o z => Heap.get?_push_of_some _ z) (Nat.le_refl _) (hlaid H2 s2.heap)
  have low : ∀ b ∈ fp, b < s2.heap.objs.size := fun b hb => by
    obtain ⟨o, z, _⟩ := T.obj _ _ st2 b hb
    exact Heap.lt_size z
  have f3 : ∀ b ∈ fp, FpOk X pins (upd H2 s2.heap.objs.size (ob s2.heap.objs.size)) b ∧ b < (s2.heap.push O).objs.size := fun b hb =>
    ⟨⟨by rw [upd_ne (Nat.ne_of_lt (low b hb))]; exact (f2 b hb).1, (f2 b hb).2⟩, by rw [Heap.size_push]; exact Nat.lt_succ_of_lt (low b hb)⟩
  have st3 : tn 0 (s2.heap.push O) := T.keep _ _ _ st2 fun b _ o z => Heap.get?_push_of_some _ z
  generalize hs3 : ({ s2 with heap := s2.heap.push O } : Shared) = s3 at I3 ⊢
  have h3 : s3.heap = s2.heap.push O := by rw [← hs3]
  rw [← h3] at f3 st3
  generalize s2.heap.objs.size = D at I3 f3 loops ⊢
  have I4 := block_start I3 ok hN f3
  obtain ⟨IN, vi, hts, pg, pt, hin, hvi⟩ := blk s3 (upd H2 D (ob D)) s3.heap.objs.size (cellsFrom (s3.heap.objs.size + 1) scope.names (cloFrom X.env.cells scope.names [])) fp D
  show codeAny _ _ (.compStart e 0 (.ref it) (.ref D) (compEnvC scope (cellsFrom (s3.heap.objs.size + 1) scope.names (cloFrom X.env.cells scope.names [])) s3.heap.objs.size X.env)) (compPost (model X.prog X.w) X.A X.xe none (EP X pins σ Q) (.ref D) s3.heap.objs.size) { s3 with heap := pushCells (s3.heap.push { cls := .type "dict", data := .dict #[] }) scope.names }
  have st4 : tn 0 (pushCells (s3.heap.push { cls := .type "dict", data := .dict #[] }) scope.names) := T.keep _ _ _ st3 fun b _ o z => pushCells_keeps _ _ _ _ (Heap.get?_push_of_some _ z)
  have f4 : ∀ b ∈ fp, FpOk (X.blk s3 (upd H2 D (ob D)) scope (compEnvC scope (cellsFrom (s3.heap.objs.size + 1) scope.names (cloFrom X.env.cells scope.names [])) s3.heap.objs.size X.env) fp) [] (upd H2 D (ob D)) b := fun b hb =>
    ⟨(f3 b hb).1.1, (I4.ok.exf b hb).1, I4.ok.exfs b hb, .inl hb, fun x c z => (I4.ok.exf b hb).2 x c z, fun p hp => absurd (show p ∈ ([] : List (Addr × Obj)) ++ [] from hp) (by simp)⟩
  have run := codeAny_mono (lev (Y := X.blk s3 (upd H2 D (ob D)) scope (compEnvC scope (cellsFrom (s3.heap.objs.size + 1) scope.names (cloFrom X.env.cells scope.names [])) s3.heap.objs.size X.env) fp) hc rfl (fun it => hq it _ _) hts pg pt hin hvi I4 T st4 f4 loops) (R' := compPost (model X.prog X.w) X.A X.xe none (EP X pins σ Q) (.ref D) s3.heap.objs.size) fun r s6 z => by
    obtain ⟨rfl, H6, I6, q6⟩ := z
    have I7 : Inv X pins σ H6 s6 := I3.call' (ch := fp) I6.os I6.base I6.hok I6.bare fun b hb => ⟨(f3 b hb).1.2.2.2.1, (f3 b hb).1.2.1, (f3 b hb).1.2.2.2.2.1, (f3 b hb).1.2.2.2.2.2⟩
    obtain ⟨m, hn, _⟩ := I6.loc
    obtain ⟨a0, a1, a2, a3, a4, a5⟩ := I3.fpOk (Nat.le_refl _) (show H6 s3.heap.objs.size = none from I6.free)
    exact ⟨m, hn, fun h'' sb => ⟨.ref D, H6, I7.turned (t' := s6.toks) (fun b o hb z => (sb.2 b hb).trans z) a0 a1 a3 a4 a5, rfl, q6⟩⟩
  exact hst _ _ _ _ _ run (T.self X.A 0 _ _ _ st4 run)
end
end Sq
namespace Sq
open PySem L2 PySem.Spec PyProof.Rows
/-! ### [elt for t0 in i0 for t1 in i1 for t2 in i2] -/
section
variable {X : Cx}
def tLc3 (wi : TI) (g : TG) (tt : TT) (vs : List Nat) (ti : Addr → TCl) : TE := tWhole (fun _ => .lst []) wi g tt vs ti
theorem pe_lc3 {elt t0 i0 t1 i1 t2 i2 : Expr} {f0 f1 f2 : List Expr} {scope : Scope} {own : List (Str × Nat)} {v1 v2 : List Nat} {pos : Pos} {w0 w1 w2 : TI} {g0 g1 g2 : TG} {r0 r1 r2 : TT} {te : TE}
    (hc : X.calm = true) (hN : X.N.Nodup) (hi : PI X t0 i0 w0) (ok : BlkOk X.N X.env.scope scope own) (hv1 : ∀ j ∈ v1, j ∈ own.map (·.2)) (hv2 : ∀ j ∈ v2, j ∈ v1)
    (blk : ∀ (s : Shared) (H : Hp) (C : Addr) (cl : List (Str × Addr)) (fp : List Addr),
      (PG (X.blk s H scope (compEnvC scope cl C X.env) fp) t0 g0 ∧ PTs (X.blk s H scope (compEnvC scope cl C X.env) fp) f0 r0) ∧
      (PI (X.blk s H scope (compEnvC scope cl C X.env) fp) t1 i1 w1 ∧ PG (X.blk s H scope (compEnvC scope cl C X.env) fp) t1 g1 ∧ PTs (X.blk s H scope (compEnvC scope cl C X.env) fp) f1 r1) ∧
      (PI (X.blk s H scope (compEnvC scope cl C X.env) fp) t2 i2 w2 ∧ PG (X.blk s H scope (compEnvC scope cl C X.env) fp) t2 g2 ∧ PTs (X.blk s H scope (compEnvC scope cl C X.env) fp) f2 r2) ∧
      PE (X.blk s H scope (compEnvC scope cl C X.env) fp) elt te)
    (hs : ∀ x, foldedSetIterable i0 X.env x = pure x := by intro _; rfl) (hs1 : ∀ env x, foldedSetIterable i1 env x = pure x := by intro _ _; rfl) (hs2 : ∀ env x, foldedSetIterable i2 env x = pure x := by intro _ _; rfl) :
    PE X (.ListComp elt [⟨t0, i0, f0, 0⟩, ⟨t1, i1, f1, 0⟩, ⟨t2, i2, f2, 0⟩] scope pos) (tLc3 w0 g0 r0 (own.map (·.2)) fun D => tClause w1 g1 r1 v1 (tClause w2 g2 r2 v2 (tKeep te D))) := by
  refine ⟨fun pins s σ H Q I h => ?_⟩
  rw [eval_ListComp]
  refine top_comp (ob := fun _ => .lst []) (O := { cls := .type "list", data := .seq ([] : List Value).toArray }) rfl (fun s Q E q => wpAny_newObj_type q (by show 0 ≤ sizeLine; decide)) (fun H h => ⟨Nat.zero_le _, [], 0, .nil, Heap.get?_push_size _ rfl⟩)
    (fun it acc env R s h0 h1 => codeAny_compStart_list h0 h1) (fun _ _ _ => rfl) hc hN I hi ok hs (fun s' H' C cl fp D => ?_) h
  obtain ⟨⟨pg0, pt0⟩, ⟨pi1, pg1, pt1⟩, ⟨pi2, pg2, pt2⟩, pe⟩ := blk s' H' C cl fp
  have k3 := keeps_list (Y := X.blk s' H' scope (compEnvC scope cl C X.env) fp) (D := D) (vs := v2) rfl pe
  have k2 := keeps_clause (e := .ListComp elt [⟨t0, i0, f0, 0⟩, ⟨t1, i1, f1, 0⟩, ⟨t2, i2, f2, 0⟩] scope pos) (Y := X.blk s' H' scope (compEnvC scope cl C X.env) fp) hc rfl (fun _ => rfl) (so3_2 (scope := scope) (pos := pos)) (fun it R s h0 h1 => start3_2 (t0 := t0) (i0 := i0) (f0 := f0) (t1 := t1) (i1 := i1) (f1 := f1) h0 h1) pi2 pg2 pt2 k3 (vs := v2) (fun _ z => z)
  have k1 := keeps_clause (e := .ListComp elt [⟨t0, i0, f0, 0⟩, ⟨t1, i1, f1, 0⟩, ⟨t2, i2, f2, 0⟩] scope pos) (Y := X.blk s' H' scope (compEnvC scope cl C X.env) fp) hc rfl (fun _ => rfl) (so3_1 (t0 := t0) (i0 := i0) (f0 := f0) (hs2 _)) (fun it R s h0 h1 => start3_1 (t0 := t0) (i0 := i0) (f0 := f0) h0 h1) pi1 pg1 pt1 k2 hv2
  exact ⟨_, _, so3_0 (hs1 _), pg0, pt0, k1, hv1⟩
end
/-! ### {elt for tg in iter}: tuples of ints -/
section
variable {P : Program} {w : World} {A : Around} {elt tg iter : Expr} {ifs : List Expr} {scope : Scope} {pos : Pos} {it acc : Value} {env : Env}
def inSet (M : Model) (A : Around) (env : Env) (elt : Expr) (acc : Value) : (Shared → Prop) → Shared → Prop := fun k s =>
  wpAny M A (eval elt env) (fun x s1 => wpAny M A (call (.builtin "set.add") [acc, x]) (fun _ s2 => k s2) noX s1) noX s
theorem turnS : compTurn (.SetComp elt [⟨tg, iter, ifs, 0⟩] scope pos) 0 it acc env = (do
    standAt iter.pos
    match ← pyNext it with
    | none => pure (.done .next)
    | some v =>
      letOwnedTupleGo tg it v
      assign tg env v
      let mut go := true
      for q in ifs do
        if go then go ← isTrue q env (eval q env)
      if go then
        (do let y ← eval elt env; standAt elt.pos; let _ ← call (.builtin "set.add") [acc, y])
      again (.compLoop (.SetComp elt [⟨tg, iter, ifs, 0⟩] scope pos) 0 it acc env)) := by rfl
theorem soS : TurnsSo (model P w) A env (.SetComp elt [⟨tg, iter, ifs, 0⟩] scope pos) 0 acc tg ifs (inSet (model P w) A env elt acc) := by
  intro it k1 k2 s h
  show wpAny _ A ((compTurn (.SetComp elt [⟨tg, iter, ifs, 0⟩] scope pos) 0 it acc env).onRaise (fun x => do noteFrame x env; theTreesLotGoes x)) _ _ s
  refine wpAny_noted ?_
  rw [turnS]
  refine wpAny_bind (wpAny_standAt (wpAny_bind (thnF h fun r s1 h1 => ?_)))
  cases r with
  | none => exact wpAny_pure ⟨rfl, h1⟩
  | some v =>
    refine wpAny_bind (thnF h1 fun _ s2 h2 => wpAny_bind (thnF h2 fun _ s3 h3 => wpAny_bind (thnF h3 fun go s4 h4 => ?_)))
    cases go with
    | false => exact wpAny_pure ⟨rfl, h4⟩
    | true => exact wpAny_bind (wpAny_bind (thnF h4 fun y s5 h5 => wpAny_bind (wpAny_standAt (wpAny_bind (thnF h5 fun _ s6 h6 => wpAny_pure (wpAny_pure ⟨rfl, h6⟩))))))
end
section
variable {X : Cx}
/-- set.add of a tuple of ints -/
theorem addT_ok {pins : List (Addr × Obj)} {σ : L2.St} {H : Hp} {s : Shared} {E : Value → Shared → Prop} {D t : Addr} {k : List Int} {L : List (Addr × List Int)} {Q : Value → Shared → Prop} (hu : X.A.units + 3 < cLine) (I : Inv X pins σ H s)
    (hD : H D = some (SetTO X.prog X.w D L)) (hL : ∀ p ∈ L, SqT X.K H p.1 (p.2.map V.int)) (ht : SqT X.K H t (k.map V.int)) (few : L.length + 1 < 64)
    (h : ∀ s' L', Inv X pins σ (upd H D (SetTO X.prog X.w D L')) s' → (k ∈ L.map (·.2) → L' = L) → (k ∉ L.map (·.2) → L'.Perm ((t, k) :: L)) → Q .none s') : wpAny (model X.prog X.w) X.A (call (.builtin "set.add") [.ref D, .ref t]) Q E s := by
  have R0 : SetT0 X.prog X.w s.heap D L := (I.hok D _ hD).1
  obtain ⟨es, ep, tb, R⟩ := R0.full fun p hp => I.isT (hL p hp)
  have hx := I.isT ht
  have ty : s.TypeIs (.ref D) "set" := by
    obtain ⟨o, ho, hex, _⟩ := R.ob
    exact ⟨o, ho, hex.1⟩
  refine wpAny_call_entry PySem.F.slot_set_add ty PySem.F.entry_set_add ?_ (PySem.F.args_set_add_2 _ _)
  unfold Builtin.«set.add» Builtin.Frozenset.oneOther
  simp only [List.isEmpty_nil, bind_assoc]
  unfold Builtin.Frozenset.addrOf setAdd
  refine wpAny_bind (wpAny_pure ?_)
  try dsimp only
  refine wpAny_bind (wpAny_pure ?_)
  try dsimp only
  refine wpAny_bind (wpAny_holding (wpAny_bind (wpAny_pyHash_tuple (by show X.A.units + 1 < cLine; omega) hx ?_)))
  refine add_at (s := { s with toks := s.toks + (k.length + 1) }) R hx (by show X.A.units + 1 < cLine; omega) few fun b h' L' es' ep' t' sb R' c1 c2 => ?_
  show wpAny _ _ (ret Value.none) _ _ _
  refine wpAny_pure ⟨_, rfl, ?_⟩
  have he : ∃ u, h'.get? D = some u := by
    obtain ⟨o, ho, _⟩ := R'.ob
    exact ⟨o, ho⟩
  exact h _ L' (I.write (e := D) (t' := s.toks + (k.length + 1)) (by rw [hD]; trivial) (.inl rfl) (fun b u hb hu => (sb.2 b hb).trans hu) he (setTO_new R'.t0)) c1 c2
end
section
variable {X : Cx}
def tKeepS (K : PySem.W.Frag) (P : Program) (w : World) (te : TE) (D : Addr) : TCl := fun σ H Nx => te σ H fun y H1 => ∃ (t : Addr) (k : List Int) (L : List (Addr × List Int)), y = .ref t ∧ H1 D = some (SetTO P w D L) ∧
  (∀ p ∈ L, SqT K H1 p.1 (p.2.map V.int)) ∧ SqT K H1 t (k.map V.int) ∧ L.length + 1 < 64 ∧ ∀ L', (k ∈ L.map (·.2) → L' = L) → (k ∉ L.map (·.2) → L'.Perm ((t, k) :: L)) → Nx (upd H1 D (SetTO P w D L'))
theorem keeps_set {Y : Cx} {elt : Expr} {te : TE} {D : Addr} {vs : List Nat} (hxe : Y.xe = noX) (hu : Y.A.units + 3 < cLine) (pe : PE Y elt te) : KeepsTo Y vs (inSet (model Y.prog Y.w) Y.A Y.env elt (.ref D)) (tKeepS Y.K Y.prog Y.w te D) := by
  intro pins s σ H Nx k I h hk
  refine thnY hxe (pe.run pins s σ H _ I h) fun u s1 z => ?_
  obtain ⟨y, H1, I1, r1, t, ks, L, rfl, hD, hL, ht, few, nx⟩ := z
  cases r1
  exact addT_ok hu I1 hD hL ht few fun s2 L' I2 c1 c2 => hk s2 σ _ I2 ⟨rfl, fun j v z => (wipe_some z).1⟩ (nx L' c1 c2)
theorem pe_scT {elt tg iter : Expr} {ifs : List Expr} {scope : Scope} {own : List (Str × Nat)} {pos : Pos} {wi : TI} {g : TG} {tt : TT} {te : TE}
    (hc : X.calm = true) (hu : X.A.units + 3 < cLine) (hN : X.N.Nodup) (hi : PI X tg iter wi) (ok : BlkOk X.N X.env.scope scope own)
    (blk : ∀ (s : Shared) (H : Hp) (C : Addr) (cl : List (Str × Addr)) (fp : List Addr),
      PG (X.blk s H scope (compEnvC scope cl C X.env) fp) tg g ∧ PTs (X.blk s H scope (compEnvC scope cl C X.env) fp) ifs tt ∧ PE (X.blk s H scope (compEnvC scope cl C X.env) fp) elt te)
    (hs : ∀ x, foldedSetIterable iter X.env x = pure x := by intro _; rfl) :
    PE X (.SetComp elt [⟨tg, iter, ifs, 0⟩] scope pos) (tWhole (fun D => SetTO X.prog X.w D []) wi g tt (own.map (·.2)) fun D => tKeepS X.K X.prog X.w te D) := by
  refine ⟨fun pins s σ H Q I h => ?_⟩
  rw [PpSet.eval_SetComp]
  refine top_comp (ob := fun D => SetTO X.prog X.w D []) (O := { cls := .type "set", dict := none, data := .set #[] 0 (.fresh 0 0 (!X.w.params.followText "set-order")) }) rfl (fun s Q E q => PpSet.newSet_ok q)
    (fun H h => setTO_new (setTR_fresh (Heap.get?_push_size _ rfl)).t0)
    (fun it acc env R s h0 h1 => PpSet.codeAny_compStart_set h0 h1) (fun _ _ _ => rfl) hc hN I hi ok hs (fun s' H' C cl fp D => ?_) h
  obtain ⟨pg, pt, pe⟩ := blk s' H' C cl fp
  exact ⟨_, [], soS, pg, pt, keeps_set (Y := X.blk s' H' scope (compEnvC scope cl C X.env) fp) rfl hu pe, fun _ z => nomatch z⟩
end
/-! ### the turns of a clause, by what holds ahead of each -/
section
variable {g : TG} {tt : TT} {vs : List Nat} {ti : TCl} {σ : L2.St} {H : Hp} {Nx : Hp → Prop}
theorem jl_range {lo : Int} {n : Nat} (Pv : Nat → Hp → Prop) (h0 : Pv 0 H)
    (hs : ∀ i H, i < n → Pv i H → g (.int (lo + i)) (wipe σ vs) H fun σ2 H2 => wipe σ2 vs = wipe σ vs ∧ tt σ2 H2 fun b H3 => if b = true then ti σ2 H3 (Pv (i + 1)) else Pv (i + 1) H3)
    (hd : ∀ H, Pv n H → Nx H) : JLoop (Itr lo n) g tt vs ti σ H Nx := by
  refine ⟨fun i m H => i ≤ n ∧ m = n - i ∧ Pv i H, ⟨n, Nat.zero_le _, rfl, h0⟩, fun i m H1 z => ?_⟩
  obtain ⟨h1, rfl, h2⟩ := z
  rcases Nat.lt_or_ge i n with h | h
  · refine .inr ⟨h, Pv (i + 1), fun H' p => ⟨n - (i + 1), by omega, by omega, rfl, p⟩, fun x H' y => ?_⟩
    obtain ⟨rfl, rfl⟩ := y
    exact hs i _ h h2
  · have e : i = n := by omega
    subst e
    exact .inl ⟨Nat.le_refl _, hd _ h2⟩
theorem jl_tup {K : PySem.W.Frag} {a : Addr} {xs : List V} (Pv : Nat → Hp → Prop) (h0 : Pv 0 H) (hl : ∀ i H, i ≤ xs.length → Pv i H → SqT K H a xs)
    (hs : ∀ i x H, xs[i]? = some x → Pv i H → g x (wipe σ vs) H fun σ2 H2 => wipe σ2 vs = wipe σ vs ∧ tt σ2 H2 fun b H3 => if b = true then ti σ2 H3 (Pv (i + 1)) else Pv (i + 1) H3)
    (hd : ∀ H, Pv xs.length H → Nx H) : JLoop (Itt K a) g tt vs ti σ H Nx := by
  refine ⟨fun i m H => i ≤ xs.length ∧ m = xs.length - i ∧ Pv i H, ⟨xs.length, Nat.zero_le _, rfl, h0⟩, fun i m H1 z => ?_⟩
  obtain ⟨h1, rfl, h2⟩ := z
  have hq := hl i H1 h1 h2
  rcases Nat.lt_or_ge i xs.length with h | h
  · refine .inr ⟨⟨xs, xs[i], hq, List.getElem?_eq_getElem h⟩, Pv (i + 1), fun H' p => ⟨xs.length - (i + 1), by omega, by omega, rfl, p⟩, fun x H' y => ?_⟩
    obtain ⟨rfl, y⟩ := y
    exact hs i x _ (y xs hq) h2
  · have e : i = xs.length := by omega
    subst e
    exact .inl ⟨⟨xs, hq, Nat.le_refl _⟩, hd _ h2⟩
end
end Sq
namespace Sq
open PySem L2
/-- the kinds of a table's cells, ascending -/
def kindsN (n : Int) : List Kind := all24.filter fun k => decide (0 < grpN n k.1 k.2.1 k.2.2)
theorem waysN_pos {p : Nat} {t : Int} (h : 0 ≤ t) : 0 < waysN (p + 1) t := by
  unfold waysN
  rw [if_neg (Nat.succ_ne_zero p)]
  split
  · decide
  · split
    · omega
    · have h2 : 2 ≤ (t + 1) * (t + 2) := by
        have h3 : (0 + 1) * (0 + 2) ≤ (t + 1) * (t + 2) := Int.mul_le_mul (by omega) (by omega) (by decide) (by omega)
        exact h3
      omega
/-- whether there are such cells -/
def hasK (n a b c : Int) : Prop := 0 ≤ n - leastN a b c ∧ (c = 3 ∨ ((n - leastN a b c) % 2 = 0 ∧ (a = 1 ∨ b = 2 ∨ n - leastN a b c < 2)))
theorem grp_pos (n a b c : Int) : 0 < grpN n a b c ↔ hasK n a b c := by
  unfold grpN hasK
  generalize n - leastN a b c = r
  by_cases h0 : r < 0
  · rw [if_pos h0]
    constructor
    · intro h
      omega
    · intro h
      omega
  rw [if_neg h0]
  by_cases h3 : c = 3
  · rw [if_pos h3]
    constructor
    · exact fun _ => ⟨by omega, .inl h3⟩
    · exact fun _ => waysN_pos (by omega)
  rw [if_neg h3]
  by_cases h2 : r % 2 = 0
  · rw [if_pos h2]
    by_cases ho : a = 1 ∨ b = 2
    · have e : ∃ m, openN a b = m + 1 := by
        unfold openN
        by_cases ha : a = 1 <;> by_cases hb : b = 2
        · exact ⟨1, by simp [ha, hb]⟩
        · exact ⟨0, by simp [ha, hb]⟩
        · exact ⟨0, by simp [ha, hb]⟩
        · exact absurd ho (fun z => z.elim ha hb)
      obtain ⟨m, e⟩ := e
      rw [e]
      constructor
      · exact fun _ => ⟨by omega, .inr ⟨h2, ho.elim .inl fun z => .inr (.inl z)⟩⟩
      · exact fun _ => waysN_pos (by omega)
    · have e : openN a b = 0 := by
        unfold openN
        simp [not_or.mp ho]
      rw [e]
      unfold waysN
      rw [if_pos rfl]
      constructor
      · intro h
        by_cases z : r / 2 = 0
        · exact ⟨by omega, .inr ⟨h2, .inr (.inr (by omega))⟩⟩
        · rw [if_neg z] at h
          omega
      · rintro ⟨_, z | ⟨_, z | z | z⟩⟩
        · exact absurd z h3
        · exact absurd (.inl z) ho
        · exact absurd (.inr z) ho
        · rw [if_pos (by omega)]
          decide
  · rw [if_neg h2]
    constructor
    · intro h
      omega
    · rintro ⟨_, z | z⟩
      · exact absurd z h3
      · exact absurd z.1 h2
theorem kinds_far {n : Int} (h : 12 ≤ n) : kindsN n = kindsN (10 + n % 2) := by
  unfold kindsN
  refine List.filter_congr fun k hk => ?_
  have e : hasK n k.1 k.2.1 k.2.2 ↔ hasK (10 + n % 2) k.1 k.2.1 k.2.2 := by
    obtain ⟨⟨a0, a1⟩, ⟨b0, b1⟩, c0, c1⟩ := all24_R k hk
    unfold hasK leastN
    omega
  by_cases h1 : 0 < grpN n k.1 k.2.1 k.2.2
  · rw [decide_eq_true h1, decide_eq_true ((grp_pos _ _ _ _).mpr (e.mp ((grp_pos _ _ _ _).mp h1)))]
  · rw [decide_eq_false h1, decide_eq_false (fun z => h1 ((grp_pos _ _ _ _).mpr (e.mpr ((grp_pos _ _ _ _).mp z))))]
/-- the kinds met on the way through some cells -/
def metL (n : Int) (cs : List Cell) : List Kind := cs.foldl (fun acc q => if kindN n q.1 q.2 ∈ acc then acc else acc ++ [kindN n q.1 q.2]) []
def metLF (n : Int) (cs : List Cell) : List Kind := cs.foldl (fun acc q => if kindF n q.1 q.2 ∈ acc then acc else acc ++ [kindF n q.1 q.2]) []
theorem metL_eq (n : Int) (cs : List Cell) : metL n cs = metLF n cs := by
  unfold metL metLF
  refine congrArg (fun f => List.foldl f [] cs) ?_
  funext acc q
  rw [kindF_eq]
theorem metL_snoc (n : Int) (cs : List Cell) (q : Cell) : metL n (cs ++ [q]) = if kindN n q.1 q.2 ∈ metL n cs then metL n cs else metL n cs ++ [kindN n q.1 q.2] := by
  unfold metL
  rw [List.foldl_append]
  rfl
theorem snoc_ind {P : List Cell → Prop} (h0 : P []) (hs : ∀ cs q, P cs → P (cs ++ [q])) (cs : List Cell) : P cs := by
  have z : ∀ n, ∀ cs : List Cell, cs.length = n → P cs := fun n => by
    induction n with
    | zero => exact fun cs h => by rw [List.length_eq_zero_iff.mp h]; exact h0
    | succ n ih =>
      intro cs h
      have ne : cs ≠ [] := fun e => by rw [e] at h; cases h
      rw [← List.dropLast_concat_getLast ne]
      exact hs _ _ (ih _ (by rw [List.length_dropLast, h]; rfl))
  exact z _ cs rfl
theorem metL_len (n : Int) (cs : List Cell) : (metL n cs).length ≤ cs.length := by
  refine snoc_ind (P := fun cs => (metL n cs).length ≤ cs.length) (Nat.le_refl _) (fun cs q ih => ?_) cs
  rw [metL_snoc, List.length_append, List.length_singleton]
  split
  · omega
  · rw [List.length_append, List.length_singleton]
    omega
theorem metL_in (n : Int) (cs : List Cell) : ∀ k ∈ metL n cs, ∃ y ∈ cs, kindN n y.1 y.2 = k := by
  refine snoc_ind (P := fun cs => ∀ k ∈ metL n cs, ∃ y ∈ cs, kindN n y.1 y.2 = k) (fun k h => by cases h) (fun cs q ih k hk => ?_) cs
  rw [metL_snoc] at hk
  have old : k ∈ metL n cs → ∃ y ∈ cs ++ [q], kindN n y.1 y.2 = k := fun m => by
    obtain ⟨y, hy, e⟩ := ih k m
    exact ⟨y, List.mem_append_left _ hy, e⟩
  split at hk
  · exact old hk
  · rcases List.mem_append.mp hk with hk | hk
    · exact old hk
    · exact ⟨q, List.mem_append_right _ (List.mem_singleton.mpr rfl), (List.mem_singleton.mp hk).symm⟩
theorem tabC_len (N : Nat) : ∀ i j : Nat, (tabC N i j).length = N * i + j
  | i, j + 1 => by
    rw [tabC_succ, List.length_append, List.length_singleton, tabC_len N i j]
    omega
  | 0, 0 => rfl
  | i + 1, 0 => by
    rw [tabC_row, tabC_len N i N, Nat.mul_add, Nat.mul_one]
    omega
termination_by i j => (i, j)
theorem met_small : ∀ N : _root_.Fin 12, N.val = 0 ∨ (metLF (N.val : Int) (tabC N.val N.val 0)).isPerm (kindsN (N.val : Int)) = true := by decide +kernel
theorem met_perm {N : Nat} (h1 : 1 ≤ N) (h2 : N < 12) : (metL (N : Int) (tabC N N 0)).Perm (kindsN (N : Int)) := by
  rw [metL_eq]
  rcases met_small ⟨N, h2⟩ with h | h
  · have h : N = 0 := h
    omega
  · exact List.isPerm_iff.mp h
theorem edge_small : ∀ N : _root_.Fin 14, N.val = 0 ∨ kindF (N.val : Int) 0 ((N.val : Int) - 1) ∈ kindsN (N.val : Int) := by decide +kernel
theorem edge_in {n : Int} (h1 : 1 ≤ n) (h2 : n < 14) : kindN n 0 (n - 1) ∈ kindsN n := by
  obtain ⟨N, rfl⟩ := Int.eq_ofNat_of_zero_le (show 0 ≤ n by omega)
  rw [kindF_eq]
  rcases edge_small ⟨N, by omega⟩ with h | h
  · have h : N = 0 := h
    omega
  · exact h
def kcode (k : Kind) : Int := TS.code 4 [k.1, k.2.1, k.2.2]
theorem code_all : (all24.map kcode).Pairwise (· < ·) := by decide
theorem kcode_inj {a b : Kind} (ha : a ∈ all24) (hb : b ∈ all24) (h : kcode a = kcode b) : a = b := by
  have z : ∀ a ∈ all24, ∀ b ∈ all24, kcode a = kcode b → a = b := by decide
  exact z a ha b hb h
theorem kinds_sub (n : Int) : ∀ k ∈ kindsN n, k ∈ all24 := fun k hk => (List.mem_filter.mp hk).1
theorem kinds_len (n : Int) : (kindsN n).length ≤ 24 := List.length_filter_le _ _
theorem map_inj_on {f : Kind → Int} : ∀ {a b : List Kind}, (∀ x ∈ a, x ∈ all24) → (∀ x ∈ b, x ∈ all24) → (∀ x ∈ all24, ∀ y ∈ all24, f x = f y → x = y) → a.map f = b.map f → a = b
  | [], [], _, _, _, _ => rfl
  | [], _ :: _, _, _, _, h => by cases h
  | _ :: _, [], _, _, _, h => by cases h
  | x :: a, y :: b, ha, hb, hf, h => by
    obtain ⟨e1, e2⟩ := List.cons.inj h
    rw [hf x (ha x (List.mem_cons_self ..)) y (hb y (List.mem_cons_self ..)) e1, map_inj_on (fun z hz => ha z (List.mem_cons_of_mem _ hz)) (fun z hz => hb z (List.mem_cons_of_mem _ hz)) hf e2]
/-- the one ascending list of these kinds -/
theorem kinds_one {ys : List Kind} {n : Int} (pm : ys.Perm (kindsN n)) (pw : ys.Pairwise fun a b => kcode a ≤ kcode b) : ys = kindsN n := by
  have s2 : ((kindsN n).map kcode).Pairwise (· ≤ ·) := by
    have z : ((kindsN n).map kcode).Pairwise (· < ·) := (code_all).sublist ((List.filter_sublist (l := all24)).map kcode)
    exact z.imp fun h => Int.le_of_lt h
  have e := PySem.W.os_sorted_one (pm.map kcode) (List.pairwise_map.mpr pw) s2
  exact map_inj_on (fun x hx => kinds_sub n x (pm.mem_iff.mp hx)) (kinds_sub n) (fun x hx y hy => kcode_inj hx hy) e
theorem refs_of {ys xs : List V} (h : ys.Perm xs) : ∀ L : List (Addr × Kind), xs = refK L → ∃ L', L'.Perm L ∧ ys = refK L' := by
  induction h with
  | nil => exact fun L e => ⟨L, .refl _, e⟩
  | @cons x l1 l2 p ih =>
    intro L e
    match L, e with
    | q :: L, e =>
      obtain ⟨e1, e2⟩ := List.cons.inj e
      obtain ⟨L', p', e'⟩ := ih L e2
      exact ⟨q :: L', p'.cons q, by rw [e1, e']; rfl⟩
  | swap x y l =>
    intro L e
    match L, e with
    | q :: r :: L, e =>
      obtain ⟨e1, e2⟩ := List.cons.inj e
      obtain ⟨e3, e4⟩ := List.cons.inj e2
      exact ⟨r :: q :: L, .swap _ _ _, by rw [e1, e3, e4]; rfl⟩
  | trans p1 p2 i1 i2 =>
    intro L e
    obtain ⟨L1, q1, e1⟩ := i2 L e
    obtain ⟨L2, q2, e2⟩ := i1 L1 e1
    exact ⟨L2, q2.trans q1, e2⟩
/-- kinds as data -/
theorem kindsD {K : PySem.W.Frag} {H : Hp} : ∀ {L : List (Addr × Kind)}, PK H L → DpAll K H (refK L) (L.map fun q => triD q.2)
  | [], _ => .nil
  | q :: L, h => .cons (triDp (h q (List.mem_cons_self ..))) (kindsD fun x hx => h x (List.mem_cons_of_mem _ hx))
theorem kinds_lay (L : List (Addr × Kind)) : ∀ d ∈ L.map (fun q => triD q.2), d.canLay0 = true ∧ d.depth ≤ 60 := fun d hd => by
  obtain ⟨q, _, rfl⟩ := List.mem_map.mp hd
  exact tri_lay _
theorem any_kind (L : List (Addr × Kind)) (a : Kind) : ((L.map fun q => triD q.2).any fun z => PyData.eqv z (triD a)) = decide (a ∈ L.map (·.2)) := by
  rw [Bool.eq_iff_iff, List.any_map, List.any_eq_true, decide_eq_true_eq, List.mem_map]
  constructor
  · rintro ⟨q, hq, e⟩
    refine ⟨q, hq, ?_⟩
    have e : PyData.eqv (triD q.2) (triD a) = true := e
    rw [tri_eqv] at e
    exact of_decide_eq_true e
  · rintro ⟨q, hq, e⟩
    refine ⟨q, hq, ?_⟩
    show PyData.eqv (triD q.2) (triD a) = true
    rw [tri_eqv]
    exact decide_eq_true e
theorem eqv_kinds (M : List (Addr × Kind)) : PyData.eqv (.tuple (M.map fun q => triD q.2)) (.tuple (M.map fun q => triD q.2)) = true := by
  have all : ∀ M : List (Addr × Kind), PyData.eqvAll (M.map fun q => triD q.2) (M.map fun q => triD q.2) = true := fun M => by
    induction M with
    | nil => rfl
    | cons q M ih =>
      show (PyData.eqv (triD q.2) (triD q.2) && PyData.eqvAll (M.map fun q => triD q.2) (M.map fun q => triD q.2)) = true
      rw [ih, tri_eqv, decide_eq_true rfl]
      rfl
  exact all M
/-! ### x not in a tuple of data -/
def rNotInTu (K : PySem.W.Frag) : R2 := fun x y H Q => ∃ d ds, Dp K H x d ∧ Dp K H y (.tuple ds) ∧ PySem.SeqAt.shaped d = true ∧ PySem.SeqAt.shaped (.tuple ds) = true ∧ Q (.bl (!ds.any fun z => PyData.eqv z d)) H
theorem op_notInTu {X : Cx} (hu : X.A.units + 65 < cLine) : OpR X (compareOp .NotIn) (rNotInTu X.K) := by
  intro pins s σ H x y v u Q I rx ry h
  obtain ⟨d, ds, hd, he, sd, se, q⟩ := h
  obtain ⟨as, r1⟩ := Dp.reads I d x v hd rx
  obtain ⟨bs, r2⟩ := Dp.reads I (.tuple ds) y u he ry
  have l2 := PySem.SeqAt.canLay_of_shaped se
  have dp := PySem.SeqAt.depth_of_shaped sd
  refine PySem.SeqAt.notIn_tuple_reads r2 r1 (by simpa [PyData.canLay0] using l2) (PySem.SeqAt.canLay_of_shaped sd) ?_ ⟨.bl _, H, I, rfl, q⟩
  have h1 : min (PyData.depthAll ds) d.depth ≤ d.depth := Nat.min_le_right _ _
  omega
/-! ### promises -/
def spKindsOf : Sp := fun vs H Q _ => ∃ n : Int, vs = [.int n] ∧ 1 ≤ n ∧ n ≤ big ∧ ∀ (t : Addr) (M : List (Addr × Kind)) (H' : Hp), Same H H' → H' t = some (.tup (refK M)) → PK H' M → M.map (·.2) = kindsN n → Q (.ref t) H'
def spMet : Sp := fun vs H Q _ => ∃ N : Nat, vs = [.int (N : Int)] ∧ 1 ≤ N ∧ N < 12 ∧ ∀ (t : Addr) (M : List (Addr × Kind)) (H' : Hp), Same H H' → H' t = some (.tup (refK M)) → PK H' M → M.map (·.2) = kindsN (N : Int) → Q (.ref t) H'
end Sq
namespace Sq
open PySem L2 PySem.Spec PyProof.Rows
/-! ### for k in d, d a dict of the written part, whatever its keys are -/
/-- the dict at d is written, plain, and its keys are those values -/
structure WDict (K : PySem.W.Frag) (d : Addr) (es : Array DictEntry) (ep : Nat) (ks : List V) : Prop where
  lk : ∃ o, K.lookup d = some o ∧ o.ExactDict ∧ o.data = .dict es ep
  sys : (d == sysModules) = false
  keys : Vals ks (es.toList.map (·.key))
/-- its keys, one behind the other -/
def Itw (ks : List V) : It := ⟨fun i _ => i < ks.length, fun i H x H' => H' = H ∧ ks[i]? = some x, fun i _ => ks.length ≤ i⟩
theorem walk_kw {ks : List V} : Walk (Itw ks) ks.length (fun _ => True) (YAt ks) :=
  ⟨fun _ _ hi _ => hi, fun _ _ => Nat.le_refl _, fun _ _ _ _ _ _ y => y⟩
section
variable {K : PySem.W.Frag} {d : Addr} {es : Array DictEntry} {ep : Nat} {ks : List V}
theorem WDict.raw (D : WDict K d es ep ks) {h : Heap} (X : K.In h) : h.DictRaw d es ep := by
  obtain ⟨o, l, e, q⟩ := D.lk
  exact ⟨o, X _ _ l, e, q⟩
theorem WDict.len (D : WDict K d es ep ks) : ks.length = es.size := by
  have z := D.keys.length
  rw [List.length_map, Array.length_toList] at z
  exact z
theorem WDict.key (D : WDict K d es ep ks) {i : Nat} (hi : i < es.size) : ∃ x, ks[i]? = some x ∧ RelV x es[i].key := by
  have hk : i < ks.length := by rw [D.len]; exact hi
  refine ⟨ks[i], List.getElem?_eq_getElem hk, ?_⟩
  obtain ⟨u, hu, ru⟩ := D.keys.get (List.getElem?_eq_getElem hk)
  rw [List.getElem?_map, Array.getElem?_toList, Array.getElem?_eq_getElem hi] at hu
  cases hu
  exact ru
theorem turn_kw {P : Program} {w : World} {tg : Expr} (D : WDict K d es ep ks) (it : Addr) : Turn P w K tg (Itw ks) [it] it (fun i h => h.IsKeyIter it d i es.size ep) where
  mem := by simp
  obj := fun i h st b hb => by
    have e : b = it := by simpa using hb
    subst e
    obtain ⟨oi, e, c, dd⟩ := st
    exact ⟨oi, e, fun v z => by rw [dd] at z; cases z⟩
  keep := fun i h h' st k => by
    obtain ⟨oi, e, c⟩ := st
    exact ⟨oi, k it (by simp) _ e, c⟩
  item := by
    intro X hP hw hK hc i pins s σ H E I hf st hg
    subst hP hw hK
    have hi : i < es.size := by rw [← D.len]; exact hg
    obtain ⟨f0, f1, f2, f3, f4, f5⟩ := hf it (by simp)
    obtain ⟨x, hx, rx⟩ := D.key hi
    refine wpAny_pyNext_keys_item_raw st (D.raw I.kIn) hi fun h' st' sb => ?_
    have I1 : Inv X pins σ H { s with heap := h' } := I.turned (t' := s.toks) (fun b ob hb e => (sb.2 b hb).trans e) f0 f1 f3 f4 f5
    obtain ⟨oi, e, c, dd⟩ := id st'
    exact ⟨_, rfl, go_of (s := { s with heap := h' }) e c dd (by decide) ⟨x, H, I1, rx, ⟨rfl, hx⟩, st', fun b hb => (hf b hb).1⟩⟩
  done := by
    intro X hP hw hK hc i pins s σ H E I hf st hg
    subst hP hw hK
    obtain ⟨f0, f1, f2, f3, f4, f5⟩ := hf it (by simp)
    have hge : es.size ≤ i := by rw [← D.len]; exact hg
    exact wpAny_pyNext_keys_end_raw (I.ok.hd hc) st (D.raw I.kIn) hge fun h' eb => ⟨rfl, I.turned (t' := s.toks) (fun b ob hb e => eb b ob hb e) f0 f1 f3 f4 f5⟩
  self := fun A i s Q E st h => wpAny_pyIter_keyiter st h
def iKeysW (d : Addr) (ks : List V) (td : TE) : TI := fun σ H R => td σ H fun x H1 => x = .ref d ∧ R (Itw ks) H1
theorem pi_keysW {X : Cx} {tg e : Expr} {td : TE} (D : WDict X.K d es ep ks) (he : PE X e td) : PI X tg e (iKeysW d ks td) := by
  refine ⟨fun pins s σ H R I h => ?_⟩
  refine thn (he.run pins s σ H _ I h) fun u s1 ⟨x, H1, I1, rx, ex, q⟩ => ?_
  subst ex
  obtain rfl : u = Value.ref d := rx
  refine wpAny_pyIter_dict_raw D.sys (D.raw I1.kIn) ?_
  have st : (s1.heap.push { cls := .type "dict_keyiterator", data := .fields #[.ref d, .int 0 0, .int es.size 0, .int ep 0] }).IsKeyIter s1.heap.objs.size d 0 es.size ep := ⟨_, Heap.get?_push_size _ rfl, rfl, rfl⟩
  exact pi_one (tk := s1.toks) I1 _ (turn_kw D _) st q
end
/-- a written tuple of numbers, told -/
def tupW (K : PySem.W.Frag) (v : Value) : Option (List Int) := match v with
  | .ref a => match K.lookup a with
    | some ⟨.type "tuple", _, .seq its _, _⟩ => its.toList.mapM fun u => match u with | .int i _ => some i | _ => none
    | _ => none
  | _ => none
end Sq
namespace Sq
open PySem L2
/-- kinds that stand at their places, written ones too -/
def PKS (K : PySem.W.Frag) (H : Hp) (L : List (Addr × Kind)) : Prop := ∀ q ∈ L, SqT K H q.1 [.int q.2.1, .int q.2.2.1, .int q.2.2.2]
theorem PKS.same {K : PySem.W.Frag} {H H' : Hp} {L : List (Addr × Kind)} (h : PKS K H L) (s : Same H H') : PKS K H' L := fun q hq => (h q hq).ext s
theorem kindsDS {K : PySem.W.Frag} {H : Hp} : ∀ {L : List (Addr × Kind)}, PKS K H L → DpAll K H (refK L) (L.map fun q => triD q.2)
  | [], _ => .nil
  | q :: L, h => .cons (.tup (h q (List.mem_cons_self ..)) (.cons (.int _) (.cons (.int _) (.cons (.int _) .nil)))) (kindsDS fun x hx => h x (List.mem_cons_of_mem _ hx))
def spLeastS (K : PySem.W.Frag) : Sp := fun vs H Q _ => ∃ (t : Addr) (a b c : Int), vs = [.ref t] ∧ SqT K H t [.int a, .int b, .int c] ∧ Q (.int (leastN a b c)) H
def spGroupS (K : PySem.W.Frag) : Sp := fun vs H Q _ => ∃ (n : Int) (t : Addr) (a b c : Int), vs = [.int n, .ref t] ∧ SqT K H t [.int a, .int b, .int c] ∧ KindR a b c ∧ n ≤ big ∧ ∀ H', Same H H' → Q (.int (grpN n a b c)) H'
def spKindsOfS (K : PySem.W.Frag) : Sp := fun vs H Q _ => ∃ n : Int, vs = [.int n] ∧ 1 ≤ n ∧ n ≤ big ∧ ∀ (t : Addr) (M : List (Addr × Kind)) (H' : Hp), Same H H' → H' t = some (.tup (refK M)) → PKS K H' M → M.map (·.2) = kindsN n → Q (.ref t) H'
theorem vals_mapM : ∀ {us : List Value} {is : List Int}, (us.mapM fun u => match u with | .int i _ => some i | _ => none) = some is → Vals (is.map V.int) us
  | [], is, h => by
    cases h
    exact .nil
  | u :: us, is, h => by
    rw [List.mapM_cons] at h
    cases u with
    | int i t =>
      cases e : (us.mapM fun u => match u with | .int i _ => some i | _ => none) with
      | none =>
        rw [e] at h
        cases h
      | some js =>
        rw [e] at h
        cases h
        exact .cons ⟨t, rfl⟩ (vals_mapM e)
    | _ => cases h
theorem tupW_at {K : PySem.W.Frag} {v : Value} {is : List Int} (h : tupW K v = some is) (hl : is.length ≤ 3) : ∃ a, v = .ref a ∧ ∀ H, SqT K H a (is.map V.int) := by
  unfold tupW at h
  split at h
  case h_2 => cases h
  rename_i a
  split at h
  case h_2 => cases h
  rename_i d its n sl e
  have z := vals_mapM h
  refine ⟨a, rfl, fun H => .inr ⟨_, its, n, e, rfl, rfl, ?_, z⟩⟩
  have y := z.length
  rw [List.length_map] at y
  have y2 : its.toList.length = its.size := Array.length_toList
  have h3 : 3 ≤ sizeLine := by decide
  omega
theorem keys_of {K : PySem.W.Frag} : ∀ {es : List DictEntry} {ks : List Kind}, es.map (fun e => tupW K e.key) = ks.map (fun k => some [k.1, k.2.1, k.2.2]) → ∃ LK : List (Addr × Kind), Vals (refK LK) (es.map (·.key)) ∧ (∀ H, PKS K H LK) ∧ LK.map (·.2) = ks
  | [], [], _ => ⟨[], .nil, (fun H q hq => by cases hq), rfl⟩
  | [], _ :: _, h => by cases h
  | _ :: _, [], h => by cases h
  | e :: es, k :: ks, h => by
    obtain ⟨h1, h2⟩ := List.cons.inj h
    obtain ⟨LK, a1, a2, a3⟩ := keys_of h2
    obtain ⟨a, ea, ha⟩ := tupW_at h1 (Nat.le_refl _)
    refine ⟨(a, k) :: LK, .cons (by show RelV (V.ref a) e.key; rw [ea]; rfl) a1, fun H q hq => ?_, by rw [List.map_cons, a3]⟩
    rcases List.mem_cons.mp hq with e2 | hq
    · rw [e2]
      exact ha H
    · exact a2 H q hq
/-- the written dict of the kinds -/
structure WKinds (K : PySem.W.Frag) (d : Addr) : Prop where
  ex : ∃ (es : Array DictEntry) (ep : Nat) (LK : List (Addr × Kind)), WDict K d es ep (refK LK) ∧ (∀ H, PKS K H LK) ∧ LK.map (·.2) = all24
theorem WKinds.of {K : PySem.W.Frag} {d : Addr} {es : Array DictEntry} {ep : Nat} (lk : K.lookup d = some ⟨.type "dict", none, .dict es ep, #[]⟩) (hs : (d == sysModules) = false)
    (hk : es.toList.map (fun e => tupW K e.key) = all24.map (fun k => some [k.1, k.2.1, k.2.2])) : WKinds K d := by
  obtain ⟨LK, a1, a2, a3⟩ := keys_of hk
  exact ⟨es, ep, LK, ⟨⟨_, lk, ⟨rfl, rfl, rfl⟩, rfl⟩, hs, a1⟩, a2, a3⟩
end Sq
namespace Sq
open PySem L2 TL
section
variable {P : Program} {w : World} {K : PySem.W.Frag} {mg : Str → Option Value} {base : Heap}
abbrev s_is_whole : Stmt := top 6
theorem sc_is_whole : FnScope ["value"] ["value"] (defScope s_is_whole) := ⟨rfl, rfl, rfl, by decide +kernel, rfl, by decide +kernel, by decide +kernel⟩
theorem ok_is_whole {f : Addr} {fd : FuncData} (F : Fun K "is_whole" "is_whole" s_is_whole f fd) (T : Bt mg)  : FnOk P w K mg base CX0 1 f fd ["value"] spWhole := by
  refine F.ok sc_is_whole (fun vs H Q E h => ?_) (fun cdv A outer s H vs Q E hr h => ?_)
  · obtain ⟨n, rfl, _⟩ := h
    rfl
  · obtain ⟨n, rfl, q⟩ := h
    refine ⟨_, (pss_one (ps_ret (pe_and (pe_callB call_isi (by rfl) T.isinstance (by decide +kernel) (pa_cons (pv 0) (pa_cons (pe_bltn (v := .ty "int") (by rfl) T.int (by decide +kernel) rfl) pa_nil)))
            (pe_and (pe_cmpR op_notTF (pv 0) pe_bl (nomark _))
            (pe_one (pe_cmpR op_notTF (pv 0) pe_bl (nomark _))))))), ?_⟩
    refine ⟨_, rfl, _, _, .type "int", _, true, rfl, .ty "int", .base (.int n), kit_ty (by decide +kernel), true, rfl, ?_⟩
    refine iteT ?_
    refine ⟨_, rfl, _, rfl, rfl, _, rfl, ?_⟩
    refine iteT ?_
    exact ⟨_, rfl, _, rfl, rfl, q⟩
abbrev s_is_within : Stmt := top 7
theorem sc_is_within : FnScope ["value", "least", "most"] ["value", "least", "most"] (defScope s_is_within) := ⟨rfl, rfl, rfl, by decide +kernel, rfl, by decide +kernel, by decide +kernel⟩
theorem ok_is_within {f : Addr} {fd : FuncData} (F : Fun K "is_within" "is_within" s_is_within f fd) (T : Bt mg) (G_is_whole : FB P w K mg base "is_whole" 1 ["value"] spWhole) : FnOk P w K mg base CX0 2 f fd ["value", "least", "most"] spWithin := by
  refine F.ok sc_is_within (fun vs H Q E h => ?_) (fun cdv A outer s H vs Q E hr h => ?_)
  · obtain ⟨n, a, b, rfl, _⟩ := h
    rfl
  · obtain ⟨n, a, b, rfl, q⟩ := h
    refine ⟨_, (pss_one (ps_ret (pe_and (pe_fb G_is_whole hr (by decide) (by rfl) (pa_cons (pv 0) pa_nil))
            (pe_one (pe_chain op_le op_le (pv 1) (pv 0) (pv 2)))))), ?_⟩
    refine ⟨_, rfl, n, rfl, true, rfl, ?_⟩
    refine iteT ?_
    refine ⟨_, rfl, _, rfl, _, _, rfl, rfl, _, rfl, ?_⟩
    by_cases h : a ≤ n
    · rw [decide_eq_true h] at q ⊢
      exact iteT ⟨_, rfl, _, _, rfl, rfl, q⟩
    · rw [decide_eq_false h] at q ⊢
      exact iteF q
abbrev s_check_size : Stmt := top 9
theorem sc_check_size : FnScope ["size"] ["size"] (defScope s_check_size) := ⟨rfl, rfl, rfl, by decide +kernel, rfl, by decide +kernel, by decide +kernel⟩
theorem ok_check_size {f : Addr} {fd : FuncData} (F : Fun K "check_size" "check_size" s_check_size f fd) (T : Bt mg) (G_is_within : FB P w K mg base "is_within" 2 ["value", "least", "most"] spWithin) {u : Tok} (mMS : mg "MOST_SIZE" = some (.int big u)) : FnOk P w K mg base CX0 3 f fd ["size"] spSize := by
  refine F.ok sc_check_size (fun vs H Q E h => ?_) (fun cdv A outer s H vs Q E hr h => ?_)
  · obtain ⟨n, rfl, _⟩ := h
    rfl
  · obtain ⟨n, rfl, h1, h2, q⟩ := h
    refine ⟨_, (pss_one (ps_if (pt_not (pt_val (pe_fb G_is_within hr (by decide) (by rfl) (pa_cons (pv 0) (pa_cons pe_int (pa_cons (pe_glob (v := .int big) (by rfl) mMS ⟨_, rfl⟩) pa_nil))))))
        (pss_one ps_never)
        pss_nil)), ?_⟩
    refine ⟨_, rfl, n, 1, big, rfl, _, rfl, ?_⟩
    rw [decide_eq_true h1, decide_eq_true h2]
    exact iteF q
abbrev s_is_cell : Stmt := top 8
theorem sc_is_cell : FnScope ["size", "value", "number"] ["size", "value"] (defScope s_is_cell) := ⟨rfl, rfl, rfl, by decide +kernel, rfl, by decide +kernel, by decide +kernel⟩
theorem ok_is_cell {f : Addr} {fd : FuncData} (F : Fun K "is_cell" "is_cell" s_is_cell f fd) (T : Bt mg) (G_is_within : FB P w K mg base "is_within" 2 ["value", "least", "most"] spWithin) : FnOk P w K mg base CX0 3 f fd ["size", "value"] spCell := by
  refine F.ok sc_is_cell (fun vs H Q E h => ?_) (fun cdv A outer s H vs Q E hr h => ?_)
  · obtain ⟨n, t, q, rfl, _⟩ := h
    rfl
  · obtain ⟨n, t, q, rfl, ht, ⟨⟨a0, a1⟩, b0, b1⟩, q'⟩ := h
    refine ⟨_, (pss_one (ps_ret (pe_and (pe_callB call_isi (by rfl) T.isinstance (by decide +kernel) (pa_cons (pv 1) (pa_cons (pe_bltn (v := .ty "tuple") (by rfl) T.tuple (by decide +kernel) rfl) pa_nil)))
            (pe_and (pe_cmpR op_eq (pe_callB call_len_seq (by rfl) T.len PySem.boot_len (pa_cons (pv 1) pa_nil)) pe_int (nomark _))
            (pe_one (pe_callB (cr_all (by rfl)) (by rfl) T.all (by decide +kernel) (pa_cons (pe_lc (own := [("number", 2)]) (g := gName 2) (by rfl) sc_is_cell.nd (pi_tup (pv 1)) (blkOk_by (own := [("number", 2)]) (N := ["size", "value", "number"]) (sc := defScope s_is_cell) (by decide +kernel))
            (fun _ _ _ _ _ => (pg_name (i := 2) sc_is_cell.nd rfl (by first | exact .inl rfl | exact .inr rfl))) (fun _ _ _ _ _ => pts_nil) (fun _ _ _ _ _ => (pe_fb G_is_within hr (by decide) (by rfl) (pa_cons (pv 2) (pa_cons pe_int (pa_cons (pe_op op_sub (pv 0) pe_int) pa_nil)))))) pa_nil))))))), ?_⟩
    refine ⟨_, rfl, _, _, .type "tuple", _, true, rfl, .ty "tuple", .base (.tup ht), kit_ty (by decide +kernel), true, rfl, ?_⟩
    refine iteT ?_
    refine ⟨_, rfl, t, _, rfl, .inr (SqT.of ht), rfl, _, rfl, ?_⟩
    refine iteT ?_
    refine ⟨_, rfl, t, rfl, ⟨_, SqT.of ht⟩, fun D nD => ?_⟩
    refine lc_tup (K := K) (a := t) (xs := [.int q.1, .int q.2]) (fun j H' => Same H H' ∧ ∃ bs : List Bool, H' D = some (.lst (bs.map V.bl)) ∧ bs.all id = true ∧ bs.length = j)
      ⟨same_new nD, [], upd_same, rfl, rfl⟩ (fun j H' _ h => SqT.of (h.1 _ _ ht)) (fun j x H' hj h => ?_) (fun H' h => ?_)
    · obtain ⟨s3, bs, hD, hall', hlen⟩ := h
      refine ⟨rfl, ?_⟩
      have hx : ∃ i : Int, x = .int i ∧ 0 ≤ i ∧ i ≤ n - 1 := by
        match j, hj with
        | 0, hj => cases hj; exact ⟨_, rfl, a0, by omega⟩
        | 1, hj => cases hj; exact ⟨_, rfl, b0, by omega⟩
      obtain ⟨i, rfl, i0, i1⟩ := hx
      have hj2 : j < 2 := by
        obtain ⟨h, _⟩ := List.getElem?_eq_some_iff.mp hj
        exact h
      refine ⟨_, rfl, _, rfl, _, _, rfl, rfl, i, 0, n - 1, rfl, ?_⟩
      rw [decide_eq_true i0, decide_eq_true i1]
      refine ⟨bs.map V.bl, hD, ?_, ?_, bs ++ [true], ?_, ?_, ?_⟩
      · rw [List.length_map, hlen]
        have h6 : 2 ≤ sizeLine := by decide
        omega
      · intro c o hx
        rw [upd_ne (fun e => by rw [e, nD] at hx; cases hx)]
        exact s3 c o hx
      · rw [upd_same, List.map_append]
        all_goals rfl
      · rw [List.all_append, hall']
        rfl
      · rw [List.length_append, hlen]
        rfl
    · obtain ⟨s3, bs, hD, hall', _⟩ := h
      refine ⟨D, bs, rfl, SqL.of hD, ?_⟩
      rw [hall']
      exact q' _ s3
abbrev s_check_cell : Stmt := top 10
theorem sc_check_cell : FnScope ["size", "cell"] ["size", "cell"] (defScope s_check_cell) := ⟨rfl, rfl, rfl, by decide +kernel, rfl, by decide +kernel, by decide +kernel⟩
theorem ok_check_cell {f : Addr} {fd : FuncData} (F : Fun K "check_cell" "check_cell" s_check_cell f fd) (T : Bt mg) (G_is_cell : FB P w K mg base "is_cell" 3 ["size", "value"] spCell) : FnOk P w K mg base CX0 4 f fd ["size", "cell"] spCellOk := by
  refine F.ok sc_check_cell (fun vs H Q E h => ?_) (fun cdv A outer s H vs Q E hr h => ?_)
  · obtain ⟨n, t, q, rfl, _⟩ := h
    rfl
  · obtain ⟨n, t, q, rfl, ht, hi, q'⟩ := h
    refine ⟨_, (pss_one (ps_if (pt_not (pt_val (pe_fb G_is_cell hr (by decide) (by rfl) (pa_cons (pv 0) (pa_cons (pv 1) pa_nil)))))
        (pss_one ps_never)
        pss_nil)), ?_⟩
    refine ⟨_, rfl, _, rfl, n, t, q, rfl, ht, hi, fun H' sm => ⟨_, rfl, ?_⟩⟩
    exact iteF (q' _ sm)
abbrev s_kind_at : Stmt := top 14
theorem sc_kind_at : FnScope ["size", "row", "column", "first", "second", "third", "_"] ["size", "row", "column"] (defScope s_kind_at) := ⟨rfl, rfl, rfl, by decide +kernel, rfl, by decide +kernel, by decide +kernel⟩
theorem ok_kind_at {f : Addr} {fd : FuncData} (F : Fun K "kind_at" "kind_at" s_kind_at f fd) (T : Bt mg)  : FnOk P w K mg base CX0 1 f fd ["size", "row", "column"] spSort := by
  refine F.ok sc_kind_at (fun vs H Q E h => ?_) (fun cdv A outer s H vs Q E hr h => ?_)
  · obtain ⟨n, r, c, rfl, _⟩ := h
    rfl
  · obtain ⟨n, r, c, rfl, q'⟩ := h
    refine ⟨_, (pss_cons (ps_asg (pe_callB cr_sorted (by rfl) T.sorted (by decide +kernel) (pa_cons (pe_lst (pa_cons (pv 1) (pa_cons (pv 2) (pa_cons (pe_op op_sub (pe_op op_sub (pv 0) pe_int) (pv 1)) (pa_cons (pe_op op_sub (pe_op op_sub (pv 0) pe_int) (pv 2)) pa_nil))))) pa_nil)) (pg_lst (by rfl) (pgs_cons (pg_name (i := 3) sc_kind_at.nd rfl (by first | exact .inl rfl | exact .inr rfl)) (pgs_cons (pg_name (i := 4) sc_kind_at.nd rfl (by first | exact .inl rfl | exact .inr rfl)) (pgs_cons (pg_name (i := 5) sc_kind_at.nd rfl (by first | exact .inl rfl | exact .inr rfl)) (pgs_cons (pg_name (i := 6) sc_kind_at.nd rfl (by first | exact .inl rfl | exact .inr rfl)) pgs_nil))))))
        (pss_one (ps_ret (pe_tup (pa_cons (pe_callB (call_min2 rfl) (by rfl) T.min (by decide +kernel) (pa_cons (pv 3) (pa_cons pe_int pa_nil))) (pa_cons (pe_callB (call_min2 rfl) (by rfl) T.min (by decide +kernel) (pa_cons (pe_op op_sub (pv 4) (pv 3)) (pa_cons pe_int pa_nil))) (pa_cons (pe_callB (call_min2 rfl) (by rfl) T.min (by decide +kernel) (pa_cons (pe_op op_sub (pv 5) (pv 4)) (pa_cons pe_int pa_nil))) pa_nil))))))), ?_⟩
    refine ⟨_, rfl, _, rfl, _, rfl, _, _, rfl, rfl, _, rfl, _, _, rfl, rfl, _, rfl, _, _, rfl, rfl, _, rfl, _, _, rfl, rfl, ?_⟩

    refine ⟨by show 4 ≤ sizeLine; decide, fun p np => ?_⟩
    have s1 := same_new (o := .lst ((nums n r c).map V.int)) np
    refine ⟨p, nums n r c, rfl, SqL.of upd_same, by show 4 < 64; decide, fun ns' p2 pm pw np2 => ?_⟩
    have e := srt_of pm pw
    subst e
    obtain ⟨x, y, z, w', e4⟩ := four_of n r c
    have ek : kindN n r c = (mn x 1, mn (y - x) 2, mn (z - y) 3) := by
      unfold kindN
      rw [e4]
      rfl
    rw [e4]
    have s2 := same_new (o := .lst ([x, y, z, w'].map V.int)) np2
    refine ⟨p2, _, rfl, SqL.of upd_same, rfl, _, _, rfl, _, _, rfl, _, _, rfl, _, _, rfl, rfl, ?_⟩
    refine ⟨_, rfl, _, _, rfl, _, rfl, _, rfl, _, _, rfl, rfl, _, _, rfl, _, rfl, _, rfl, _, _, rfl, rfl, _, _, rfl, by show 3 ≤ sizeLine; decide, fun t' nt' => ?_⟩
    have s3 := same_new (o := .tup [.int (mn x 1), .int (mn (y - x) 2), .int (mn (z - y) 3)]) nt'

    exact q' t' _ ((s1.trans s2).trans s3) (by unfold Tup3; rw [ek]; exact upd_same)
abbrev s_kind_of : Stmt := top 13
theorem sc_kind_of : FnScope ["size", "cell"] ["size", "cell"] (defScope s_kind_of) := ⟨rfl, rfl, rfl, by decide +kernel, rfl, by decide +kernel, by decide +kernel⟩
theorem ok_kind_of {f : Addr} {fd : FuncData} (F : Fun K "kind_of" "kind_of" s_kind_of f fd) (T : Bt mg) (G_check_size : FB P w K mg base "check_size" 3 ["size"] spSize) (G_check_cell : FB P w K mg base "check_cell" 4 ["size", "cell"] spCellOk) (G_kind_at : FB P w K mg base "kind_at" 1 ["size", "row", "column"] spSort) : FnOk P w K mg base CX0 5 f fd ["size", "cell"] spKindOf := by
  refine F.ok sc_kind_of (fun vs H Q E h => ?_) (fun cdv A outer s H vs Q E hr h => ?_)
  · obtain ⟨n, t, q, rfl, _⟩ := h
    rfl
  · obtain ⟨n, t, q, rfl, ht, hi, n1, q'⟩ := h
    obtain ⟨fA, dA, GA, mA, kA, bA⟩ := G_kind_at
    refine ⟨_, (pss_cons (ps_expr (pe_fb G_check_size hr (by decide) (by rfl) (pa_cons (pv 0) pa_nil)))
        (pss_cons (ps_expr (pe_fb G_check_cell hr (by decide) (by rfl) (pa_cons (pv 0) (pa_cons (pv 1) pa_nil))))
        (pss_one (ps_ret (StX.pe_callS2 (Sq.FnOk.asR GA bA) (hr.mono (by decide)) kA (by rfl) mA pass0 (pa_cons (pv 0) (StX.pa_star (pv 1) pa_nil))))))), ?_⟩
    obtain ⟨r, c⟩ := q
    have hi' := hi
    obtain ⟨⟨a0, a1⟩, b0, b1⟩ := hi'
    simp only at a0 a1 b0 b1
    refine ⟨_, rfl, n, rfl, by omega, n1, ?_⟩
    refine ⟨_, rfl, _, rfl, n, t, (r, c), rfl, ht, hi, fun H1 k1 => ?_⟩
    refine ⟨_, rfl, _, rfl, t, _, rfl, .inl (SqT.of (k1 _ _ ht)), n, r, c, rfl, fun t' H' sm h3 => ?_⟩
    exact q' t' _ (k1.trans sm) h3
abbrev s_least_size : Stmt := top 18
theorem sc_least_size : FnScope ["kind", "a", "b", "c"] ["kind"] (defScope s_least_size) := ⟨rfl, rfl, rfl, by decide +kernel, rfl, by decide +kernel, by decide +kernel⟩
theorem ok_least_size {f : Addr} {fd : FuncData} (F : Fun K "least_size" "least_size" s_least_size f fd) (T : Bt mg)  : FnOk P w K mg base CX0 1 f fd ["kind"] (spLeastS K) := by
  refine F.ok sc_least_size (fun vs H Q E h => ?_) (fun cdv A outer s H vs Q E hr h => ?_)
  · obtain ⟨t, a, b, c, rfl, _⟩ := h
    rfl
  · obtain ⟨t, a, b, c, rfl, ht, q⟩ := h
    refine ⟨_, (pss_cons (ps_asg (pv 0) (pg_tup (by rfl) (pgs_cons (pg_name (i := 1) sc_least_size.nd rfl (by first | exact .inl rfl | exact .inr rfl)) (pgs_cons (pg_name (i := 2) sc_least_size.nd rfl (by first | exact .inl rfl | exact .inr rfl)) (pgs_cons (pg_name (i := 3) sc_least_size.nd rfl (by first | exact .inl rfl | exact .inr rfl)) pgs_nil)))))
        (pss_one (ps_ret (pe_op op_add (pe_op op_add (pe_op op_add (pe_op op_mul pe_int (pv 1)) (pe_op op_mul pe_int (pv 2))) (pv 3)) pe_int)))), ?_⟩
    refine ⟨_, rfl, t, _, rfl, ht, rfl, _, _, rfl, _, _, rfl, _, _, rfl, rfl, ?_⟩
    refine ⟨_, rfl, _, _, rfl, rfl, .inl ⟨by decide, by decide⟩, _, rfl, _, _, rfl, rfl, .inl ⟨by decide, by decide⟩, _, _, rfl, rfl, _, rfl, _, _, rfl, rfl, _, _, rfl, rfl, ?_⟩
    exact q
abbrev s_ways : Stmt := top 17
theorem sc_ways : FnScope ["parts", "total"] ["parts", "total"] (defScope s_ways) := ⟨rfl, rfl, rfl, by decide +kernel, rfl, by decide +kernel, by decide +kernel⟩
theorem ok_ways {f : Addr} {fd : FuncData} (F : Fun K "ways" "ways" s_ways f fd) (T : Bt mg)  : FnOk P w K mg base CX0 1 f fd ["parts", "total"] spWays := by
  refine F.ok sc_ways (fun vs H Q E h => ?_) (fun cdv A outer s H vs Q E hr h => ?_)
  · obtain ⟨p, t, rfl, _⟩ := h
    rfl
  · obtain ⟨p, t, rfl, t0, t1, q⟩ := h
    refine ⟨_, (pss_cons (ps_if (pt_cmpR op_eq (pv 0) pe_int (nomark _))
        (pss_one (ps_ret (pe_ifExp (pt_cmpR op_eq (pv 1) pe_int (nomark _)) pe_int pe_int)))
        pss_nil)
        (pss_cons (ps_if (pt_cmpR op_eq (pv 0) pe_int (nomark _))
        (pss_one (ps_ret pe_int))
        pss_nil)
        (pss_cons (ps_if (pt_cmpR op_eq (pv 0) pe_int (nomark _))
        (pss_one (ps_ret (pe_op op_add (pv 1) pe_int)))
        pss_nil)
        (pss_one (ps_ret (pe_op op_fdiv (pe_op op_mulW (pe_op op_add (pv 1) pe_int) (pe_op op_add (pv 1) pe_int)) pe_int)))))), ?_⟩
    unfold waysN at q
    refine ⟨_, rfl, rfl, _, rfl, ?_⟩
    by_cases p0 : p = 0
    · subst p0
      rw [if_pos rfl] at q
      refine iteT ?_
      refine ⟨_, rfl, rfl, _, rfl, ?_⟩
      by_cases h : t = 0
      · rw [decide_eq_true (congrArg V.int h)]
        rw [if_pos h] at q
        exact iteT q
      · rw [decide_eq_false (fun e => h (V.int.inj e))]
        rw [if_neg h] at q
        exact iteF q
    rw [decide_eq_false (fun e => p0 (by have := V.int.inj e; omega))]
    rw [if_neg p0] at q
    refine iteF ?_
    refine ⟨_, rfl, rfl, _, rfl, ?_⟩
    by_cases p1 : p = 1
    · subst p1
      exact iteT q
    rw [decide_eq_false (fun e => p1 (by have := V.int.inj e; omega))]
    rw [if_neg p1] at q
    refine iteF ?_
    refine ⟨_, rfl, rfl, _, rfl, ?_⟩
    by_cases p2 : p = 2
    · subst p2
      exact iteT ⟨_, rfl, _, _, rfl, rfl, q⟩
    rw [decide_eq_false (fun e => p2 (by have := V.int.inj e; omega))]
    rw [if_neg p2] at q
    refine iteF ?_
    refine ⟨_, rfl, _, _, rfl, rfl, _, rfl, _, _, rfl, rfl, _, _, rfl, rfl, ?_, _, _, rfl, rfl, ⟨by decide, by decide⟩, q⟩
    refine wide_mul (a := 128) (b := 128) ?_ ?_ (by decide) (by decide) (by decide)
    · have e : (2 : Nat) ^ 128 = 340282366920938463463374607431768211456 := by decide
      unfold big at t1
      omega
    · have e : (2 : Nat) ^ 128 = 340282366920938463463374607431768211456 := by decide
      unfold big at t1
      omega
abbrev s_group_count : Stmt := top 16
theorem sc_group_count : FnScope ["size", "kind", "a", "b", "c", "rest", "open_parts"] ["size", "kind"] (defScope s_group_count) := ⟨rfl, rfl, rfl, by decide +kernel, rfl, by decide +kernel, by decide +kernel⟩
theorem ok_group_count {f : Addr} {fd : FuncData} (F : Fun K "group_count" "group_count" s_group_count f fd) (T : Bt mg) (G_least_size : FB P w K mg base "least_size" 1 ["kind"] (spLeastS K)) (G_ways : FB P w K mg base "ways" 1 ["parts", "total"] spWays) : FnOk P w K mg base CX0 2 f fd ["size", "kind"] (spGroupS K) := by
  refine F.ok sc_group_count (fun vs H Q E h => ?_) (fun cdv A outer s H vs Q E hr h => ?_)
  · obtain ⟨n, t, a, b, c, rfl, _⟩ := h
    rfl
  · obtain ⟨n, t, a, b, c, rfl, ht, hk, n1, q⟩ := h
    refine ⟨_, (pss_cons (ps_asg (pv 1) (pg_tup (by rfl) (pgs_cons (pg_name (i := 2) sc_group_count.nd rfl (by first | exact .inl rfl | exact .inr rfl)) (pgs_cons (pg_name (i := 3) sc_group_count.nd rfl (by first | exact .inl rfl | exact .inr rfl)) (pgs_cons (pg_name (i := 4) sc_group_count.nd rfl (by first | exact .inl rfl | exact .inr rfl)) pgs_nil)))))
        (pss_cons (ps_set (i := 5) sc_group_count.nd rfl (by first | exact .inl rfl | exact .inr rfl) (pe_op op_sub (pv 0) (pe_fb G_least_size hr (by decide) (by rfl) (pa_cons (pv 1) pa_nil))))
        (pss_cons (ps_if (pt_cmpR op_lt (pv 5) pe_int (nomark _))
        (pss_one (ps_ret pe_int))
        pss_nil)
        (pss_cons (ps_set (i := 6) sc_group_count.nd rfl (by first | exact .inl rfl | exact .inr rfl) (pe_bm PySem.F.plainAttrs_list PySem.F.slot_list_count PySem.F.type_list_count mt_bcount (pe_lst (pa_cons (pe_cmpR op_eq (pv 2) pe_int (nomark _)) (pa_cons (pe_cmpR op_eq (pv 3) pe_int (nomark _)) pa_nil))) (pa_cons pe_bl pa_nil)))
        (pss_cons (ps_if (pt_cmpR op_eq (pv 4) pe_int (nomark _))
        (pss_one (ps_ret (pe_fb G_ways hr (by decide) (by rfl) (pa_cons (pe_op op_add (pv 6) pe_int) (pa_cons (pe_op op_fdiv (pv 5) pe_int) pa_nil)))))
        pss_nil)
        (pss_one (ps_ret (pe_ifExp (pt_cmpR op_eq (pe_op op_mod (pv 5) pe_int) pe_int (nomark _)) (pe_fb G_ways hr (by decide) (by rfl) (pa_cons (pv 6) (pa_cons (pe_op op_fdiv (pv 5) pe_int) pa_nil))) pe_int)))))))), ?_⟩
    refine ⟨_, rfl, t, _, rfl, ht, rfl, _, _, rfl, _, _, rfl, _, _, rfl, rfl, ?_⟩
    refine ⟨_, rfl, _, rfl, t, a, b, c, rfl, ht, _, _, rfl, rfl, ?_⟩
    refine ⟨_, rfl, _, _, rfl, rfl, _, rfl, ?_⟩
    obtain ⟨⟨a0, a1⟩, ⟨b0, b1⟩, ⟨c0, c1⟩⟩ := hk
    have lb : 1 ≤ leastN a b c := by
      unfold leastN
      omega
    unfold grpN at q
    by_cases h0 : n - leastN a b c < 0
    · rw [decide_eq_true h0]
      rw [if_pos h0] at q
      exact iteT (q H (Same.refl _))
    rw [decide_eq_false h0]
    rw [if_neg h0] at q
    refine iteF ?_
    refine ⟨_, rfl, rfl, _, rfl, rfl, (by show 2 ≤ sizeLine; decide), fun p np => ?_⟩
    have sm := same_new (o := .lst [.bl (decide (V.int a = V.int 1)), .bl (decide (V.int b = V.int 2))]) np
    have ea : decide (V.int a = V.int 1) = decide (a = 1) := by
      by_cases h : a = 1
      · rw [decide_eq_true h, decide_eq_true (congrArg V.int h)]
      · rw [decide_eq_false h, decide_eq_false (fun e => h (V.int.inj e))]
    have eb : decide (V.int b = V.int 2) = decide (b = 2) := by
      by_cases h : b = 2
      · rw [decide_eq_true h, decide_eq_true (congrArg V.int h)]
      · rw [decide_eq_false h, decide_eq_false (fun e => h (V.int.inj e))]
    refine ⟨.inl ⟨rfl, _, SqL.of upd_same⟩, p, [decide (V.int a = V.int 1), decide (V.int b = V.int 2)], true, rfl, rfl, SqL.of upd_same, ?_⟩
    have ec : [decide (V.int a = V.int 1), decide (V.int b = V.int 2)].count true = openN a b := by
      rw [ea, eb]
      rfl
    rw [ec]
    have hdiv : 0 ≤ (n - leastN a b c) / 2 ∧ (n - leastN a b c) / 2 ≤ big := by
      unfold big at *
      omega
    refine ⟨_, rfl, rfl, _, rfl, ?_⟩
    by_cases h3 : c = 3
    · rw [decide_eq_true (congrArg V.int h3)]
      rw [if_pos h3] at q
      refine iteT ?_
      refine ⟨_, rfl, _, _, rfl, rfl, _, rfl, _, _, rfl, rfl, ⟨by decide, by decide⟩, openN a b + 1, _, rfl, hdiv.1, hdiv.2, ?_⟩
      exact q _ sm
    rw [decide_eq_false (fun e => h3 (V.int.inj e))]
    rw [if_neg h3] at q
    refine iteF ?_
    refine ⟨_, rfl, _, _, rfl, rfl, (by show (0 : Int) < 2; decide), rfl, _, rfl, ?_⟩
    by_cases h2 : (n - leastN a b c) % 2 = 0
    · rw [decide_eq_true (congrArg V.int h2)]
      rw [if_pos h2] at q
      refine iteT ?_
      refine ⟨_, rfl, _, rfl, _, _, rfl, rfl, ⟨by decide, by decide⟩, openN a b, _, rfl, hdiv.1, hdiv.2, ?_⟩
      exact q _ sm
    · rw [decide_eq_false (fun e => h2 (V.int.inj e))]
      rw [if_neg h2] at q
      exact iteF (q _ sm)
abbrev s__law_sort : Stmt := top 23
theorem sc__law_sort : FnScope ["_law_size", "_law_row", "_law_column", "_law_low", "_law_middle", "_law_high", "_law_top"] ["_law_size", "_law_row", "_law_column"] (defScope s__law_sort) := ⟨rfl, rfl, rfl, by decide +kernel, rfl, by decide +kernel, by decide +kernel⟩
theorem ok__law_sort {f : Addr} {fd : FuncData} (F : Fun K "_law_sort" "_law_sort" s__law_sort f fd) (T : Bt mg)  : FnOk P w K mg base CX0 1 f fd ["_law_size", "_law_row", "_law_column"] spSort := by
  refine F.ok sc__law_sort (fun vs H Q E h => ?_) (fun cdv A outer s H vs Q E hr h => ?_)
  · obtain ⟨n, r, c, rfl, _⟩ := h
    rfl
  · obtain ⟨n, r, c, rfl, q'⟩ := h
    refine ⟨_, (pss_cons (ps_asg (pe_callB cr_sorted (by rfl) T.sorted (by decide +kernel) (pa_cons (pe_lst (pa_cons (pv 1) (pa_cons (pv 2) (pa_cons (pe_op op_sub (pe_op op_sub (pv 0) pe_int) (pv 1)) (pa_cons (pe_op op_sub (pe_op op_sub (pv 0) pe_int) (pv 2)) pa_nil))))) pa_nil)) (pg_lst (by rfl) (pgs_cons (pg_name (i := 3) sc__law_sort.nd rfl (by first | exact .inl rfl | exact .inr rfl)) (pgs_cons (pg_name (i := 4) sc__law_sort.nd rfl (by first | exact .inl rfl | exact .inr rfl)) (pgs_cons (pg_name (i := 5) sc__law_sort.nd rfl (by first | exact .inl rfl | exact .inr rfl)) (pgs_cons (pg_name (i := 6) sc__law_sort.nd rfl (by first | exact .inl rfl | exact .inr rfl)) pgs_nil))))))
        (pss_one (ps_ret (pe_tup (pa_cons (pe_callB (call_min2 rfl) (by rfl) T.min (by decide +kernel) (pa_cons (pv 3) (pa_cons pe_int pa_nil))) (pa_cons (pe_callB (call_min2 rfl) (by rfl) T.min (by decide +kernel) (pa_cons (pe_op op_sub (pv 4) (pv 3)) (pa_cons pe_int pa_nil))) (pa_cons (pe_callB (call_min2 rfl) (by rfl) T.min (by decide +kernel) (pa_cons (pe_op op_sub (pv 5) (pv 4)) (pa_cons pe_int pa_nil))) pa_nil))))))), ?_⟩
    refine ⟨_, rfl, _, rfl, _, rfl, _, _, rfl, rfl, _, rfl, _, _, rfl, rfl, _, rfl, _, _, rfl, rfl, _, rfl, _, _, rfl, rfl, ?_⟩

    refine ⟨by show 4 ≤ sizeLine; decide, fun p np => ?_⟩
    have s1 := same_new (o := .lst ((nums n r c).map V.int)) np
    refine ⟨p, nums n r c, rfl, SqL.of upd_same, by show 4 < 64; decide, fun ns' p2 pm pw np2 => ?_⟩
    have e := srt_of pm pw
    subst e
    obtain ⟨x, y, z, w', e4⟩ := four_of n r c
    have ek : kindN n r c = (mn x 1, mn (y - x) 2, mn (z - y) 3) := by
      unfold kindN
      rw [e4]
      rfl
    rw [e4]
    have s2 := same_new (o := .lst ([x, y, z, w'].map V.int)) np2
    refine ⟨p2, _, rfl, SqL.of upd_same, rfl, _, _, rfl, _, _, rfl, _, _, rfl, _, _, rfl, rfl, ?_⟩
    refine ⟨_, rfl, _, _, rfl, _, rfl, _, rfl, _, _, rfl, rfl, _, _, rfl, _, rfl, _, rfl, _, _, rfl, rfl, _, _, rfl, by show 3 ≤ sizeLine; decide, fun t' nt' => ?_⟩
    have s3 := same_new (o := .tup [.int (mn x 1), .int (mn (y - x) 2), .int (mn (z - y) 3)]) nt'

    exact q' t' _ ((s1.trans s2).trans s3) (by unfold Tup3; rw [ek]; exact upd_same)
end
end Sq
namespace Sq
open PySem L2 TL
section
variable {P : Program} {w : World} {K : PySem.W.Frag} {mg : Str → Option Value} {base : Heap}
abbrev s_kinds_of : Stmt := top 15
theorem sc_kinds_of : FnScope ["size", "kind"] ["size"] (defScope s_kinds_of) := ⟨rfl, rfl, rfl, by decide +kernel, rfl, by decide +kernel, by decide +kernel⟩
theorem ok_kinds_of {f : Addr} {fd : FuncData} (F : Fun K "kinds_of" "kinds_of" s_kinds_of f fd) (T : Bt mg) (G_check_size : FB P w K mg base "check_size" 3 ["size"] spSize) (G_group_count : FB P w K mg base "group_count" 2 ["size", "kind"] (spGroupS K)) {aDS : Addr} (mDS : mg "DECIDING_SIZES" = some (.ref aDS)) (WK : WKinds K aDS) : FnOk P w K mg base CX0 4 f fd ["size"] (spKindsOfS K) := by
  refine F.ok sc_kinds_of (fun vs H Q E h => ?_) (fun cdv A outer s H vs Q E hr h => ?_)
  · obtain ⟨n, rfl, _⟩ := h
    rfl
  · obtain ⟨n, rfl, n0, n1, q⟩ := h
    obtain ⟨es, ep, L, DW, pKL, eKL⟩ := WK.ex
    refine ⟨_, (pss_cons (ps_expr (pe_fb G_check_size hr (by decide) (by rfl) (pa_cons (pv 0) pa_nil)))
        (pss_one (ps_ret (pe_tupleOf (by rfl) T.tuple (pe_lc (own := [("kind", 1)]) (g := gName 1) (by rfl) sc_kinds_of.nd (pi_keysW DW (pe_glob (v := .ref aDS) (by rfl) mDS rfl)) (blkOk_by (own := [("kind", 1)]) (N := ["size", "kind"]) (sc := defScope s_kinds_of) (by decide +kernel))
            (fun _ _ _ _ _ => (pg_name (i := 1) sc_kinds_of.nd rfl (by first | exact .inl rfl | exact .inr rfl))) (fun _ _ _ _ _ => (pts_one (pt_cmpR op_gt (pe_fb G_group_count hr (by decide) (by rfl) (pa_cons (pv 0) (pa_cons (pv 1) pa_nil))) pe_int (nomark _)))) (fun _ _ _ _ _ => (pv 1))))))), ?_⟩
    refine ⟨_, rfl, n, rfl, n0, n1, ?_⟩
    refine ⟨rfl, fun D nD => ?_⟩
    have s1 : Same H H := Same.refl _
    have pK := pKL H
    have eL := eKL
    have lL : L.length = 24 := by
      have e := congrArg List.length eL
      rw [List.length_map] at e
      exact e
    refine lc_it (walk_kw (ks := refK L)) (fun i H' => Same H H' ∧ ∃ M : List (Addr × Kind), H' D = some (.lst (refK M)) ∧ PKS K H' M ∧ M.map (·.2) = (all24.take i).filter fun k => decide (0 < grpN n k.1 k.2.1 k.2.2))
      ⟨same_new nD, [], upd_same, (fun q hq => by cases hq), rfl⟩ (fun i H' _ _ => trivial) (fun i x H0 H2 hi0 h hx => ?_) (fun H2 h => ?_)
    · obtain ⟨sm, M, hM, pM, eM⟩ := h
      obtain ⟨rfl, hx⟩ := hx
      unfold refK at hx
      rw [List.getElem?_map] at hx
      have hi : i < L.length := by
        rcases Nat.lt_or_ge i L.length with h | h
        · exact h
        · rw [List.getElem?_eq_none h] at hx
          cases hx
      rw [List.getElem?_eq_getElem hi] at hx
      cases hx
      have mq : L[i] ∈ L := List.getElem_mem hi
      have my : L[i].2 ∈ all24 := by rw [← eL]; exact List.mem_map_of_mem mq
      have i24 : i < all24.length := by rw [show all24.length = 24 from rfl]; omega
      have ei : all24[i] = L[i].2 := by
        have e : (L.map (·.2))[i]? = all24[i]? := by rw [eL]
        rw [List.getElem?_map, List.getElem?_eq_getElem hi, List.getElem?_eq_getElem i24] at e
        exact (Option.some.inj e).symm
      have tk : all24.take (i + 1) = all24.take i ++ [L[i].2] := by rw [← ei]; exact (List.take_append_getElem i24).symm
      have lM : M.length ≤ 24 := by
        have e := congrArg List.length eM
        rw [List.length_map] at e
        have h1 := List.length_filter_le (fun k : Kind => decide (0 < grpN n k.1 k.2.1 k.2.2)) (all24.take i)
        rw [List.length_take] at h1
        have h24 : all24.length = 24 := rfl
        omega
      refine ⟨rfl, ?_⟩
      refine ⟨_, rfl, _, rfl, n, L[i].1, _, _, _, rfl, (pK _ mq).ext sm, all24_R _ my, n1, fun H3 s3 => ?_⟩
      refine ⟨_, _, rfl, rfl, _, rfl, ?_⟩
      have hM3 := s3 _ _ hM
      have pM3 := pM.same s3
      have hk3 := (pK _ mq).ext (sm.trans s3)
      by_cases hp : 0 < grpN n L[i].2.1 L[i].2.2.1 L[i].2.2.2
      · rw [decide_eq_true hp]
        refine iteT ?_
        refine ⟨_, rfl, refK M, hM3, ?_, fun b o hb => ?_, M ++ [L[i]], ?_, fun x hx => ?_, ?_⟩
        · unfold refK
          rw [List.length_map]
          have h6 : 24 < sizeLine := by decide
          omega
        · rw [upd_ne (fun e => by rw [e, nD] at hb; cases hb)]
          exact s3 _ _ (sm b o hb)
        · rw [upd_same]
          unfold refK
          rw [List.map_append]
          rfl
        · have off : ∀ {a : Addr} {xs : List V}, SqT K H3 a xs → SqT K (upd H3 D (.lst (refK M ++ [V.ref L[i].1]))) a xs := fun {a xs} h => by
            rcases h with h | h
            · rcases h with h | ⟨o, h⟩
              · exact .inl (.inl ((upd_ne (fun z => by rw [z, hM3] at h; cases h)).trans h))
              · exact .inl (.inr ⟨o, (upd_ne (fun z => by rw [z, hM3] at h; cases h)).trans h⟩)
            · exact .inr h
          rcases List.mem_append.mp hx with hx | hx
          · exact off (pM3 x hx)
          · rw [List.mem_singleton.mp hx]
            exact off hk3
        · rw [List.map_append, eM, tk, List.filter_append]
          refine congrArg (fun z => (all24.take i).filter (fun k : Kind => decide (0 < grpN n k.1 k.2.1 k.2.2)) ++ z) ?_
          rw [List.filter_cons_of_pos (by exact decide_eq_true hp)]
          rfl
      · rw [decide_eq_false hp]
        refine iteF ⟨sm.trans s3, M, hM3, pM3, ?_⟩
        rw [eM, tk, List.filter_append, List.filter_cons_of_neg (by rw [decide_eq_false hp]; decide)]
        exact (List.append_nil _).symm
    · obtain ⟨sm, M, hM, pM, eM⟩ := h
      have l24 : (refK L).length = 24 := by
        unfold refK
        rw [List.length_map, lL]
      rw [l24, show all24.take 24 = all24 from rfl] at eM
      refine .inl ⟨D, _, rfl, SqL.of hM, fun t nt => ?_⟩
      have st := same_new (o := .tup (refK M)) nt
      exact q t M _ (sm.trans st) upd_same (pM.same st) eM
abbrev s__law_met : Stmt := top 24
theorem sc__law_met : FnScope ["_law_size", "_law_found", "_law_row", "_law_column", "_law_kind"] ["_law_size"] (defScope s__law_met) := ⟨rfl, rfl, rfl, by decide +kernel, rfl, by decide +kernel, by decide +kernel⟩
theorem ok__law_met {f : Addr} {fd : FuncData} (F : Fun K "_law_met" "_law_met" s__law_met f fd) (T : Bt mg) (G__law_sort : FB P w K mg base "_law_sort" 1 ["_law_size", "_law_row", "_law_column"] spSort) : FnOk P w K mg base CX0 2 f fd ["_law_size"] spMet := by
  refine F.ok sc__law_met (fun vs H Q E h => ?_) (fun cdv A outer s H vs Q E hr h => ?_)
  · obtain ⟨N, rfl, _⟩ := h
    rfl
  · obtain ⟨N, rfl, N1, N2, q⟩ := h
    refine ⟨_, (pss_cons (ps_set (i := 1) sc__law_met.nd rfl (by first | exact .inl rfl | exact .inr rfl) (pe_lst pa_nil))
        (pss_cons (ps_for PassesOwn.never rfl (pi_range1 (by rfl) T.range (pa_cons (pv 0) pa_nil)) (pg_name (i := 2) sc__law_met.nd rfl (by first | exact .inl rfl | exact .inr rfl))
        (pss_one (ps_for PassesOwn.never rfl (pi_range1 (by rfl) T.range (pa_cons (pv 0) pa_nil)) (pg_name (i := 3) sc__law_met.nd rfl (by first | exact .inl rfl | exact .inr rfl))
        (pss_cons (ps_set (i := 4) sc__law_met.nd rfl (by first | exact .inl rfl | exact .inr rfl) (pe_fb G__law_sort hr (by decide) (by rfl) (pa_cons (pv 0) (pa_cons (pv 2) (pa_cons (pv 3) pa_nil)))))
        (pss_one (ps_set (i := 1) sc__law_met.nd rfl (by first | exact .inl rfl | exact .inr rfl) (pe_ifExp (pt_cmpR (op_inD (un65 hr)) (pv 4) (pv 1) (by with_unfolding_all rfl)) (pv 1) (pe_op op_cat (pv 1) (pe_lst (pa_cons (pv 4) pa_nil))))))))))
        (pss_one (ps_ret (pe_tupleOf (by rfl) T.tuple (pe_callB (cr_sortT (d := 3) (B := 4) (by decide)) (by rfl) T.sorted (by decide +kernel) (pa_cons (pv 1) pa_nil))))))), ?_⟩
    refine ⟨by show 0 ≤ sizeLine; decide, fun F0 nF => ?_⟩
    refine ⟨_, rfl, _, rfl, by omega, by omega, ?_⟩
    rw [show ((N : Nat) : Int).toNat = N from rfl]
    have inAll : ∀ cs : List Cell, ∀ k ∈ metL (N : Int) cs, ∃ y ∈ cs, kindN (N : Int) y.1 y.2 = k := fun cs => metL_in (N : Int) cs
    refine for_range (n := N) (fun i σ H' => ∃ (f : Addr) (M : List (Addr × Kind)), (∃ v2 v3 v4, σ = [some (.int (N : Int)), some (.ref f), v2, v3, v4]) ∧ Same H H' ∧ H' f = some (.lst (refK M)) ∧ PK H' M ∧ M.map (·.2) = metL (N : Int) (tabC N i 0))
      ⟨F0, [], ⟨_, _, _, rfl⟩, same_new nF, upd_same, (fun q hq => by cases hq), rfl⟩ (fun i σ H1 hi h => ?_) (fun σ H1 h => ?_)
    · obtain ⟨f, M, ⟨v2, v3, v4, rfl⟩, sm, hf, pM, eM⟩ := h
      rw [Int.zero_add]
      refine ⟨_, rfl, _, rfl, by omega, by omega, ?_⟩
      rw [show ((N : Nat) : Int).toNat = N from rfl]
      refine for_range (n := N) (fun j σ H' => ∃ (f : Addr) (M : List (Addr × Kind)), (∃ v3 v4, σ = [some (.int (N : Int)), some (.ref f), some (.int (i : Int)), v3, v4]) ∧ Same H H' ∧ H' f = some (.lst (refK M)) ∧ PK H' M ∧ M.map (·.2) = metL (N : Int) (tabC N i j))
        ⟨f, M, ⟨_, _, rfl⟩, sm, hf, pM, eM⟩ (fun j σ H2 hj h => ?_) (fun σ H2 h => ?_)
      · obtain ⟨f, M, ⟨v3, v4, rfl⟩, sm, hf, pM, eM⟩ := h
        rw [Int.zero_add]
        refine ⟨_, rfl, _, rfl, _, rfl, N, i, j, rfl, fun t H3 s3 ht => ?_⟩
        have hf3 := s3 _ _ hf
        have pM3 := pM.same s3
        have lM : M.length ≤ N * N := by
          have e := congrArg List.length eM
          rw [List.length_map] at e
          have h1 := metL_len (N : Int) (tabC N i j)
          have h2 := tabC_len N i j
          have h3 : N * i + j ≤ N * N := by
            have h4 : N * (i + 1) ≤ N * N := Nat.mul_le_mul (Nat.le_refl _) hi
            rw [Nat.mul_add, Nat.mul_one] at h4
            omega
          omega
        have lN : N * N ≤ 121 := Nat.mul_le_mul (show N ≤ 11 by omega) (show N ≤ 11 by omega)
        have es := metL_snoc (N : Int) (tabC N i j) ((i : Int), (j : Int))
        refine ⟨_, rfl, _, rfl, triD (kindN N i j), M.map (fun q => triD q.2), triDp ht, .lst (SqL.of hf3) (kindsD pM3), rfl, shaped_lst (kinds_lay M), _, rfl, ?_⟩
        rw [any_kind, eM]
        by_cases hm : kindN (N : Int) i j ∈ metL (N : Int) (tabC N i j)
        · rw [decide_eq_true hm]
          refine iteT ⟨_, rfl, ?_⟩
          refine ⟨f, M, ⟨_, _, rfl⟩, sm.trans s3, hf3, pM3, ?_⟩
          rw [tabC_succ, es, if_pos hm]
          exact eM
        · rw [decide_eq_false hm]
          refine iteF ?_
          refine ⟨_, rfl, _, rfl, by show 1 ≤ sizeLine; decide, fun g ng => ?_⟩
          have sg := same_new (o := .lst [.ref t]) ng
          refine ⟨f, g, _, _, rfl, rfl, sg _ _ hf3, upd_same, ?_, fun f2 nf2 => ?_⟩
          · unfold refK
            rw [List.length_map]
            have h6 : 200 ≤ sizeLine := by decide
            show M.length + 1 ≤ sizeLine
            omega
          have s5 := same_new (o := .lst (refK M ++ [.ref t])) nf2
          refine ⟨f2, M ++ [(t, kindN N i j)], ⟨_, _, rfl⟩, sm.trans (s3.trans (sg.trans s5)), ?_, fun x hx => ?_, ?_⟩
          · rw [upd_same]
            unfold refK
            rw [List.map_append]
            rfl
          · rcases List.mem_append.mp hx with hx | hx
            · exact pM3.same (sg.trans s5) x hx
            · rw [List.mem_singleton.mp hx]
              exact s5 _ _ (sg _ _ ht)
          · rw [tabC_succ, es, if_neg hm, List.map_append, eM]
            rfl
      · obtain ⟨f, M, ⟨v3, v4, rfl⟩, sm, hf, pM, eM⟩ := h
        exact ⟨f, M, ⟨_, _, _, rfl⟩, sm, hf, pM, by rw [tabC_row]; exact eM⟩
    obtain ⟨f, M, ⟨v2, v3, v4, rfl⟩, sm, hf, pM, eM⟩ := h
    have pm := met_perm N1 N2
    rw [← eM] at pm
    have inB : ∀ x ∈ M, x.2 ∈ all24 := fun x hx => kinds_sub _ _ (pm.mem_iff.mp (List.mem_map_of_mem hx))
    refine ⟨_, rfl, f, refK M, rfl, SqL.of hf, ?_, fun x hx => ?_, fun ys p ym pw np => ?_⟩
    · unfold refK
      rw [List.length_map]
      have e := pm.length_eq
      rw [List.length_map] at e
      have h1 := kinds_len (N : Int)
      omega
    · obtain ⟨y, hy, rfl⟩ := List.mem_map.mp hx
      refine ⟨[y.2.1, y.2.2.1, y.2.2.2], ⟨y.1, rfl, SqT.of (pM y hy)⟩, rfl, fun m hm => ?_⟩
      obtain ⟨⟨a0, a1⟩, ⟨b0, b1⟩, c0, c1⟩ := all24_R _ (inB y hy)
      simp only [List.mem_cons, List.not_mem_nil, or_false] at hm
      omega
    obtain ⟨M', pm', rfl⟩ := refs_of ym M rfl
    have pM' : PK H1 M' := fun x hx => pM x (pm'.mem_iff.mp hx)
    have sp := same_new (o := .lst (refK M')) np
    refine .inl ⟨p, _, rfl, SqL.of upd_same, fun t nt => ?_⟩
    have st := same_new (o := .tup (refK M')) nt
    refine q t M' _ (sm.trans (sp.trans st)) upd_same (pM'.same (sp.trans st)) ?_
    refine kinds_one ((pm'.map (·.2)).trans pm) ?_
    rw [List.pairwise_map]
    have z := List.pairwise_map.mp pw
    refine List.Pairwise.imp_of_mem (fun {a b} ma mb h => ?_) z
    exact h [a.2.1, a.2.2.1, a.2.2.2] [b.2.1, b.2.2.1, b.2.2.2] ⟨a.1, rfl, SqT.of (pM' a ma)⟩ ⟨b.1, rfl, SqT.of (pM' b mb)⟩
end
end Sq
namespace Sq
open PySem L2 TL
section
variable {P : Program} {w : World} {K : PySem.W.Frag} {mg : Str → Option Value} {base : Heap}
abbrev s__law_right : Stmt := top 25
theorem sc__law_right : FnScope ["_law_purl_here", "_law_size", "_law_small", "_law_due", "_law_found"] ["_law_purl_here"] (defScope s__law_right) := ⟨rfl, rfl, rfl, by decide +kernel, rfl, by decide +kernel, by decide +kernel⟩
theorem ok__law_right {f : Addr} {fd : FuncData} (F : Fun K "_law_right" "_law_right" s__law_right f fd) (T : Bt mg) (G__law_dig : FB P w K mg base "_law_dig" 1 ["_law_purl_here", "_law_many"] spDig) (G__law_far : FB P w K mg base "_law_far" 2 ["_law_purl_here"] spFar) (G__law_met : FB P w K mg base "_law_met" 2 ["_law_size"] spMet) (G_kinds_of : FB P w K mg base "kinds_of" 4 ["size"] (spKindsOfS K)) (G_kind_of : FB P w K mg base "kind_of" 5 ["size", "cell"] spKindOf) : FnOk P w K mg base CX0 6 f fd ["_law_purl_here"] spRight := by
  refine F.ok sc__law_right (fun vs H Q E h => ?_) (fun cdv A outer s H vs Q E hr h => ?_)
  · obtain ⟨p, rfl, _⟩ := h
    rfl
  · obtain ⟨p, rfl, hp, q⟩ := h
    refine ⟨_, (pss_cons (ps_for PassesOwn.never rfl (pi_list (pe_lst (pa_cons (pe_op op_add pe_int (pe_fb G__law_dig hr (by decide) (by rfl) (pa_cons (pv 0) (pa_cons pe_int pa_nil)))) (pa_cons (pe_fb G__law_far hr (by decide) (by rfl) (pa_cons (pv 0) pa_nil)) pa_nil)))) (pg_name (i := 1) sc__law_right.nd rfl (by first | exact .inl rfl | exact .inr rfl))
        (pss_cons (ps_set (i := 2) sc__law_right.nd rfl (by first | exact .inl rfl | exact .inr rfl) (pe_ifExp (pt_cmpR op_lt (pv 1) pe_int (nomark _)) (pv 1) (pe_op op_add pe_int (pe_op op_mod (pe_callTy call_int1 (by rfl) T.int (by decide +kernel) (pa_cons (pv 1) pa_nil)) pe_int))))
        (pss_cons (ps_set (i := 3) sc__law_right.nd rfl (by first | exact .inl rfl | exact .inr rfl) (pe_fb G__law_met hr (by decide) (by rfl) (pa_cons (pv 2) pa_nil)))
        (pss_cons (ps_set (i := 4) sc__law_right.nd rfl (by first | exact .inl rfl | exact .inr rfl) (pe_fb G_kinds_of hr (by decide) (by rfl) (pa_cons (pv 1) pa_nil)))
        (pss_cons (ps_if (PW.pt (pw_or (pt_not (pt_val (pe_callB call_isi (by rfl) T.isinstance (by decide +kernel) (pa_cons (pv 4) (pa_cons (pe_bltn (v := .ty "tuple") (by rfl) T.tuple (by decide +kernel) rfl) pa_nil))))) (pw_or (pt_cmpR (op_neD hr.units) (pv 4) (pv 3) (nomark _)) (pw_or1 (pt_cmpR (op_neD hr.units) (pe_fb G_kinds_of hr (by decide) (by rfl) (pa_cons (pv 1) pa_nil)) (pv 3) (nomark _))))))
        (pss_one (ps_ret pe_bl))
        pss_nil)
        (pss_one (ps_if (PW.pt (pw_and (pt_cmpR op_lt (pv 1) pe_int (nomark _)) (pw_and1 (pt_cmpR (op_notInTu (un65 hr)) (pe_fb G_kind_of hr (by decide) (by rfl) (pa_cons (pv 1) (pa_cons (pe_tup (pa_cons pe_int (pa_cons (pe_op op_sub (pv 1) pe_int) pa_nil))) pa_nil))) (pv 3) (by with_unfolding_all rfl)))))
        (pss_one (ps_ret pe_bl))
        pss_nil)))))))
        (pss_one (ps_ret pe_bl))), ?_⟩
    refine ⟨_, rfl, p, 13, rfl, hp, by decide, by decide, fun r H1 r0 r1 hp1 o1 => ⟨_, _, rfl, rfl, ?_⟩⟩
    refine ⟨_, rfl, p, rfl, hp1, fun n H2 n0 n1 hp2 o2 => ?_⟩
    refine ⟨by show 2 ≤ sizeLine; decide, fun F nF => ⟨F, rfl, ⟨_, SqL.of upd_same⟩, ?_⟩⟩
    have sF := same_new (o := .lst [.int (1 + r), .int n]) nF
    have hF : upd H2 F (.lst [.int (1 + r), .int n]) F = some (.lst [.int (1 + r), .int n]) := upd_same
    have o3 : Off p H (upd H2 F (.lst [.int (1 + r), .int n])) := (o1.trans o2).trans (Same.off sF)
    refine for_list (K := K) (a := F) (xs := [.int (1 + r), .int n]) (fun i σ H' => (∃ v1 v2 v3 v4, σ = [some (.ref p), v1, v2, v3, v4]) ∧ Same (upd H2 F (.lst [.int (1 + r), .int n])) H')
      ⟨⟨_, _, _, _, rfl⟩, Same.refl _⟩ (fun i σ H' _ h => SqL.of (h.2 _ _ hF)) (fun i x σ H3 hx h => ?_) (fun σ H3 h => ?_)
    · obtain ⟨⟨v1, v2, v3, v4, rfl⟩, s3⟩ := h
      have hm : ∃ m : Int, x = .int m ∧ 1 ≤ m ∧ m ≤ big := by
        have mx := List.mem_of_getElem? hx
        simp only [List.mem_cons, List.not_mem_nil, or_false] at mx
        rcases mx with rfl | rfl
        · exact ⟨_, rfl, by omega, by unfold big; omega⟩
        · exact ⟨_, rfl, n0, n1⟩
      obtain ⟨m, rfl, m0, m1⟩ := hm
      refine nm_q ?_
      refine sq_ (asg_ (gen_of (fun v H' => ∃ N : Nat, v = .int (N : Int) ∧ 1 ≤ N ∧ N < 12 ∧ kindsN m = kindsN (N : Int) ∧ H' = H3) (fun Q' k => ?_) ?_))
      · refine ⟨_, rfl, _, _, rfl, rfl, _, rfl, ?_⟩
        by_cases h12 : m < 12
        · rw [decide_eq_true h12]
          refine iteT ⟨_, rfl, ?_⟩
          exact k _ _ ⟨m.toNat, congrArg V.int (by omega), by omega, by omega, by rw [show ((m.toNat : Nat) : Int) = m by omega], rfl⟩
        · rw [decide_eq_false h12]
          refine iteF ?_
          refine ⟨_, rfl, .inl ⟨_, rfl, _, _, rfl, rfl, (by show (0 : Int) < 2; decide), _, _, rfl, rfl, ?_⟩⟩
          exact k _ _ ⟨(10 + m % 2).toNat, congrArg V.int (by omega), by omega, by omega, by rw [show (((10 + m % 2).toNat : Nat) : Int) = 10 + m % 2 by omega]; exact kinds_far (by omega), rfl⟩
      rintro _ H4 ⟨N, rfl, N1, N2, eN, rfl⟩
      refine ⟨_, rfl, N, rfl, N1, N2, fun t M H5 s5 ht pM eM => ?_⟩
      refine ⟨_, rfl, m, rfl, m0, m1, fun t2 M2 H6 s6 ht2 pM2 eM2 => ?_⟩
      have same : ∀ M' : List (Addr × Kind), M'.map (·.2) = kindsN m → (M'.map fun q => triD q.2) = M.map fun q => triD q.2 := fun M' e => by
        have e3 := congrArg (List.map triD) ((e.trans eN).trans eM.symm)
        rw [List.map_map, List.map_map] at e3
        exact e3
      have shp : PySem.SeqAt.shaped (.tuple (M.map fun q => triD q.2)) = true := shaped_tup (kinds_lay M)
      have due : ∀ {H' : Hp}, Same H5 H' → Dp K H' (.ref t) (.tuple (M.map fun q => triD q.2)) := fun {H'} s => .tup (SqT.of (s _ _ ht)) (kindsD (pM.same s))
      have got : ∀ {H' : Hp} {t' : Addr} {M' : List (Addr × Kind)}, H' t' = some (.tup (refK M')) → PKS K H' M' → M'.map (·.2) = kindsN m → Dp K H' (.ref t') (.tuple (M.map fun q => triD q.2)) := fun {H' t' M'} h1 h2 h3 => by
        rw [← same M' h3]
        exact .tup (SqT.of h1) (kindsDS h2)
      refine nm_seq (if_ (tst_of false (fun Q' kk => ?_) fun H7 s7 => ?_))
      · refine ⟨_, rfl, _, _, .type "tuple", _, true, rfl, .ty "tuple", .base (.tup ht2), kit_ty (by decide +kernel), true, rfl, ?_⟩
        refine ⟨_, rfl, _, rfl, _, _, got ht2 pM2 eM2, due s6, shp, shp, _, rfl, ?_⟩
        rw [eqv_kinds]
        refine ⟨_, rfl, m, rfl, m0, m1, fun t3 M3 H8 s8 ht3 pM3 eM3 => ?_⟩
        refine ⟨_, rfl, _, _, got ht3 pM3 eM3, due (s6.trans s8), shp, shp, _, rfl, ?_⟩
        rw [eqv_kinds]
        exact kk _ s8
      refine iteF ?_
      have s57 := s6.trans s7
      refine nx_one (if_ (tst_of false (fun Q' kk => ?_) fun H8 s8 => ?_))
      · refine ⟨_, rfl, _, _, rfl, rfl, _, rfl, ?_⟩
        by_cases h14 : m < 14
        · rw [decide_eq_true h14]
          refine iteT ?_
          refine ⟨_, rfl, _, rfl, _, _, rfl, rfl, by show 2 ≤ sizeLine; decide, fun t4 nt4 => ⟨m, t4, (0, m - 1), rfl, upd_same, ⟨⟨Int.le_refl 0, by simp only; omega⟩, by simp only; omega, by simp only; omega⟩, m1, fun g H9 s9 hg => ?_⟩⟩
          have s79 := s57.trans ((same_new nt4).trans s9)
          refine ⟨_, rfl, triD (kindN m 0 (m - 1)), M.map (fun q : Addr × Kind => triD q.2), triDp hg, due s79, rfl, shp, _, rfl, ?_⟩
          rw [any_kind, eM, ← eN, decide_eq_true (edge_in m0 h14)]
          exact kk _ ((same_new nt4).trans s9)
        · rw [decide_eq_false h14]
          exact iteF (kk _ (Same.refl _))
      exact iteF ⟨⟨_, _, _, _, rfl⟩, s3.trans (s5.trans (s57.trans s8))⟩
    obtain ⟨⟨v1, v2, v3, v4, rfl⟩, s3⟩ := h
    exact q _ (o3.trans (Same.off s3))
abbrev s_law : Stmt := top 26
theorem sc_law : FnScope ["_law_script", "_law_spot"] ["_law_script"] (defScope s_law) := ⟨rfl, rfl, rfl, by decide +kernel, rfl, by decide +kernel, by decide +kernel⟩
theorem ok_law {f : Addr} {fd : FuncData} (F : Fun K "law" "law" s_law f fd) (T : Bt mg) (G__law_purl : FB P w K mg base "_law_purl" 1 ["_law_script", "_law_spot"] (spPurl K)) (G__law_right : FB P w K mg base "_law_right" 6 ["_law_purl_here"] spRight) : FnOk P w K mg base CX0 7 f fd ["_law_script"] (spLaw K) := by
  refine F.ok sc_law (fun vs H Q E h => ?_) (fun cdv A outer s H vs Q E hr h => ?_)
  · obtain ⟨a, ns, rfl, _⟩ := h
    rfl
  · obtain ⟨a, ns, rfl, hS, hl, q⟩ := h
    refine ⟨_, (pss_one (ps_ret (pe_callB (cr_all (by rfl)) (by rfl) T.all (by decide +kernel) (pa_cons (pe_lc (own := [("_law_spot", 1)]) (g := gName 1) (by rfl) sc_law.nd (pi_range1 (by rfl) T.range (pa_cons (pe_callB (call_max2 rfl) (by rfl) T.max (by decide +kernel) (pa_cons pe_int (pa_cons (pe_callB (call_min2 rfl) (by rfl) T.min (by decide +kernel) (pa_cons (pe_callB call_len_seq (by rfl) T.len PySem.boot_len (pa_cons (pv 0) pa_nil)) (pa_cons pe_int pa_nil))) pa_nil))) pa_nil)) (blkOk_by (own := [("_law_spot", 1)]) (N := ["_law_script", "_law_spot"]) (sc := defScope s_law) (by decide +kernel))
            (fun _ _ _ _ _ => (pg_name (i := 1) sc_law.nd rfl (by first | exact .inl rfl | exact .inr rfl))) (fun _ _ _ _ _ => pts_nil) (fun _ _ _ _ _ => (pe_fb G__law_right hr (by decide) (by rfl) (pa_cons (pe_fb G__law_purl hr (by decide) (by rfl) (pa_cons (pv 0) (pa_cons (pv 1) pa_nil))) pa_nil)))) pa_nil)))), ?_⟩
    refine ⟨_, rfl, a, _, rfl, .inl hS, _, _, rfl, _, _, rfl, ?_⟩
    rw [List.length_map]
    have hc : ∀ L : Int, 0 ≤ L → -(2 ^ 62) ≤ (if (if (6 : Int) < L then 6 else L) > 2 then (if (6 : Int) < L then 6 else L) else 2) ∧ (if (if (6 : Int) < L then 6 else L) > 2 then (if (6 : Int) < L then 6 else L) else 2) < 2 ^ 62 ∧
        (if (if (6 : Int) < L then 6 else L) > 2 then (if (6 : Int) < L then 6 else L) else 2).toNat ≤ 6 := by
      intro L hL
      split <;> split <;> refine ⟨?_, ?_, ?_⟩ <;> omega
    obtain ⟨hc1, hc2, hc3⟩ := hc (ns.length : Int) (Int.natCast_nonneg _)
    generalize (if (if (6 : Int) < (ns.length : Int) then 6 else (ns.length : Int)) > 2 then (if (6 : Int) < (ns.length : Int) then 6 else (ns.length : Int)) else 2) = lim at *
    refine ⟨lim, rfl, hc1, hc2, fun D nD => ?_⟩
    refine lc_range (lo := 0) (n := lim.toNat) (fun j H' => Same H H' ∧ ∃ bs : List Bool, H' D = some (.lst (bs.map V.bl)) ∧ bs.all id = true ∧ bs.length = j)
      ⟨same_new nD, [], upd_same, rfl, rfl⟩ (fun j H' hj h => ?_) (fun H' h => ?_)
    · obtain ⟨s3, bs, hD, hall', hlen⟩ := h
      refine ⟨rfl, ?_⟩
      rw [Int.zero_add]
      refine ⟨_, rfl, _, rfl, a, ns, j, rfl, SqL.ext hS s3, hl, by omega, fun p H3 np hp s4 => ?_⟩
      have nDp : D ≠ p := fun e => by rw [← e, hD] at np; cases np
      have hpH : H p = none := by
        cases e : H p with
        | none => rfl
        | some o => rw [s3 _ _ e] at np; cases np
      refine ⟨p, rfl, hp, fun H4 o4 => ⟨bs.map V.bl, o4 D _ nDp (s4 _ _ hD), ?_, ?_, bs ++ [true], ?_, ?_, ?_⟩⟩
      · rw [List.length_map, hlen]
        have h6 : 6 ≤ sizeLine := by decide
        omega
      · intro c o hx
        rw [upd_ne (fun e => by rw [e, nD] at hx; cases hx)]
        exact o4 c o (fun e => by rw [e, hpH] at hx; cases hx) (s4 c o (s3 c o hx))
      · rw [upd_same, List.map_append]
        all_goals rfl
      · rw [List.all_append, hall']
        rfl
      · rw [List.length_append, hlen]
        rfl
    · obtain ⟨s3, bs, hD, hall', _⟩ := h
      refine ⟨D, bs, rfl, SqL.of hD, ?_⟩
      rw [hall']
      exact q _
end
end Sq
namespace Sq
open PySem L2 TL
theorem all_mk {P : Program} {w : World} {K : PySem.W.Frag} {h : Heap} {mg : Str → Option Value} {fa : Addr}
    {fF0 : Addr} {ocF0 kVF0 dcF0 pmF0 cdF0 ctF0 : Value} {odF0 anF0 : Option Addr} {slF0 : Array (Option Value)}
    {fF1 : Addr} {ocF1 kVF1 dcF1 pmF1 cdF1 ctF1 : Value} {odF1 anF1 : Option Addr} {slF1 : Array (Option Value)}
    {fF2 : Addr} {ocF2 kVF2 dcF2 pmF2 cdF2 ctF2 : Value} {odF2 anF2 : Option Addr} {slF2 : Array (Option Value)}
    {fF3 : Addr} {ocF3 kVF3 dcF3 pmF3 cdF3 ctF3 : Value} {odF3 anF3 : Option Addr} {slF3 : Array (Option Value)}
    {fF4 : Addr} {ocF4 kVF4 dcF4 pmF4 cdF4 ctF4 : Value} {odF4 anF4 : Option Addr} {slF4 : Array (Option Value)}
    {fF5 : Addr} {ocF5 kVF5 dcF5 pmF5 cdF5 ctF5 : Value} {odF5 anF5 : Option Addr} {slF5 : Array (Option Value)}
    {fF6 : Addr} {ocF6 kVF6 dcF6 pmF6 cdF6 ctF6 : Value} {odF6 anF6 : Option Addr} {slF6 : Array (Option Value)}
    {fF7 : Addr} {ocF7 kVF7 dcF7 pmF7 cdF7 ctF7 : Value} {odF7 anF7 : Option Addr} {slF7 : Array (Option Value)}
    {fF8 : Addr} {ocF8 kVF8 dcF8 pmF8 cdF8 ctF8 : Value} {odF8 anF8 : Option Addr} {slF8 : Array (Option Value)}
    {fF9 : Addr} {ocF9 kVF9 dcF9 pmF9 cdF9 ctF9 : Value} {odF9 anF9 : Option Addr} {slF9 : Array (Option Value)}
    {fF10 : Addr} {ocF10 kVF10 dcF10 pmF10 cdF10 ctF10 : Value} {odF10 anF10 : Option Addr} {slF10 : Array (Option Value)}
    {fF11 : Addr} {ocF11 kVF11 dcF11 pmF11 cdF11 ctF11 : Value} {odF11 anF11 : Option Addr} {slF11 : Array (Option Value)}
    {fF12 : Addr} {ocF12 kVF12 dcF12 pmF12 cdF12 ctF12 : Value} {odF12 anF12 : Option Addr} {slF12 : Array (Option Value)}
    {fF13 : Addr} {ocF13 kVF13 dcF13 pmF13 cdF13 ctF13 : Value} {odF13 anF13 : Option Addr} {slF13 : Array (Option Value)}
    {fF14 : Addr} {ocF14 kVF14 dcF14 pmF14 cdF14 ctF14 : Value} {odF14 anF14 : Option Addr} {slF14 : Array (Option Value)}
    {fF15 : Addr} {ocF15 kVF15 dcF15 pmF15 cdF15 ctF15 : Value} {odF15 anF15 : Option Addr} {slF15 : Array (Option Value)}
    {fF16 : Addr} {ocF16 kVF16 dcF16 pmF16 cdF16 ctF16 : Value} {odF16 anF16 : Option Addr} {slF16 : Array (Option Value)}
    {fF17 : Addr} {ocF17 kVF17 dcF17 pmF17 cdF17 ctF17 : Value} {odF17 anF17 : Option Addr} {slF17 : Array (Option Value)}
    {uMS : Tok}
    {aDS' : Addr}
    {esD : Array DictEntry} {epD : Nat}
    (X : K.In h) (G : h.Ns mainGlobals mg) (hfa : mg "law" = some (.ref fa))
    (aF0 : PySem.W.nsIn K mainGlobals "_law_purl" = some (some (.ref fF0))) (lF0 : K.lookup fF0 = some ⟨ocF0, odF0, .func (PySem.W.fnOf "_law_purl" "_law_purl" (defArgs s__law_purl) (defBody s__law_purl) (defScope s__law_purl) .none kVF0 dcF0 pmF0 anF0 cdF0 ctF0), slF0⟩) (cF0 : PySem.W.codeIn K cdF0 "_law_purl" = true) (kF0 : PySem.W.keepIn K (.ref fF0) = true)
    (aF1 : PySem.W.nsIn K mainGlobals "_law_dig" = some (some (.ref fF1))) (lF1 : K.lookup fF1 = some ⟨ocF1, odF1, .func (PySem.W.fnOf "_law_dig" "_law_dig" (defArgs s__law_dig) (defBody s__law_dig) (defScope s__law_dig) .none kVF1 dcF1 pmF1 anF1 cdF1 ctF1), slF1⟩) (cF1 : PySem.W.codeIn K cdF1 "_law_dig" = true) (kF1 : PySem.W.keepIn K (.ref fF1) = true)
    (aF2 : PySem.W.nsIn K mainGlobals "_law_far" = some (some (.ref fF2))) (lF2 : K.lookup fF2 = some ⟨ocF2, odF2, .func (PySem.W.fnOf "_law_far" "_law_far" (defArgs s__law_far) (defBody s__law_far) (defScope s__law_far) .none kVF2 dcF2 pmF2 anF2 cdF2 ctF2), slF2⟩) (cF2 : PySem.W.codeIn K cdF2 "_law_far" = true) (kF2 : PySem.W.keepIn K (.ref fF2) = true)
    (aF3 : PySem.W.nsIn K mainGlobals "is_whole" = some (some (.ref fF3))) (lF3 : K.lookup fF3 = some ⟨ocF3, odF3, .func (PySem.W.fnOf "is_whole" "is_whole" (defArgs s_is_whole) (defBody s_is_whole) (defScope s_is_whole) .none kVF3 dcF3 pmF3 anF3 cdF3 ctF3), slF3⟩) (cF3 : PySem.W.codeIn K cdF3 "is_whole" = true) (kF3 : PySem.W.keepIn K (.ref fF3) = true)
    (aF4 : PySem.W.nsIn K mainGlobals "is_within" = some (some (.ref fF4))) (lF4 : K.lookup fF4 = some ⟨ocF4, odF4, .func (PySem.W.fnOf "is_within" "is_within" (defArgs s_is_within) (defBody s_is_within) (defScope s_is_within) .none kVF4 dcF4 pmF4 anF4 cdF4 ctF4), slF4⟩) (cF4 : PySem.W.codeIn K cdF4 "is_within" = true) (kF4 : PySem.W.keepIn K (.ref fF4) = true)
    (aF5 : PySem.W.nsIn K mainGlobals "check_size" = some (some (.ref fF5))) (lF5 : K.lookup fF5 = some ⟨ocF5, odF5, .func (PySem.W.fnOf "check_size" "check_size" (defArgs s_check_size) (defBody s_check_size) (defScope s_check_size) .none kVF5 dcF5 pmF5 anF5 cdF5 ctF5), slF5⟩) (cF5 : PySem.W.codeIn K cdF5 "check_size" = true) (kF5 : PySem.W.keepIn K (.ref fF5) = true)
    (aF6 : PySem.W.nsIn K mainGlobals "is_cell" = some (some (.ref fF6))) (lF6 : K.lookup fF6 = some ⟨ocF6, odF6, .func (PySem.W.fnOf "is_cell" "is_cell" (defArgs s_is_cell) (defBody s_is_cell) (defScope s_is_cell) .none kVF6 dcF6 pmF6 anF6 cdF6 ctF6), slF6⟩) (cF6 : PySem.W.codeIn K cdF6 "is_cell" = true) (kF6 : PySem.W.keepIn K (.ref fF6) = true)
    (aF7 : PySem.W.nsIn K mainGlobals "check_cell" = some (some (.ref fF7))) (lF7 : K.lookup fF7 = some ⟨ocF7, odF7, .func (PySem.W.fnOf "check_cell" "check_cell" (defArgs s_check_cell) (defBody s_check_cell) (defScope s_check_cell) .none kVF7 dcF7 pmF7 anF7 cdF7 ctF7), slF7⟩) (cF7 : PySem.W.codeIn K cdF7 "check_cell" = true) (kF7 : PySem.W.keepIn K (.ref fF7) = true)
    (aF8 : PySem.W.nsIn K mainGlobals "kind_at" = some (some (.ref fF8))) (lF8 : K.lookup fF8 = some ⟨ocF8, odF8, .func (PySem.W.fnOf "kind_at" "kind_at" (defArgs s_kind_at) (defBody s_kind_at) (defScope s_kind_at) .none kVF8 dcF8 pmF8 anF8 cdF8 ctF8), slF8⟩) (cF8 : PySem.W.codeIn K cdF8 "kind_at" = true) (kF8 : PySem.W.keepIn K (.ref fF8) = true)
    (aF9 : PySem.W.nsIn K mainGlobals "kind_of" = some (some (.ref fF9))) (lF9 : K.lookup fF9 = some ⟨ocF9, odF9, .func (PySem.W.fnOf "kind_of" "kind_of" (defArgs s_kind_of) (defBody s_kind_of) (defScope s_kind_of) .none kVF9 dcF9 pmF9 anF9 cdF9 ctF9), slF9⟩) (cF9 : PySem.W.codeIn K cdF9 "kind_of" = true) (kF9 : PySem.W.keepIn K (.ref fF9) = true)
    (aF10 : PySem.W.nsIn K mainGlobals "least_size" = some (some (.ref fF10))) (lF10 : K.lookup fF10 = some ⟨ocF10, odF10, .func (PySem.W.fnOf "least_size" "least_size" (defArgs s_least_size) (defBody s_least_size) (defScope s_least_size) .none kVF10 dcF10 pmF10 anF10 cdF10 ctF10), slF10⟩) (cF10 : PySem.W.codeIn K cdF10 "least_size" = true) (kF10 : PySem.W.keepIn K (.ref fF10) = true)
    (aF11 : PySem.W.nsIn K mainGlobals "ways" = some (some (.ref fF11))) (lF11 : K.lookup fF11 = some ⟨ocF11, odF11, .func (PySem.W.fnOf "ways" "ways" (defArgs s_ways) (defBody s_ways) (defScope s_ways) .none kVF11 dcF11 pmF11 anF11 cdF11 ctF11), slF11⟩) (cF11 : PySem.W.codeIn K cdF11 "ways" = true) (kF11 : PySem.W.keepIn K (.ref fF11) = true)
    (aF12 : PySem.W.nsIn K mainGlobals "group_count" = some (some (.ref fF12))) (lF12 : K.lookup fF12 = some ⟨ocF12, odF12, .func (PySem.W.fnOf "group_count" "group_count" (defArgs s_group_count) (defBody s_group_count) (defScope s_group_count) .none kVF12 dcF12 pmF12 anF12 cdF12 ctF12), slF12⟩) (cF12 : PySem.W.codeIn K cdF12 "group_count" = true) (kF12 : PySem.W.keepIn K (.ref fF12) = true)
    (aF13 : PySem.W.nsIn K mainGlobals "kinds_of" = some (some (.ref fF13))) (lF13 : K.lookup fF13 = some ⟨ocF13, odF13, .func (PySem.W.fnOf "kinds_of" "kinds_of" (defArgs s_kinds_of) (defBody s_kinds_of) (defScope s_kinds_of) .none kVF13 dcF13 pmF13 anF13 cdF13 ctF13), slF13⟩) (cF13 : PySem.W.codeIn K cdF13 "kinds_of" = true) (kF13 : PySem.W.keepIn K (.ref fF13) = true)
    (aF14 : PySem.W.nsIn K mainGlobals "_law_sort" = some (some (.ref fF14))) (lF14 : K.lookup fF14 = some ⟨ocF14, odF14, .func (PySem.W.fnOf "_law_sort" "_law_sort" (defArgs s__law_sort) (defBody s__law_sort) (defScope s__law_sort) .none kVF14 dcF14 pmF14 anF14 cdF14 ctF14), slF14⟩) (cF14 : PySem.W.codeIn K cdF14 "_law_sort" = true) (kF14 : PySem.W.keepIn K (.ref fF14) = true)
    (aF15 : PySem.W.nsIn K mainGlobals "_law_met" = some (some (.ref fF15))) (lF15 : K.lookup fF15 = some ⟨ocF15, odF15, .func (PySem.W.fnOf "_law_met" "_law_met" (defArgs s__law_met) (defBody s__law_met) (defScope s__law_met) .none kVF15 dcF15 pmF15 anF15 cdF15 ctF15), slF15⟩) (cF15 : PySem.W.codeIn K cdF15 "_law_met" = true) (kF15 : PySem.W.keepIn K (.ref fF15) = true)
    (aF16 : PySem.W.nsIn K mainGlobals "_law_right" = some (some (.ref fF16))) (lF16 : K.lookup fF16 = some ⟨ocF16, odF16, .func (PySem.W.fnOf "_law_right" "_law_right" (defArgs s__law_right) (defBody s__law_right) (defScope s__law_right) .none kVF16 dcF16 pmF16 anF16 cdF16 ctF16), slF16⟩) (cF16 : PySem.W.codeIn K cdF16 "_law_right" = true) (kF16 : PySem.W.keepIn K (.ref fF16) = true)
    (aF17 : PySem.W.nsIn K mainGlobals "law" = some (some (.ref fF17))) (lF17 : K.lookup fF17 = some ⟨ocF17, odF17, .func (PySem.W.fnOf "law" "law" (defArgs s_law) (defBody s_law) (defScope s_law) .none kVF17 dcF17 pmF17 anF17 cdF17 ctF17), slF17⟩) (cF17 : PySem.W.codeIn K cdF17 "law" = true) (kF17 : PySem.W.keepIn K (.ref fF17) = true)
    (aMS : PySem.W.nsIn K mainGlobals "MOST_SIZE" = some (some (.int big uMS)))
    (aDS : PySem.W.nsIn K mainGlobals "DECIDING_SIZES" = some (some (.ref aDS')))
    (jDS : K.lookup aDS' = some ⟨.type "dict", none, .dict esD epD, #[]⟩)
    (kDS : (aDS' == sysModules) = false)
    (vDS : esD.toList.map (fun e => tupW K e.key) = all24.map (fun k => some [k.1, k.2.1, k.2.2]))
    (z_len : PySem.W.nsIn K mainGlobals "len" = some none)
    (z_int : PySem.W.nsIn K mainGlobals "int" = some none)
    (z_abs : PySem.W.nsIn K mainGlobals "abs" = some none)
    (z_divmod : PySem.W.nsIn K mainGlobals "divmod" = some none)
    (z_range : PySem.W.nsIn K mainGlobals "range" = some none)
    (z_isinstance : PySem.W.nsIn K mainGlobals "isinstance" = some none)
    (z_bool : PySem.W.nsIn K mainGlobals "bool" = some none)
    (z_tuple : PySem.W.nsIn K mainGlobals "tuple" = some none)
    (z_str : PySem.W.nsIn K mainGlobals "str" = some none)
    (z_list : PySem.W.nsIn K mainGlobals "list" = some none)
    (z_min : PySem.W.nsIn K mainGlobals "min" = some none)
    (z_max : PySem.W.nsIn K mainGlobals "max" = some none)
    (z_all : PySem.W.nsIn K mainGlobals "all" = some none)
    (z_any : PySem.W.nsIn K mainGlobals "any" = some none)
    (z_sum : PySem.W.nsIn K mainGlobals "sum" = some none)
    (z_sorted : PySem.W.nsIn K mainGlobals "sorted" = some none)
    (z_enumerate : PySem.W.nsIn K mainGlobals "enumerate" = some none) :
    ∀ base : Heap, FnG P w K mg base 7 fa (spLaw K) := by
  intro base
  have e := hfa.symm.trans (PySem.W.mg_of X G aF17)
  cases e
  have GF0 := fun_mk (st := s__law_purl) lF0 cF0 kF0
  have bF0 := GF0.binds (ps := ["_law_script", "_law_spot"]) fun _ _ _ _ _ _ us hl => match us, hl with | [_, _], _ => rfl
  have GF1 := fun_mk (st := s__law_dig) lF1 cF1 kF1
  have bF1 := GF1.binds (ps := ["_law_purl_here", "_law_many"]) fun _ _ _ _ _ _ us hl => match us, hl with | [_, _], _ => rfl
  have GF2 := fun_mk (st := s__law_far) lF2 cF2 kF2
  have bF2 := GF2.binds (ps := ["_law_purl_here"]) fun _ _ _ _ _ _ us hl => match us, hl with | [_], _ => rfl
  have GF3 := fun_mk (st := s_is_whole) lF3 cF3 kF3
  have bF3 := GF3.binds (ps := ["value"]) fun _ _ _ _ _ _ us hl => match us, hl with | [_], _ => rfl
  have GF4 := fun_mk (st := s_is_within) lF4 cF4 kF4
  have bF4 := GF4.binds (ps := ["value", "least", "most"]) fun _ _ _ _ _ _ us hl => match us, hl with | [_, _, _], _ => rfl
  have GF5 := fun_mk (st := s_check_size) lF5 cF5 kF5
  have bF5 := GF5.binds (ps := ["size"]) fun _ _ _ _ _ _ us hl => match us, hl with | [_], _ => rfl
  have GF6 := fun_mk (st := s_is_cell) lF6 cF6 kF6
  have bF6 := GF6.binds (ps := ["size", "value"]) fun _ _ _ _ _ _ us hl => match us, hl with | [_, _], _ => rfl
  have GF7 := fun_mk (st := s_check_cell) lF7 cF7 kF7
  have bF7 := GF7.binds (ps := ["size", "cell"]) fun _ _ _ _ _ _ us hl => match us, hl with | [_, _], _ => rfl
  have GF8 := fun_mk (st := s_kind_at) lF8 cF8 kF8
  have bF8 := GF8.binds (ps := ["size", "row", "column"]) fun _ _ _ _ _ _ us hl => match us, hl with | [_, _, _], _ => rfl
  have GF9 := fun_mk (st := s_kind_of) lF9 cF9 kF9
  have bF9 := GF9.binds (ps := ["size", "cell"]) fun _ _ _ _ _ _ us hl => match us, hl with | [_, _], _ => rfl
  have GF10 := fun_mk (st := s_least_size) lF10 cF10 kF10
  have bF10 := GF10.binds (ps := ["kind"]) fun _ _ _ _ _ _ us hl => match us, hl with | [_], _ => rfl
  have GF11 := fun_mk (st := s_ways) lF11 cF11 kF11
  have bF11 := GF11.binds (ps := ["parts", "total"]) fun _ _ _ _ _ _ us hl => match us, hl with | [_, _], _ => rfl
  have GF12 := fun_mk (st := s_group_count) lF12 cF12 kF12
  have bF12 := GF12.binds (ps := ["size", "kind"]) fun _ _ _ _ _ _ us hl => match us, hl with | [_, _], _ => rfl
  have GF13 := fun_mk (st := s_kinds_of) lF13 cF13 kF13
  have bF13 := GF13.binds (ps := ["size"]) fun _ _ _ _ _ _ us hl => match us, hl with | [_], _ => rfl
  have GF14 := fun_mk (st := s__law_sort) lF14 cF14 kF14
  have bF14 := GF14.binds (ps := ["_law_size", "_law_row", "_law_column"]) fun _ _ _ _ _ _ us hl => match us, hl with | [_, _, _], _ => rfl
  have GF15 := fun_mk (st := s__law_met) lF15 cF15 kF15
  have bF15 := GF15.binds (ps := ["_law_size"]) fun _ _ _ _ _ _ us hl => match us, hl with | [_], _ => rfl
  have GF16 := fun_mk (st := s__law_right) lF16 cF16 kF16
  have bF16 := GF16.binds (ps := ["_law_purl_here"]) fun _ _ _ _ _ _ us hl => match us, hl with | [_], _ => rfl
  have GF17 := fun_mk (st := s_law) lF17 cF17 kF17
  have bF17 := GF17.binds (ps := ["_law_script"]) fun _ _ _ _ _ _ us hl => match us, hl with | [_], _ => rfl
  have T : Bt mg := ⟨PySem.W.mg_none_of X G z_len, PySem.W.mg_none_of X G z_int, PySem.W.mg_none_of X G z_abs, PySem.W.mg_none_of X G z_divmod, PySem.W.mg_none_of X G z_range, PySem.W.mg_none_of X G z_isinstance, PySem.W.mg_none_of X G z_bool, PySem.W.mg_none_of X G z_tuple, PySem.W.mg_none_of X G z_str, PySem.W.mg_none_of X G z_list, PySem.W.mg_none_of X G z_min, PySem.W.mg_none_of X G z_max, PySem.W.mg_none_of X G z_all, PySem.W.mg_none_of X G z_any, PySem.W.mg_none_of X G z_sum, PySem.W.mg_none_of X G z_sorted, PySem.W.mg_none_of X G z_enumerate⟩
  have BF0 : FB P w K mg base "_law_purl" 1 ["_law_script", "_law_spot"] (spPurl K) := ⟨fF0, _, ok__law_purl (P := P) (w := w) (base := base) GF0 T , PySem.W.mg_of X G aF0, kF0, bF0⟩
  have BF1 : FB P w K mg base "_law_dig" 1 ["_law_purl_here", "_law_many"] spDig := ⟨fF1, _, ok__law_dig (P := P) (w := w) (base := base) GF1 T , PySem.W.mg_of X G aF1, kF1, bF1⟩
  have BF2 : FB P w K mg base "_law_far" 2 ["_law_purl_here"] spFar := ⟨fF2, _, ok__law_far (P := P) (w := w) (base := base) GF2 T BF1, PySem.W.mg_of X G aF2, kF2, bF2⟩
  have BF3 : FB P w K mg base "is_whole" 1 ["value"] spWhole := ⟨fF3, _, ok_is_whole (P := P) (w := w) (base := base) GF3 T , PySem.W.mg_of X G aF3, kF3, bF3⟩
  have BF4 : FB P w K mg base "is_within" 2 ["value", "least", "most"] spWithin := ⟨fF4, _, ok_is_within (P := P) (w := w) (base := base) GF4 T BF3, PySem.W.mg_of X G aF4, kF4, bF4⟩
  have BF5 : FB P w K mg base "check_size" 3 ["size"] spSize := ⟨fF5, _, ok_check_size (P := P) (w := w) (base := base) GF5 T BF4 (PySem.W.mg_of X G aMS), PySem.W.mg_of X G aF5, kF5, bF5⟩
  have BF6 : FB P w K mg base "is_cell" 3 ["size", "value"] spCell := ⟨fF6, _, ok_is_cell (P := P) (w := w) (base := base) GF6 T BF4, PySem.W.mg_of X G aF6, kF6, bF6⟩
  have BF7 : FB P w K mg base "check_cell" 4 ["size", "cell"] spCellOk := ⟨fF7, _, ok_check_cell (P := P) (w := w) (base := base) GF7 T BF6, PySem.W.mg_of X G aF7, kF7, bF7⟩
  have BF8 : FB P w K mg base "kind_at" 1 ["size", "row", "column"] spSort := ⟨fF8, _, ok_kind_at (P := P) (w := w) (base := base) GF8 T , PySem.W.mg_of X G aF8, kF8, bF8⟩
  have BF9 : FB P w K mg base "kind_of" 5 ["size", "cell"] spKindOf := ⟨fF9, _, ok_kind_of (P := P) (w := w) (base := base) GF9 T BF5 BF7 BF8, PySem.W.mg_of X G aF9, kF9, bF9⟩
  have BF10 : FB P w K mg base "least_size" 1 ["kind"] (spLeastS K) := ⟨fF10, _, ok_least_size (P := P) (w := w) (base := base) GF10 T , PySem.W.mg_of X G aF10, kF10, bF10⟩
  have BF11 : FB P w K mg base "ways" 1 ["parts", "total"] spWays := ⟨fF11, _, ok_ways (P := P) (w := w) (base := base) GF11 T , PySem.W.mg_of X G aF11, kF11, bF11⟩
  have BF12 : FB P w K mg base "group_count" 2 ["size", "kind"] (spGroupS K) := ⟨fF12, _, ok_group_count (P := P) (w := w) (base := base) GF12 T BF10 BF11, PySem.W.mg_of X G aF12, kF12, bF12⟩
  have BF13 : FB P w K mg base "kinds_of" 4 ["size"] (spKindsOfS K) := ⟨fF13, _, ok_kinds_of (P := P) (w := w) (base := base) GF13 T BF5 BF12 (PySem.W.mg_of X G aDS) (WKinds.of jDS kDS vDS), PySem.W.mg_of X G aF13, kF13, bF13⟩
  have BF14 : FB P w K mg base "_law_sort" 1 ["_law_size", "_law_row", "_law_column"] spSort := ⟨fF14, _, ok__law_sort (P := P) (w := w) (base := base) GF14 T , PySem.W.mg_of X G aF14, kF14, bF14⟩
  have BF15 : FB P w K mg base "_law_met" 2 ["_law_size"] spMet := ⟨fF15, _, ok__law_met (P := P) (w := w) (base := base) GF15 T BF14, PySem.W.mg_of X G aF15, kF15, bF15⟩
  have BF16 : FB P w K mg base "_law_right" 6 ["_law_purl_here"] spRight := ⟨fF16, _, ok__law_right (P := P) (w := w) (base := base) GF16 T BF1 BF2 BF15 BF13 BF9, PySem.W.mg_of X G aF16, kF16, bF16⟩
  exact FnG.ofR (Sq.FnOk.asR (ok_law (P := P) (w := w) (base := base) GF17 T BF0 BF16) bF17)
end Sq
open PySem PySem.W PyProof.Rows
set_option maxRecDepth 100000 in
set_option maxHeartbeats 0 in
theorem PySem.Challenge.cw_squareloops_k26_kinds_of_tables_holds : PySem.Challenge.rw_squareloops_k26_kinds_of_tables.Holds := by
  w_on; o_law; k_head; (case hw => w_witness2)
  k_fill
  refine Sq.walkG (l := PySem.Challenge.rw_squareloops_k26_kinds_of_tables) (k := 7) (sp := Sq.spLaw) rfl (by decide) rfl ⟨rfl, by decide, by decide⟩ (fun w h Y => PySem.W.kIn_of Y) ?F (fun K H a ns h1 _ h2 => ⟨a, ns, rfl, h2, h1, fun _ => rfl⟩)
  case F =>
    intro w mg fa h KX G hmg base _ _
    refine' Sq.all_mk KX G hmg ?aF0 ?lF0 ?cF0 ?kF0 ?aF1 ?lF1 ?cF1 ?kF1 ?aF2 ?lF2 ?cF2 ?kF2 ?aF3 ?lF3 ?cF3 ?kF3 ?aF4 ?lF4 ?cF4 ?kF4 ?aF5 ?lF5 ?cF5 ?kF5 ?aF6 ?lF6 ?cF6 ?kF6 ?aF7 ?lF7 ?cF7 ?kF7 ?aF8 ?lF8 ?cF8 ?kF8 ?aF9 ?lF9 ?cF9 ?kF9 ?aF10 ?lF10 ?cF10 ?kF10 ?aF11 ?lF11 ?cF11 ?kF11 ?aF12 ?lF12 ?cF12 ?kF12 ?aF13 ?lF13 ?cF13 ?kF13 ?aF14 ?lF14 ?cF14 ?kF14 ?aF15 ?lF15 ?cF15 ?kF15 ?aF16 ?lF16 ?cF16 ?kF16 ?aF17 ?lF17 ?cF17 ?kF17 ?aMS ?aDS ?jDS ?kDS ?vDS ?z_len ?z_int ?z_abs ?z_divmod ?z_range ?z_isinstance ?z_bool ?z_tuple ?z_str ?z_list ?z_min ?z_max ?z_all ?z_any ?z_sum ?z_sorted ?z_enumerate base
    (case aF0 => k_is)
    (case lF0 => k_is)
    (case cF0 => k_is)
    (case kF0 => k_is)
    (case aF1 => k_is)
    (case lF1 => k_is)
    (case cF1 => k_is)
    (case kF1 => k_is)
    (case aF2 => k_is)
    (case lF2 => k_is)
    (case cF2 => k_is)
    (case kF2 => k_is)
    (case aF3 => k_is)
    (case lF3 => k_is)
    (case cF3 => k_is)
    (case kF3 => k_is)
    (case aF4 => k_is)
    (case lF4 => k_is)
    (case cF4 => k_is)
    (case kF4 => k_is)
    (case aF5 => k_is)
    (case lF5 => k_is)
    (case cF5 => k_is)
    (case kF5 => k_is)
    (case aF6 => k_is)
    (case lF6 => k_is)
    (case cF6 => k_is)
    (case kF6 => k_is)
    (case aF7 => k_is)
    (case lF7 => k_is)
    (case cF7 => k_is)
    (case kF7 => k_is)
    (case aF8 => k_is)
    (case lF8 => k_is)
    (case cF8 => k_is)
    (case kF8 => k_is)
    (case aF9 => k_is)
    (case lF9 => k_is)
    (case cF9 => k_is)
    (case kF9 => k_is)
    (case aF10 => k_is)
    (case lF10 => k_is)
    (case cF10 => k_is)
    (case kF10 => k_is)
    (case aF11 => k_is)
    (case lF11 => k_is)
    (case cF11 => k_is)
    (case kF11 => k_is)
    (case aF12 => k_is)
    (case lF12 => k_is)
    (case cF12 => k_is)
    (case kF12 => k_is)
    (case aF13 => k_is)
    (case lF13 => k_is)
    (case cF13 => k_is)
    (case kF13 => k_is)
    (case aF14 => k_is)
    (case lF14 => k_is)
    (case cF14 => k_is)
    (case kF14 => k_is)
    (case aF15 => k_is)
    (case lF15 => k_is)
    (case cF15 => k_is)
    (case kF15 => k_is)
    (case aF16 => k_is)
    (case lF16 => k_is)
    (case cF16 => k_is)
    (case kF16 => k_is)
    (case aF17 => k_is)
    (case lF17 => k_is)
    (case cF17 => k_is)
    (case kF17 => k_is)
    (case aMS => k_is)
    (case aDS => k_is)
    (case z_len => k_is)
    (case z_int => k_is)
    (case z_abs => k_is)
    (case z_divmod => k_is)
    (case z_range => k_is)
    (case z_isinstance => k_is)
    (case z_bool => k_is)
    (case z_tuple => k_is)
    (case z_str => k_is)
    (case z_list => k_is)
    (case z_min => k_is)
    (case z_max => k_is)
    (case z_all => k_is)
    (case z_any => k_is)
    (case z_sum => k_is)
    (case z_sorted => k_is)
    (case z_enumerate => k_is)
    (case jDS => k_is)
    (case kDS => first | rfl | decide)
    (case vDS => first | rfl | decide +kernel)
