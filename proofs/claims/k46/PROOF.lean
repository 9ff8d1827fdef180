import PyProof.Rows.All
import Wide.All
import OpenK.AllK
import Wide.FinOn
import HandS.ForMost
import HandS.Star
import HandS.Property
import HandS.OwnEq
import HandS.Wide
import HandS.WideBits
import HandS.Flow
import HandS.Defaults
import HandS.MakeKw
import HandS.MapObj
import HandS.SetFor
import PyProof.Rows.CountFlat
import KE.KBits
import KE.OsArith
import KE.KUnpackStar
import HandS.SlotsOwn
import HandS.Iter
import HandS.Conv
import HandS.Exc
import HandS.TryMany
import HandS.ExcInit
import HandS.ExcField
import HandS.ExcIs
import HandS.WordsExc
import HandS.ExcOwn
import HandS.IsInst
import KE.KExcIs
import HandS.TupSets
import HandS.Deep
import KE.OsSort
import HandS.Comp
import HandS.List
import KE.GoesMore
import HandS.MakeKwOnly
import KE.KOpsOwn
import HandS.FStr
import HandS.Text
import PyProof.ReprBulk
import PyProof.Rows.RegStrFacts
import HandS.Codes
import PyProof.NeKinds
import HandS.Style
import OpenK.KMeth
import HandS.GenBody
import HandS.GenYield
import HandS.GenCall
import HandS.GenList
import PySem.Challenge.RW_squareloops_k46_whole_sizes_as_sets
set_option Elab.async false
set_option maxRecDepth 100000
set_option maxHeartbeats 16000000
namespace Sq
open PySem L2 PySem.Spec PyProof.Rows

/-- a promise that is kept where no repr is under way -/
def FnG (P : Program) (w : World) (K : PySem.W.Frag) (mg : Str → Option Value) (base : Heap) (k : Nat) (f : Addr) (sp : Sp) : Prop :=
  ∀ (A : Around) (fr : List Env) (s : Shared) (H : Hp) (us : List Value) (vs : List V) (Q : VK), A.guards = some [] → Room k A →
    Env0 P w K mg base A fr s H → Vals vs us → sp vs H Q E0 → codeAny (model P w) A (.call (.ref f) ⟨us, []⟩) (CR CX0 fr P w H s Q E0) s

section
variable {P : Program} {w : World} {K : PySem.W.Frag} {mg : Str → Option Value} {base : Heap} {k : Nat} {f : Addr} {fd : FuncData} {sp : Sp} {x qual : Str} {st : Stmt} {N ps : List Str}

theorem FnG.of (F : Fun K x qual st f fd) (S : FnScope N ps (defScope st)) (b : Binds K fd ps []) (len : ∀ vs H Q, sp vs H Q E0 → vs.length = ps.length)
    (hbody : ∀ (cdv : Value) (A : Around) (fr : List Env) (s : Shared) (H : Hp) (vs : List V) (Q : VK),
      (A.deeper (envOfC qual (defScope st) s.heap.objs.size f cdv)).guards = some [] →
      Room k (A.deeper (envOfC qual (defScope st) s.heap.objs.size f cdv)) → sp vs H Q E0 →
      ∃ t, PSs (cxOf CX0 P w K mg base N qual (defScope st) f cdv A fr s H E0).nox (defBody st) t ∧
        t { nx := fun _ H' => Q .non H', rt := Q } (L2.start N vs) H) : FnG P w K mg base (k + 1) f sp := by
  intro A fr s H us vs Q hg hr e0 r hs
  obtain ⟨oc, od, kV, doc, pm, an, cdv, ct, osl, rfl, lk, hcd⟩ := F.ex
  have hin : K.In s.heap := e0.mod.kin.keeps fun b o e => (e0.bs b o e).1
  have hl : vs.length = ps.length := len vs H Q hs
  have hu : (us ++ []).length = ps.length := by
    rw [List.append_nil, ← r.length]
    exact hl
  refine StX.run_bnd lk hcd S hr e0 (G := fun vs' H2 => vs' = vs ∧ H2 = H) (fun A' Ex Q' h => ?_) fun s2 H2 vs' hv hr' => ?_
  · have z := b s us hin hu
    rw [List.append_nil] at z
    exact z (model P w) A' Ex Q' (h s H vs us e0 Un.refl rfl (fun _ _ q => q) r hl ⟨rfl, rfl⟩)
  · obtain ⟨e1, e2⟩ := hv
    subst e1 e2
    obtain ⟨t, ht, q⟩ := hbody cdv A fr s2 _ _ Q hg hr' hs
    exact ⟨t, ht.nox, q⟩
theorem FnG.ofR (F : FnR P w K mg base CX0 k f sp) : FnG P w K mg base k f sp := fun A fr s H us vs Q _ hr e0 r h => F A fr s H us vs Q E0 hr e0 r h
end

section
variable {X : Cx} {k : Nat} {f : Addr} {sp : Sp} {x : Str} {p pos : Pos} {e : Expr} {es : List Expr} {t : TA}
theorem run_fnG {pins : List (Addr × Obj)} {σ : L2.St} {H : Hp} {s : Shared} {Q : VK} {us : List Value} {vs : List V} (F : FnG X.prog X.w X.K X.mg X.base k f sp)
    (hg : X.A.guards = some []) (hr : Room k X.A) (I : Inv X pins σ H s) (r : Vals vs us) (h : sp vs H Q E0) :
    wpAny (model X.prog X.w) X.A (call (.ref f) us) (EP X pins σ Q) X.xe s := by
  refine wpAny_call (codeAny_mono (F X.A X.stack s H us vs Q hg hr I.env0 r h) fun z s' hz => ?_)
  match z, hz with
  | .error _, hz => exact False.elim hz
  | .ok (.ret _), hz => exact I.after hz
  | .ok .next, hz => exact False.elim hz
  | .ok .brk, hz => exact False.elim hz
  | .ok .cont, hz => exact False.elim hz
def tCallG (sp : Sp) (t : TA) : TE := fun σ H Q => t σ H fun vs H1 => sp vs H1 Q E0
/-- f(e, ..) by such a promise -/
theorem pe_callG (F : FnG X.prog X.w X.K X.mg X.base k f sp) (hg : X.A.guards = some []) (hr : Room k X.A) (hgl : Gl X x) (hm : X.mg x = some (.ref f))
    (hk : PySem.W.keepIn X.K (.ref f) = true) (ha : PA X (e :: es) t) (hdb : (x == ("__debug__" : Str)) = false := by decide)
    (he : starEach (e :: es) X.env = (false, eval e X.env) :: starEach es X.env := by rfl)
    (hpl : (backTo pos (starEach es X.env)).any (·.1) = false := by rfl) : PE X (.Call (.Name x p) (e :: es) [] pos) (tCallG sp t) := by
  constructor
  intro pins s σ H Q I h
  apply wpAny_Call_Name_kw
  refine ld_glob I hgl hm (PySem.W.callWith_K (h₀ := X.base) I.ok.mod.kin hk ?_ he hpl) hdb
  refine thn (ha.run pos pins s σ H _ I h) ?_
  rintro us s1 ⟨vs, H1, I1, r, q⟩
  exact ⟨I1.kIn, run_fnG F hg hr I1 r q⟩

/-- repr of data: what is shown, exactly -/
def rRepr (K : PySem.W.Frag) : List V → Hp → VK → Prop := fun xs H Q => ∃ (a : Addr) (d : PyData), xs = [.ref a] ∧ Dp K H (.ref a) d ∧ d.showable = true ∧ d.hasDict = false ∧ d.depth ≤ 20 ∧ d.shown.length ≤ sizeLine ∧ Q (.str d.shown) H
theorem call_repr (hg : X.A.guards = some []) (hr : Room k X.A) : CallR X (.builtin "repr") (rRepr X.K) := by
  intro pins s σ H xs us Q I r h
  obtain ⟨a, d, rfl, hd, h1, h2, h3, h4, q⟩ := h
  obtain ⟨u, rfl, r1⟩ := vals1 r
  obtain ⟨as, rd⟩ := Dp.reads I d _ u hd r1
  cases r1
  have hu := hr.units
  refine repr_of_reads' rd h1 (fun z => by rw [h2] at z; cases z) hg (by omega) (fun _ _ z => z) (fun h' u' tk kp => ?_) h4
  exact ⟨.str d.shown, H, I.kept kp, ⟨u', rfl⟩, q⟩
end
end Sq
namespace Sq
open PySem L2 PySem.Spec PyProof.Rows

section
variable {P : Program} {w : World} {K : PySem.W.Frag} {mg mb : Str → Option Value} {k : Nat} {fa a : Addr} {sp : Sp} {s1 : Shared} {vs : List Value} {ns : List Int}
/-- the law's own call, from such a promise of it, over one abstract heap -/
theorem end_core (KX : K.In s1.heap) (hns : s1.heap.Ns mainGlobals mg) (hb : s1.heap.Ns builtinsNs mb) (hbb : ∀ x : Str, x ≠ "__name__" → mb x = bootBuiltins x)
    (hlim : s1.heap.NoLimit) (hg : s1.gens = #[]) (ha : s1.heap.get? a = some { cls := .type "list", data := .seq vs.toArray }) (hr : Room k callerA)
    (F : ∀ base : Heap, K.In base → base.Ns mainGlobals mg → FnG P w K mg base k fa sp)
    (H : Hp) (hO : Only H) (hsp : sp [.ref a] H (fun v _ => v = .bl true) E0) (hok : HOk P w H s1.heap) (hA : ∀ b, H b ≠ none → b = a) (hK : H a ≠ none → K.lookup a = none) :
    codeAny (model P w) callerA (.call (.ref fa) ⟨[.ref a], []⟩) (fun r s' => r = .ok (.ret (.bool true)) ∧ OldK s1.heap s'.heap ∧ s'.os = s1.os ∧ AllBare s'.gens) s1 := by
  have free : ∀ {b : Addr} {o : Obj}, s1.heap.get? b = some o → o ≠ { cls := .type "list", data := .seq vs.toArray } → H b = none := by
    intro b o e n
    refine Classical.byContradiction fun q => n ?_
    have eb := hA b q
    rw [eb, ha] at e
    exact (Option.some.inj e).symm
  have ns1 : ∀ {b : Addr} {m : Str → Option Value}, s1.heap.Ns b m → (hidT s1.heap H).Ns b m := by
    rintro b m ⟨o, es, ep, e, d, r⟩
    refine ⟨o, es, ep, hidT_get e (free e fun q => ?_), d, r⟩
    rw [q] at d
    cases d
  have kin : K.In (hidT s1.heap H) := by
    intro b o e
    refine hidT_get (KX b o e) (Classical.byContradiction fun q => ?_)
    have eb := hA b q
    rw [eb] at e q
    rw [hK q] at e
    cases e
  have md : Mod K mg (hidT s1.heap H) := by
    obtain ⟨mc, h1, h2⟩ := hlim
    exact ⟨kin, ns1 hns, ⟨mb, ns1 hb, hbb⟩, ⟨mc, ns1 h1, h2⟩⟩
  have e0 : Env0 P w K mg (hidT s1.heap H) callerA [] s1 H :=
    { frames := rfl, mod := md, bs := fun b o e => of_hidT e, bsz := Nat.le_of_eq (hidT_size _ _), funs := trivial, frf := fun b hb => (by cases hb), hok := hok, bare := .of_eq hg }
  have run := F _ kin (ns1 hns) callerA [] s1 H [.ref a] [.ref a] (fun v _ => v = .bl true) rfl hr e0 (.cons rfl .nil) hsp
  refine codeAny_mono run fun r s' h => ?_
  match r, h with
  | .error _, h => exact False.elim h
  | .ok .next, h => exact False.elim h
  | .ok .brk, h => exact False.elim h
  | .ok .cont, h => exact False.elim h
  | .ok (.ret u), h =>
    obtain ⟨v, H', os, bare, un, hok', r', q⟩ := h
    cases (show v = .bl true from q)
    cases (show u = Value.bool true from r')
    refine ⟨rfl, OldK.of_keep fun b o e => ?_, os, bare⟩
    rcases hO b with z | ⟨ob, xs, z⟩
    · exact un.keep b o e z (fun q => by cases q) (fun q => by cases q)
    · have e1 := (hok b _ z).1
      have e2 := (hok' b _ (un.frzs b ob _ z)).1
      exact e2.trans (e1.symm.trans e)

theorem end_call (KX : K.In s1.heap) (hns : s1.heap.Ns mainGlobals mg) (hb : s1.heap.Ns builtinsNs mb) (hbb : ∀ x : Str, x ≠ "__name__" → mb x = bootBuiltins x)
    (hlim : s1.heap.NoLimit) (hg : s1.gens = #[]) (ha : s1.heap.get? a = some { cls := .type "list", data := .seq vs.toArray }) (hi : IntsAre vs ns) (hl : ns.length ≤ sizeLine)
    (hr : Room k callerA) (F : ∀ base : Heap, K.In base → base.Ns mainGlobals mg → FnG P w K mg base k fa sp)
    (hsp : ∀ H : Hp, Only H → SqL K H a (ns.map V.int) → sp [.ref a] H (fun v _ => v = .bl true) E0) :
    codeAny (model P w) callerA (.call (.ref fa) ⟨[.ref a], []⟩) (fun r s' => r = .ok (.ret (.bool true)) ∧ OldK s1.heap s'.heap ∧ s'.os = s1.os ∧ AllBare s'.gens) s1 := by
  have rv := vals_ints hi
  have ez : vs.toArray.size ≤ sizeLine := by
    rw [List.size_toArray, hi.length]
    exact hl
  by_cases hk : K.lookup a = none
  · let H : Hp := fun b => if b = a then some (.frz { cls := .type "list", data := .seq vs.toArray } (.lst (ns.map V.int))) else none
    have at_a : H a = some (.frz { cls := .type "list", data := .seq vs.toArray } (.lst (ns.map V.int))) := if_pos rfl
    have off : ∀ {b : Addr}, b ≠ a → H b = none := fun q => if_neg q
    have only : Only H := fun b => by
      by_cases q : b = a
      · exact .inr ⟨_, _, q ▸ at_a⟩
      · exact .inl (off q)
    refine end_core KX hns hb hbb hlim hg ha hr F H only (hsp H only (.inl (.inr ⟨_, at_a⟩))) (fun b u z => ?_) (fun b z => Classical.byContradiction fun q => z (off q)) fun _ => hk
    by_cases q : b = a
    · subst q
      cases at_a.symm.trans z
      exact ⟨ha, by rw [List.length_map]; exact hl, vs, _, rv, ha⟩
    · cases (off q).symm.trans z
  · obtain ⟨o, ho⟩ := Option.ne_none_iff_exists'.mp hk
    have e := (KX a o ho).symm.trans ha
    cases e
    refine end_core KX hns hb hbb hlim hg ha hr F (fun _ => none) (fun _ => .inl rfl) (hsp _ (fun _ => .inl rfl) (.inr ⟨_, vs.toArray, _, ho, rfl, rfl, rfl, ez, by simpa using rv⟩)) (fun b u z => by cases z) (fun b z => absurd rfl z) fun z => absurd rfl z
end

/-- the goal that k_head leaves, from such a promise of the law -/
theorem walkG {l : PySem.W.OpenLaw} {n k : Nat} {q : Program} {loose : List Str} {XP : (Str → Option Value) → Heap → Prop} {YP : World → Heap → Prop} {d : DefRec} {K : Params → PySem.W.Frag} {sp : PySem.W.Frag → Sp}
    (hn : l.most = some n) (hn2 : n ≤ sizeLine) (hdf : d.params.defaults = []) (hr : Room k callerA) (hY : ∀ (w : World) (h : Heap), YP w h → (K w.params).In h)
    (F : ∀ (w : World) (mg : Str → Option Value) (fa : Addr) (h : Heap), (K w.params).In h → h.Ns mainGlobals mg → mg d.name = some (.ref fa) →
      ∀ base : Heap, (K w.params).In base → base.Ns mainGlobals mg → FnG l.prog w (K w.params) mg base k fa (sp (K w.params)))
    (hsp : ∀ (K : PySem.W.Frag) (H : Hp) (a : Addr) (ns : List Int), ns.length ≤ n → Only H → SqL K H a (ns.map V.int) → sp K [.ref a] H (fun v _ => v = .bl true) E0) :
    PySem.W.WalkO q loose XP YP l.row.toRowW d [] (fun f vs => PySem.call f vs) := by
  refine Att.attach_call hn hdf ?_
  intro w s0 s1 mg mb fa o pm cd doc a vs ns G Y _ _ _ hmg hobj hints hlen hg
  have KX := hY w _ Y
  exact end_call KX G.T.g G.T.b G.T.builtins G.T.nolimit hg hobj hints (Nat.le_trans hlen hn2) hr (F w mg fa _ KX G.T.g hmg) fun H hO hS => hsp _ H a ns hlen hO hS
end Sq
namespace Sq
open PySem L2 PySem.Spec PyProof.Rows
section
variable {prog : Program} {w : World}
theorem meets_boolO (a : Addr) : MeetsIn prog w (Builtin.«bool.__new__» ⟨[.type "bool", .ref a], []⟩)
    (fun A R s => wpAny (model prog w) A.in1 (truthy (.ref a)) (fun b s1 => R (.ok (.ret (.bool b))) s1) (fun e s1 => R (.error e) s1) s) :=
  MeetsIn.of_wp fun A R s h => by
    have f1 := F.conv_sub_bool
    unfold Builtin.«bool.__new__»
    repeat (any_goals (first | assumption | (with_reducible refine wpAny_bind (wpAny_mono h (fun b s1 hb => ?_) fun _ _ z => z)) | wp_step))
    all_goals exact ⟨_, rfl, hb⟩
end
theorem rel1 (a : Addr) : Vals [V.ref a] [Value.ref a] := .cons rfl .nil
theorem rel2 (a b : Addr) : Vals [V.ref a, V.ref b] [Value.ref a, Value.ref b] := .cons rfl (.cons rfl .nil)
section
variable {X : Cx} {k : Nat} {f C : Addr} {sp : Sp}
/-- a def of the text run below the body -/
theorem run_below {A : Around} {pins : List (Addr × Obj)} {σ : L2.St} {H : Hp} {s : Shared} {Q : VK} {us : List Value} {vs : List V} {E : Value → Shared → Prop} (F : FnR X.prog X.w X.K X.mg X.base CX0 k f sp)
    (hr : Room k A) (fr : A.frames = X.A.frames) (I : Inv X pins σ H s) (r : Vals vs us) (h : sp vs H Q E0) :
    wpAny (model X.prog X.w) A (call (.ref f) us) (EP X pins σ Q) E s := by
  have e := I.env0
  have e1 : Env0 X.prog X.w X.K X.mg X.base A X.stack s H := { frames := fr.trans e.frames, mod := e.mod, bs := e.bs, bsz := e.bsz, funs := e.funs, frf := e.frf, hok := e.hok, bare := e.bare }
  refine wpAny_call (codeAny_mono (F A X.stack s H us vs Q E0 hr e1 r h) fun z s' hz => ?_)
  match z, hz with
  | .error _, hz => exact False.elim hz
  | .ok (.ret _), hz => exact I.after hz
  | .ok .next, hz => exact False.elim hz
  | .ok .brk, hz => exact False.elim hz
  | .ok .cont, hz => exact False.elim hz
/-- bool(o), o an instance of a class of the text that has a __bool__ -/
theorem call_boolO (hs : PySem.W.findIn X.K (.ref C) "__bool__" = some (some (.ref f))) (hf : PySem.W.isFn X.K (.ref f) = true) (F : FnR X.prog X.w X.K X.mg X.base CX0 k f sp) (hr : Room (k + 2) X.A) :
    CallR X (.type "bool") (fun xs H Q => ∃ a dx fs, xs = [.ref a] ∧ H a = some (.ins C dx fs) ∧ sp [.ref a] H (fun v H' => ∃ b, v = .bl b ∧ Q (.bl b) H') E0) := by
  intro pins s σ H xs us Q I r h
  obtain ⟨a, dx, fs, rfl, ha, q⟩ := h
  obtain ⟨u, rfl, r1⟩ := vals1 r
  cases r1
  obtain ⟨mA, J, _⟩ := ins_get I.hok ha
  obtain ⟨od, J, _⟩ := J.look
  obtain ⟨m, hF⟩ := I.fr
  refine callType_newIn PySem.F.called_bool PySem.F.newNe_bool (PySem.F.typeCall_bool_1 _) (PySem.F.newCall_bool_1 _) (fun obj => PySem.F.args_object_init_2 obj _) PySem.F.entry_bool_new (meets_boolO a) ?_
  show wpAny (model X.prog X.w) X.A.in1.in1 (truthy (.ref a)) _ _ s
  refine PySem.W.truthy_K hF I.ok.mod.kin J hs hf ?_
  refine wpAny_mono (run_below F hr.in1.in1 rfl I (rel1 a) q) (fun v s' hv => ?_) fun _ _ z => z
  obtain ⟨y, H', I', ry, b, ey, q'⟩ := hv
  subst ey
  cases ry
  exact ⟨PySem.typeIs_bool _ _, ⟨.bl b, H', I', rfl, q'⟩⟩

def rOwn2 (C : Addr) (sp : Sp) (g : Bool → Bool) : R2 := fun x y H Q => ∃ a b dx dy fs gs, x = .ref a ∧ y = .ref b ∧ H a = some (.ins C dx fs) ∧ H b = some (.ins C dy gs) ∧
  sp [.ref a, .ref b] H (fun v H' => ∃ r, v = .bl r ∧ Q (.bl (g r)) H') E0
/-- a == b, both instances of a class of the text with an __eq__ -/
theorem op_eqO (hs : PySem.W.findIn X.K (.ref C) "__eq__" = some (some (.ref f))) (hf : PySem.W.isFn X.K (.ref f) = true) (F : FnR X.prog X.w X.K X.mg X.base CX0 k f sp) (hr : Room k X.A) :
    OpR X (compareOp .Eq) (rOwn2 C sp id) := by
  intro pins s σ H x y v u Q I rx ry h
  obtain ⟨a, b, dx, dy, fs, gs, rfl, rfl, ha, hb, q⟩ := h
  cases rx
  cases ry
  obtain ⟨mA, J, _⟩ := ins_get I.hok ha
  obtain ⟨mB, J', _⟩ := ins_get I.hok hb
  obtain ⟨od, J, _⟩ := J.look
  obtain ⟨od', J', _⟩ := J'.look
  obtain ⟨m, hF⟩ := I.fr
  show wpAny (model X.prog X.w) X.A (richCompare .Eq (.ref a) (.ref b)) _ _ s
  refine PySem.W.cmp_K (op := .Eq) (tb := .ref C) hr.units0 hF I.ok.mod.kin J J'.type (by simp [PySem.W.notFirst]) hs hf ?_
  refine wpAny_mono (run_below F hr rfl I (rel2 a b) q) (fun v s' hv => ?_) fun _ _ z => z
  obtain ⟨y, H', I', ry, r, ey, q'⟩ := hv
  subst ey
  cases ry
  exact ⟨.bl r, H', I', rfl, q'⟩
end
section
variable {M : Model} {A : Around} {E : Value → Shared → Prop} {s : Shared} {K : PySem.W.Frag} {x C : Addr} {ox : Obj} {od : Option Obj}
/-- a method of object's own that a class of the text inherits -/
theorem ifBound_obj {name : Str} {id : String} {args : List Value} {Q : Option Value → Shared → Prop} (S : Slot "object" name id) (X : K.In s.heap) (I : PySem.W.InstAt s.heap x ox C od)
    (hs : PySem.W.findIn K (.ref C) name = some (some (.builtin id))) (h : wpAny M A (call (.builtin id) (.ref x :: args)) (fun v => Q (some v)) E s) :
    wpAny M A (callSpecialIfBound? (.ref x) name args) Q E s := by
  simp only [callSpecialIfBound?, bindSpecialIfBound?]
  refine wpAny_holding (wpAny_bind (wpAny_bind (wpAny_bind (I.type.here ((PySem.W.looks_findIn X hs).here ?_)))))
  simp only [S.bind]
  refine wpAny_bind (wpAny_askSetting (wpAny_ite ?_))
  have go : wpAny M A (call (.builtin id) ([.ref x] ++ args) >>= fun v => pure (some v)) Q E s := wpAny_bind (wpAny_mono h (fun _ _ q => wpAny_pure q) fun _ _ q => q)
  split
  · exact wpAny_bind (wpAny_pure (wpAny_pure go))
  · exact wpAny_tryCatch (wpAny_bind (wpAny_pure (wpAny_pure go)))
end
section
variable {prog : Program} {w : World} {A : Around} {E : Value → Shared → Prop} {s : Shared} {K : PySem.W.Frag} {x C : Addr} {ox : Obj} {od : Option Obj}
theorem checked_ne {y : Value} {Q : Unit → Shared → Prop} (X : K.In s.heap) (I : PySem.W.InstAt s.heap x ox C od) (ho : PySem.W.subIn K (.ref C) (.type "object") = some true) (h : Q () s) :
    wpAny (model prog w) A (checkBuiltinCall "object.__ne__" ⟨[.ref x, y], []⟩) Q E s := by
  simp only [checkBuiltinCall, F.cmpKind_ne, F.cmpSplit_ne]
  unfold isInstance
  refine wpAny_bind (wpAny_bind (I.type.here ((PySem.W.looks_subIn X ho).here ?_)))
  have z := F.cmpArgs_ne (.ref x) y
  cases hsig : Manifest.signature? "object.__ne__" with
  | none => exact wpAny_pure h
  | some sig =>
    simp only [argsOk, hsig] at z
    have z2 : Bind.checkArgs "object.__ne__" sig ⟨[.ref x, y], []⟩ = pure () := z
    show wpAny _ A (Bind.checkArgs "object.__ne__" sig ⟨[.ref x, y], []⟩) Q E s
    rw [z2]
    exact wpAny_pure h
theorem ne_entry {f : Addr} {y : Value} {Q : PySem.Fin → Shared → Prop} (hu : A.units < cLine) (X : K.In s.heap) (I : PySem.W.InstAt s.heap x ox C od) (hs : PySem.W.findIn K (.ref C) "__eq__" = some (some (.ref f)))
    (hf : PySem.W.isFn K (.ref f) = true) (h : wpAny (model prog w) A (call (.ref f) [.ref x, y]) (fun v s' => ∃ b, v = .bool b ∧ Q (.done (.ret (.bool (!b)))) s') E s) :
    wpAny (model prog w) A (Builtin.«object.__ne__» ⟨[.ref x, y], []⟩) Q E s := by
  unfold Builtin.«object.__ne__»
  repeat (first
    | with_reducible refine wpAny_cRoomFor hu ?_
    | (refine wpAny_bind (m := callSpecialIfBound? (.ref x) (Str.ofString "__eq__") [y])
        (PySem.W.ifBound_K X I hs hf (wpAny_mono h (fun r s' hr => by
          obtain ⟨b, rfl, hq⟩ := hr
          repeat (first | exact hq | exact wpAny_pure hq | (refine wpAny_bind (m := truthy (.bool _)) (wpAny_truthy_bool ?_)) | wp_step)) fun _ _ e => e)))
    | wp_step)
theorem rich_ne {f b : Addr} {Q : Value → Shared → Prop} (hu : A.units + 1 < cLine) (X : K.In s.heap) (I : PySem.W.InstAt s.heap x ox C od) (hb : PySem.W.Looks (model prog w) s.heap (typeOf (.ref b)) (.ref C))
    (hn : PySem.W.findIn K (.ref C) "__ne__" = some (some (.builtin "object.__ne__"))) (ho : PySem.W.subIn K (.ref C) (.type "object") = some true)
    (hs : PySem.W.findIn K (.ref C) "__eq__" = some (some (.ref f))) (hf : PySem.W.isFn K (.ref f) = true)
    (h : wpAny (model prog w) A.in1 (call (.ref f) [.ref x, .ref b]) (fun v s' => ∃ r, v = .bool r ∧ Q (.bool (!r)) s') E s) :
    wpAny (model prog w) A (richCompare .NotEq (.ref x) (.ref b)) Q E s := by
  have one : wpAny (model prog w) A (tryCompare (.ref x) "__ne__" (.ref b)) (fun r s' => ∃ z, r = some (.bool z) ∧ Q (.bool z) s') E s := by
    unfold tryCompare
    refine wpAny_bind (ifBound_obj F.cmp_object.ne X I hn (wpAny_call (codeAny_call_builtin F.cmp_object.ne.plain F.cmpEntry_ne (checked_ne X I ho (ne_entry (A := A.in1) hu X I hs hf (wpAny_mono h (fun v s' hv => ?_) fun _ _ z => z))))))
    obtain ⟨r, rfl, q⟩ := hv
    exact ⟨r, rfl, wpAny_pure ⟨_, rfl, q⟩⟩
  unfold richCompare
  simp only [PySem.oneThing_ref]
  refine wpAny_holding (wpAny_bind (wpAny_cRoomFor (Nat.lt_of_succ_lt hu) ?_))
  rw [cmpInfo_NotEq]
  dsimp only
  refine wpAny_bind (I.type.here (wpAny_bind (hb.here ?_)))
  rw [show (Value.ref C != Value.ref C) = false from by simp]
  simp only [Bool.false_eq_true, if_false]
  refine wpAny_bind (wpAny_pure ?_)
  simp only [Bool.false_eq_true, if_false]
  refine wpAny_bind (wpAny_mono one (fun r s' hz => ?_) fun _ _ z => z)
  obtain ⟨z, rfl, q⟩ := hz
  exact wpAny_pure q
end
section
variable {X : Cx} {k : Nat} {f C : Addr} {sp : Sp}
/-- a != b, by the text's __eq__ alone -/
theorem op_neO (hn : PySem.W.findIn X.K (.ref C) "__ne__" = some (some (.builtin "object.__ne__"))) (ho : PySem.W.subIn X.K (.ref C) (.type "object") = some true)
    (hs : PySem.W.findIn X.K (.ref C) "__eq__" = some (some (.ref f))) (hf : PySem.W.isFn X.K (.ref f) = true) (F : FnR X.prog X.w X.K X.mg X.base CX0 k f sp) (hr : Room (k + 1) X.A) :
    OpR X (compareOp .NotEq) (rOwn2 C sp (!·)) := by
  intro pins s σ H x y v u Q I rx ry h
  obtain ⟨a, b, dx, dy, fs, gs, rfl, rfl, ha, hb, q⟩ := h
  cases rx
  cases ry
  obtain ⟨mA, J, _⟩ := ins_get I.hok ha
  obtain ⟨mB, J', _⟩ := ins_get I.hok hb
  obtain ⟨od, J, _⟩ := J.look
  obtain ⟨od', J', _⟩ := J'.look
  show wpAny (model X.prog X.w) X.A (richCompare .NotEq (.ref a) (.ref b)) _ _ s
  refine rich_ne (hu_of hr) I.kIn J J'.type hn ho hs hf ?_
  refine wpAny_mono (run_below F hr.in1 rfl I (rel2 a b) q) (fun v s' hv => ?_) fun _ _ z => z
  obtain ⟨y, H', I', ry, r, ey, q'⟩ := hv
  subst ey
  cases ry
  exact ⟨r, rfl, .bl (!r), H', I', rfl, q'⟩
end
end Sq
namespace Sq
open PySem L2 PySem.Spec PyProof.Rows
/-- the built-ins that the text calls are still so -/
structure Bt (mg : Str → Option Value) : Prop where
  len : mg "len" = none
  int : mg "int" = none
  abs : mg "abs" = none
  divmod : mg "divmod" = none
  range : mg "range" = none
  isinstance : mg "isinstance" = none
  bool : mg "bool" = none
  tuple : mg "tuple" = none
  str : mg "str" = none
  list : mg "list" = none
  min : mg "min" = none
  max : mg "max" = none
  all : mg "all" = none
  any : mg "any" = none
  sum : mg "sum" = none
  sorted : mg "sorted" = none
  enumerate : mg "enumerate" = none
/-- a promise of a top function, with all that a call of it asks -/
structure FB (P : Program) (w : World) (K : PySem.W.Frag) (mg : Str → Option Value) (base : Heap) (x : Str) (k : Nat) (ps : List Str) (sp : Sp) : Prop where
  ex : ∃ (f : Addr) (fd : FuncData), FnOk P w K mg base CX0 k f fd ps sp ∧ mg x = some (.ref f) ∧ PySem.W.keepIn K (.ref f) = true ∧ Binds K fd ps []
section
variable {X : Cx} {j k : Nat} {x : Str} {p pos : Pos} {e : Expr} {es : List Expr} {t : TA} {ps : List Str} {sp : Sp}
theorem pe_fb (F : FB X.prog X.w X.K X.mg X.base x k ps sp) (hr : Room j X.A) (hk : k ≤ j) (hg : Gl X x) (ha : PA X (e :: es) t) (hdb : (x == ("__debug__" : Str)) = false := by decide)
    (he : starEach (e :: es) X.env = (false, eval e X.env) :: starEach es X.env := by rfl) (hpl : (backTo pos (starEach es X.env)).any (·.1) = false := by rfl) :
    PE X (.Call (.Name x p) (e :: es) [] pos) (tCall sp [] E0 t) := by
  obtain ⟨f, fd, G, hm, kk, b⟩ := F.ex
  exact pe_call G (hr.mono hk) hg hm kk b .nil pass0 ha hdb he hpl
theorem pe_fb0 (F : FB X.prog X.w X.K X.mg X.base x k ps sp) (hr : Room j X.A) (hk : k ≤ j) (hg : Gl X x) (hdb : (x == ("__debug__" : Str)) = false := by decide) :
    PE X (.Call (.Name x p) [] [] pos) (tCall sp [] E0 tNil) := by
  obtain ⟨f, fd, G, hm, kk, b⟩ := F.ex
  exact pe_call0 G (hr.mono hk) hg hm kk b .nil pass0 hdb
end
/-! ### list.count of truths -/
def rCntB (K : PySem.W.Frag) : V → List V → Hp → VK → Prop := fun x xs H Q => ∃ (p : Addr) (bs : List Bool) (k : Bool), x = .ref p ∧ xs = [.bl k] ∧ SqL K H p (bs.map V.bl) ∧ Q (.int (bs.count k : Nat)) H
theorem cnt_bools (k : Bool) : ∀ {bs : List Bool} {vs : List Value}, Vals (bs.map V.bl) vs → vs.countP (isBoolOf k) = bs.count k
  | [], _, h => by cases h; rfl
  | b :: r, _, h => by
    cases h with
    | cons r1 rr =>
      cases r1
      rw [List.countP_cons, List.count_cons, cnt_bools k rr]
      cases b <;> cases k <;> rfl
theorem eq_bools (k : Bool) : ∀ {bs : List Bool} {vs : List Value}, Vals (bs.map V.bl) vs → ∀ y, y ∈ vs → ∀ (A : Around) (s : Shared), PySem.SeqAt.EqAt A s y (.bool k) (isBoolOf k y)
  | [], _, h, y, hy, _, _ => by cases h; cases hy
  | b :: r, _, h, y, hy, A, s => by
    cases h with
    | cons r1 rr =>
      cases r1
      rcases List.mem_cons.mp hy with e | hy
      · rw [e]; exact PySem.SeqAt.EqAt.bool_bool b k
      · exact eq_bools k rr y hy A s
theorem mt_bcount {X : Cx} : MtR X "list.count" (rCntB X.K) := by
  intro pins s σ H x xs v us Q I rx rxs h
  obtain ⟨p, bs, k, rfl, rfl, hs, q⟩ := h
  cases rx
  obtain ⟨u, rfl, ru⟩ := rxs.one
  cases ru
  obtain ⟨its, rv, ⟨⟨cls, dd, data, sl⟩, n, ho, hc, hdn, hd⟩, hlen⟩ := I.list hs
  simp only at hc hd
  subst hc hd
  refine call_meets PySem.F.slot_list_count ⟨_, ho, rfl⟩ PySem.F.entry_list_count (PySem.F.args_list_count_2 _ _)
    (PySem.SeqAt.list_countAt p its.toArray n dd sl (.bool k) (isBoolOf k)) ⟨ho, fun y hy => eq_bools k rv y (by simpa using hy) _ _, ?_⟩
  refine ⟨.int (bs.count k : Nat), H, I.tok _, ⟨s.toks, ?_⟩, q⟩
  rw [show its.toArray.toList = its from rfl, cnt_bools k rv]
/-! ### the draws -/
/-- all but what stands at p is as it was -/
def Off (p : Addr) (H H' : Hp) : Prop := ∀ b o, b ≠ p → H b = some o → H' b = some o
theorem Off.trans {p : Addr} {H H1 H2 : Hp} (a : Off p H H1) (b : Off p H1 H2) : Off p H H2 := fun c o n h => b c o n (a c o n h)
theorem Same.off {p : Addr} {H H1 : Hp} (a : Same H H1) : Off p H H1 := fun c o _ h => a c o h
theorem Off.refl {p : Addr} {H : Hp} : Off p H H := fun _ _ _ h => h
theorem same_new {H : Hp} {p : Addr} {o : HO} (h : H p = none) : Same H (upd H p o) := fun b u e => by
  rw [upd_ne (ne_of_none e h)]
  exact e
def PurlAt (H : Hp) (p : Addr) : Prop := ∃ m d : Int, H p = some (.lst [.int m, .int d])
theorem PurlAt.same {H H' : Hp} {p : Addr} (h : PurlAt H p) (s : Same H H') : PurlAt H' p := by
  obtain ⟨m, d, e⟩ := h
  exact ⟨m, d, s _ _ e⟩
def spPurl (K : PySem.W.Frag) : Sp := fun vs H Q _ => ∃ (a : Addr) (ns : List Int) (k : Nat), vs = [.ref a, .int (k : Int)] ∧ SqL K H a (ns.map V.int) ∧ ns.length ≤ 63 ∧ k ≤ 63 ∧
  ∀ p H', H p = none → PurlAt H' p → Same H H' → Q (.ref p) H'
def spDig : Sp := fun vs H Q _ => ∃ (p : Addr) (k : Int), vs = [.ref p, .int k] ∧ PurlAt H p ∧ 0 < k ∧ k < 1073741824 ∧
  ∀ (r : Int) (H' : Hp), 0 ≤ r → r < k → PurlAt H' p → Off p H H' → Q (.int r) H'
def spFar : Sp := fun vs H Q _ => ∃ p : Addr, vs = [.ref p] ∧ PurlAt H p ∧
  ∀ (r : Int) (H' : Hp), 1 ≤ r → r ≤ 1000000000000000000000000000000 → PurlAt H' p → Off p H H' → Q (.int r) H'
theorem nx_seq {t u : TS} {D' : Ends} {rt : VK} {bk ct : L2.St → Hp → Prop} {σ : L2.St} {H : Hp} (h : t { D' with nx := u D' } σ H) : tNext ⟨tSeq t u D', rt, bk, ct⟩ σ H := h
theorem nx_one {t : TS} {D' : Ends} {rt : VK} {bk ct : L2.St → Hp → Prop} {σ : L2.St} {H : Hp} (h : t D' σ H) : tNext ⟨t D', rt, bk, ct⟩ σ H := h
theorem nm_seq {t u : TS} {D' : Ends} {rt : VK} {bk ct : L2.St → Hp → Prop} {σ : L2.St} {H : Hp} {i : Nat} {v : V} (h : t { D' with nx := u D' } (σ.set i (some v)) H) : gName i v σ H (Ends.nx ⟨tSeq t u D', rt, bk, ct⟩) := h
theorem nm_one {t : TS} {D' : Ends} {rt : VK} {bk ct : L2.St → Hp → Prop} {σ : L2.St} {H : Hp} {i : Nat} {v : V} (h : t D' (σ.set i (some v)) H) : gName i v σ H (Ends.nx ⟨t D', rt, bk, ct⟩) := h
theorem pr_seq {t u : TS} {D' : Ends} {rt : VK} {bk ct : L2.St → Hp → Prop} {σ : L2.St} {H : Hp} (h : t { D' with nx := u D' } σ H) : Ends.nx ⟨tSeq t u D', rt, bk, ct⟩ σ H := h
theorem pr_one {t : TS} {D' : Ends} {rt : VK} {bk ct : L2.St → Hp → Prop} {σ : L2.St} {H : Hp} (h : t D' σ H) : Ends.nx ⟨t D', rt, bk, ct⟩ σ H := h
theorem st_of {t : TS} {D : Ends} {σ : L2.St} {H : Hp} (J : L2.St → Hp → Prop) (h : ∀ D' : Ends, (∀ σ' H', J σ' H' → D'.nx σ' H') → t D' σ H) (k : ∀ σ' H', J σ' H' → D.nx σ' H') : t D σ H := h D k
theorem un65 {k : Nat} {A : Around} (h : Room k A) : A.units + 65 < cLine := by
  have := h.un
  omega
theorem gen_of {t : TE} {σ : L2.St} {H : Hp} {Q : VK} (J : V → Hp → Prop) (h : ∀ Q' : VK, (∀ v H', J v H' → Q' v H') → t σ H Q') (k : ∀ v H', J v H' → Q v H') : t σ H Q := h Q k
theorem un1 {k : Nat} {A : Around} (h : Room k A) : A.units + 1 < cLine := by
  have := h.un
  omega
theorem un3 {k : Nat} {A : Around} (h : Room k A) : A.units + 3 < cLine := by
  have := h.un
  omega
theorem nm_q {i : Nat} {v : V} {σ : L2.St} {H : Hp} {Q : L2.St → Hp → Prop} (h : Q (σ.set i (some v)) H) : gName i v σ H Q := h
theorem sq_ {t u : TS} {D : Ends} {σ : L2.St} {H : Hp} (h : t { D with nx := u D } σ H) : tSeq t u D σ H := h
theorem if_ {tc : TT} {t u : TS} {D : Ends} {σ : L2.St} {H : Hp} (h : tc σ H fun b H1 => if b = true then t D σ H1 else u D σ H1) : tIfS tc t u D σ H := h
theorem asg_ {te : TE} {g : TG} {D : Ends} {σ : L2.St} {H : Hp} (h : te σ H fun x H1 => g x σ H1 D.nx) : tAsg te g D σ H := h
theorem ret_ {te : TE} {D : Ends} {σ : L2.St} {H : Hp} (h : te σ H D.rt) : tRet te D σ H := h
theorem val_of {t : TE} {σ : L2.St} {H : Hp} {Q : VK} (v : V) (h : ∀ Q' : VK, Q' v H → t σ H Q') (k : Q v H) : t σ H Q := h Q k
theorem valS_of {t : TE} {σ : L2.St} {H : Hp} {Q : VK} (v : V) (h : ∀ Q' : VK, (∀ H', Same H H' → Q' v H') → t σ H Q') (k : ∀ H', Same H H' → Q v H') : t σ H Q := h Q k
theorem tst_of {t : TT} {σ : L2.St} {H : Hp} {Q : Bool → Hp → Prop} (b : Bool) (h : ∀ Q' : Bool → Hp → Prop, (∀ H', Same H H' → Q' b H') → t σ H Q') (k : ∀ H', Same H H' → Q b H') : t σ H Q := h Q k
theorem sp_eta (sp : Sp) : (fun vs H Q E => sp (vs ++ []) H Q E) = sp := by
  funext vs H Q E
  rw [List.append_nil]
theorem FnOk.asR {P : Program} {w : World} {K : PySem.W.Frag} {mg : Str → Option Value} {base : Heap} {CX : CXT} {k : Nat} {f : Addr} {fd : FuncData} {ps : List Str} {sp : Sp} (F : FnOk P w K mg base CX k f fd ps sp) (b : Binds K fd ps []) : FnR P w K mg base CX k f sp := by
  have z := FnOk.raw F b (dvs := []) .nil
  rw [sp_eta] at z
  exact z
def spRight : Sp := fun vs H Q _ => ∃ p : Addr, vs = [.ref p] ∧ PurlAt H p ∧ ∀ H', Off p H H' → Q (.bl true) H'
def spLaw (K : PySem.W.Frag) : Sp := fun vs H Q _ => ∃ (a : Addr) (ns : List Int), vs = [.ref a] ∧ SqL K H a (ns.map V.int) ∧ ns.length ≤ 63 ∧ ∀ H', Q (.bl true) H'
end Sq
namespace Sq
open PySem L2
/-! ### numbers of orbits -/
def big : Int := 1000000000000000000000000000000
def leastN (a b c : Int) : Int := 2 * a + 2 * b + c + 1
def waysN (p : Nat) (t : Int) : Int := if p = 0 then (if t = 0 then 1 else 0) else if p = 1 then 1 else if p = 2 then t + 1 else (t + 1) * (t + 2) / 2
def openN (a b : Int) : Nat := [decide (a = 1), decide (b = 2)].count true
def grpN (n a b c : Int) : Int := if n - leastN a b c < 0 then 0 else if c = 3 then waysN (openN a b + 1) ((n - leastN a b c) / 2) else if (n - leastN a b c) % 2 = 0 then waysN (openN a b) ((n - leastN a b c) / 2) else 0
def imgN (b c : Int) : Int := if b = 0 ∧ c = 0 then 1 else if b = 0 ∨ c = 0 then 4 else 8
def cntN (n a b c : Int) : Int := grpN n a b c * imgN b c
theorem openN_le (a b : Int) : openN a b ≤ 2 := by
  unfold openN
  exact Nat.le_trans List.count_le_length (by simp)
/-! ### what the functions promise -/
def spWhole : Sp := fun vs H Q _ => ∃ n : Int, vs = [.int n] ∧ Q (.bl true) H
def spWithin : Sp := fun vs H Q _ => ∃ n a b : Int, vs = [.int n, .int a, .int b] ∧ Q (.bl (decide (a ≤ n) && decide (n ≤ b))) H
def spSize : Sp := fun vs H Q _ => ∃ n : Int, vs = [.int n] ∧ 1 ≤ n ∧ n ≤ big ∧ Q .non H
def KindAt (H : Hp) (t : Addr) (a b c : Int) : Prop := H t = some (.tup [.int a, .int b, .int c])
def KindR (a b c : Int) : Prop := (0 ≤ a ∧ a ≤ 1) ∧ (0 ≤ b ∧ b ≤ 2) ∧ (0 ≤ c ∧ c ≤ 3)
def spIsKind : Sp := fun vs H Q _ => ∃ (t : Addr) (a b c : Int), vs = [.ref t] ∧ KindAt H t a b c ∧ KindR a b c ∧ Q (.bl true) H
def spLeast : Sp := fun vs H Q _ => ∃ (t : Addr) (a b c : Int), vs = [.ref t] ∧ KindAt H t a b c ∧ Q (.int (leastN a b c)) H
def spImgN : Sp := fun vs H Q _ => ∃ (t : Addr) (a b c : Int), vs = [.ref t] ∧ KindAt H t a b c ∧ Q (.int (imgN b c)) H
def spWays : Sp := fun vs H Q _ => ∃ (p : Nat) (t : Int), vs = [.int (p : Int), .int t] ∧ 0 ≤ t ∧ t ≤ big ∧ Q (.int (waysN p t)) H
def spGroup : Sp := fun vs H Q _ => ∃ (n : Int) (t : Addr) (a b c : Int), vs = [.int n, .ref t] ∧ KindAt H t a b c ∧ KindR a b c ∧ n ≤ big ∧ ∀ H', Same H H' → Q (.int (grpN n a b c)) H'
def spCount : Sp := fun vs H Q _ => ∃ (n : Int) (t : Addr) (a b c : Int), vs = [.int n, .ref t] ∧ KindAt H t a b c ∧ KindR a b c ∧ 1 ≤ n ∧ n ≤ big ∧ ∀ H', Same H H' → Q (.int (cntN n a b c)) H'
end Sq
namespace Sq
open PySem L2 PySem.Spec PyProof.Rows
/-! ### x is not True, x is not False -/
def plainV : V → Bool
  | .int _ => true
  | .str _ => true
  | .non => true
  | .bl _ => true
  | .ref _ => true
  | _ => false
def rNotTF : R2 := fun x y H Q => ∃ b, y = .bl b ∧ plainV x = true ∧ Q (.bl (!decide (x = .bl b))) H
theorem op_notTF {X : Cx} : OpR X (compareOp .IsNot) rNotTF := by
  intro pins s σ H x y v u Q I rx ry h
  obtain ⟨b, rfl, pv, q⟩ := h
  cases (show u = Value.bool b from ry)
  cases x with
  | int n =>
    obtain ⟨t, rfl⟩ := rx
    exact wpAny_isNot_other rfl (fun z => nomatch z) ⟨.bl true, H, I, rfl, by simpa using q⟩
  | str n =>
    obtain ⟨t, rfl⟩ := rx
    exact wpAny_isNot_other rfl (fun z => nomatch z) ⟨.bl true, H, I, rfl, by simpa using q⟩
  | non =>
    cases rx
    exact wpAny_isNot_other rfl (fun z => nomatch z) ⟨.bl true, H, I, rfl, by simpa using q⟩
  | ref a =>
    cases rx
    exact wpAny_isNot_other rfl (fun z => nomatch z) ⟨.bl true, H, I, rfl, by simpa using q⟩
  | bl a =>
    cases (show v = Value.bool a from rx)
    by_cases e : a = b
    · subst e
      exact wpAny_isNot_self rfl ⟨.bl false, H, I, rfl, by simpa using q⟩
    · exact wpAny_isNot_other rfl (fun z => e (Value.bool.inj z)) ⟨.bl true, H, I, rfl, by simpa [e] using q⟩
  | _ => cases pv
end Sq
namespace Sq
/-! ### sets of sizes as numbers -/
def stN (n : Nat) : Nat := if n ≤ 202 then n else 202 - n % 2
def hasN (b n : Nat) : Bool := b.testBit (stN n)
def SB (b : Nat) : Prop := b < 2 ^ 203 ∧ b.testBit 0 = false
def tailB (s : Nat) : Nat := ((List.range 203).filter fun i => decide (s ≤ i) && decide (i % 2 = s % 2)).foldl (fun a i => a ||| 2 ^ i) 0
theorem fold_bit (l : List Nat) : ∀ (a i : Nat), (l.foldl (fun a i => a ||| 2 ^ i) a).testBit i = (a.testBit i || decide (i ∈ l)) := by
  induction l with
  | nil => intro a i; simp
  | cons x l ih =>
    intro a i
    rw [List.foldl_cons, ih, Nat.testBit_or, Nat.testBit_two_pow]
    by_cases h : x = i
    · subst h; simp
    · have h2 : ¬ i = x := fun e => h e.symm
      simp [h, h2]
theorem tail_bit (s i : Nat) : (tailB s).testBit i = (decide (i < 203) && (decide (s ≤ i) && decide (i % 2 = s % 2))) := by
  unfold tailB
  rw [fold_bit]
  simp [Nat.zero_testBit, List.mem_filter, List.mem_range]
/-- ascending numbers, summed as powers of two -/
def sumP (l : List Nat) : Nat := l.foldl (fun a i => a + 2 ^ i) 0
theorem sum_or : ∀ (l : List Nat) (a m : Nat), a < 2 ^ m → l.Pairwise (· < ·) → (∀ x ∈ l, m ≤ x) → l.foldl (fun a i => a + 2 ^ i) a = l.foldl (fun a i => a ||| 2 ^ i) a
  | [], _, _, _, _, _ => rfl
  | x :: l, a, m, ha, hp, hm => by
    rw [List.foldl_cons, List.foldl_cons]
    have hx := hm x (List.mem_cons_self ..)
    have ha' : a < 2 ^ x := Nat.lt_of_lt_of_le ha (Nat.pow_le_pow_right (by decide) hx)
    have e : a + 2 ^ x = a ||| 2 ^ x := by
      have z := Nat.two_pow_add_eq_or_of_lt ha' 1
      rw [Nat.mul_one] at z
      rw [Nat.add_comm, z, Nat.or_comm]
    rw [List.pairwise_cons] at hp
    have lt2 : a + 2 ^ x < 2 ^ (x + 1) := by rw [Nat.pow_succ]; omega
    rw [← e]
    have ih := sum_or l (a + 2 ^ x) (x + 1) lt2 hp.2 (fun y hy => hp.1 y hy)
    rw [ih]
theorem sumP_bit {l : List Nat} (h : l.Pairwise (· < ·)) (i : Nat) : (sumP l).testBit i = decide (i ∈ l) := by
  unfold sumP
  rw [sum_or l 0 0 (by decide) h (fun _ _ => Nat.zero_le _), fold_bit]
  simp
/-- the start of the run that ends at the last one -/
def downN (b : Nat) : Nat → Nat
  | n + 3 => if b.testBit (n + 1) then downN b (n + 1) else n + 3
  | n => n
def tailN (b last : Nat) : Option Nat := if b.testBit last then some (downN b last) else none
def tailO : Option Nat → Nat
  | none => 0
  | some s => tailB s
theorem tailO_lt (s : Option Nat) (i : Nat) (h : 203 ≤ i) : (tailO s).testBit i = false := by
  cases s with
  | none => simp [tailO]
  | some s => rw [tailO, tail_bit]; simp; omega
theorem lt_of_bits {b n : Nat} (h : ∀ i, n ≤ i → b.testBit i = false) : b < 2 ^ n := Nat.lt_pow_two_of_testBit b h
theorem down_spec (b : Nat) : ∀ n, 1 ≤ n → downN b n % 2 = n % 2 ∧ 1 ≤ downN b n ∧ downN b n ≤ n ∧ (∀ s, downN b n ≤ s → s < n → s % 2 = n % 2 → b.testBit s = true) ∧ (downN b n ≤ 2 ∨ b.testBit (downN b n - 2) = false)
  | 0, h => by omega
  | 1, _ => ⟨rfl, Nat.le_refl 1, Nat.le_refl 1, fun s h1 h2 _ => by have : downN b 1 = 1 := rfl; omega, .inl (show 1 ≤ 2 by decide)⟩
  | 2, _ => ⟨rfl, show 1 ≤ 2 by decide, Nat.le_refl 2, fun s h1 h2 _ => by have : downN b 2 = 2 := rfl; omega, .inl (Nat.le_refl 2)⟩
  | n + 3, _ => by
    by_cases h : b.testBit (n + 1) = true
    · have e : downN b (n + 3) = downN b (n + 1) := by rw [downN, if_pos h]
      rw [e]
      obtain ⟨h1, h2, h3, h4, h5⟩ := down_spec b (n + 1) (by omega)
      refine ⟨by omega, h2, by omega, fun s hs1 hs2 hs3 => ?_, h5⟩
      by_cases hn : s = n + 1
      · rw [hn]; exact h
      · exact h4 s hs1 (by omega) (by omega)
    · have e : downN b (n + 3) = n + 3 := by rw [downN, if_neg h]
      rw [e]
      exact ⟨rfl, by omega, Nat.le_refl _, fun s h1 h2 _ => by omega, .inr (by simpa using h)⟩
/-- m is where the run of the parity p begins that goes to the end, among the sizes from lo on -/
def IsEnd (b p lo m : Nat) : Prop := m % 2 = p ∧ lo ≤ m ∧ m ≤ 204 ∧ (∀ s, m ≤ s → s ≤ 204 → s % 2 = p → hasN b s = true) ∧ (m < lo + 2 ∨ hasN b (m - 2) = false)
theorem IsEnd.one {b p lo m m' : Nat} (h : IsEnd b p lo m) (h' : IsEnd b p lo m') : m = m' := by
  obtain ⟨a1, a2, a3, a4, a5⟩ := h
  obtain ⟨c1, c2, c3, c4, c5⟩ := h'
  rcases Nat.lt_trichotomy m m' with l | l | l
  · exfalso
    rcases c5 with c5 | c5
    · omega
    · have := a4 (m' - 2) (by omega) (by omega) (by omega)
      rw [c5] at this
      cases this
  · exact l
  · exfalso
    rcases a5 with a5 | a5
    · omega
    · have := c4 (m - 2) (by omega) (by omega) (by omega)
      rw [a5] at this
      cases this
/-- what the law's walk down has found for a parity, behind the sizes above k -/
def EndAt (b p k : Nat) : Option Nat → Prop
  | none => 204 - p ≤ k ∨ hasN b (204 - p) = false
  | some m => IsEnd b p (k + 1) m
theorem has_hi (b : Nat) : hasN b 203 = b.testBit 201 ∧ hasN b 204 = b.testBit 202 := ⟨rfl, rfl⟩
theorem has_lo {b n : Nat} (h : n ≤ 202) : hasN b n = b.testBit n := by
  unfold hasN stN
  rw [if_pos h]
theorem end_tail {b p : Nat} (hp : p < 2) {e : Option Nat} (h : EndAt b p 0 e) : e = tailN b (202 - p) := by
  have hb : hasN b (204 - p) = b.testBit (202 - p) := by
    rcases (show p = 0 ∨ p = 1 by omega) with rfl | rfl <;> rfl
  unfold tailN
  cases e with
  | none =>
    rcases h with h | h
    · omega
    · rw [← hb, h]; rfl
  | some m =>
    obtain ⟨a1, a2, a3, a4, a5⟩ := h
    have ht : b.testBit (202 - p) = true := by
      rw [← hb]
      exact a4 (204 - p) (by omega) (by omega) (by omega)
    rw [if_pos ht]
    have d := down_spec b (202 - p) (by omega)
    obtain ⟨d1, d2, d3, d4, d5⟩ := d
    have z : IsEnd b p (0 + 1) (downN b (202 - p)) := by
      refine ⟨by omega, by omega, by omega, fun s s1 s2 s3 => ?_, ?_⟩
      · by_cases hs : s < 202 - p
        · rw [has_lo (by omega)]
          exact d4 s s1 hs (by omega)
        · by_cases hs2 : s = 202 - p
          · rw [hs2, has_lo (by omega)]; exact ht
          · have : s = 204 - p := by omega
            rw [this, hb]; exact ht
      · rcases d5 with d5 | d5
        · exact .inl (by omega)
        · rw [has_lo (by omega)]
          exact .inr d5
    rw [IsEnd.one ⟨a1, a2, a3, a4, a5⟩ z]
/-- the law's step at the size k + 1 -/
def stepE (b k : Nat) (e : Option Nat) : Option Nat := if hasN b (k + 1) = true ∧ (e = none ∨ e = some (k + 3)) then (if e ≠ none ∨ 202 < k + 1 then some (k + 1) else e) else e
theorem end_step {b p k : Nat} {e : Option Nat} (hk : k < 204) (hp : (k + 1) % 2 = p) (h : EndAt b p (k + 1) e) : EndAt b p k (stepE b k e) := by
  have hp2 : p < 2 := by omega
  unfold stepE
  by_cases hh : hasN b (k + 1) = true
  · cases e with
    | none =>
      rw [if_pos ⟨hh, .inl rfl⟩]
      by_cases h2 : 202 < k + 1
      · rw [if_pos (.inr h2)]
        refine ⟨hp, Nat.le_refl _, by omega, fun s s1 s2 s3 => ?_, .inl (by omega)⟩
        have : s = k + 1 := by omega
        rw [this]; exact hh
      · rw [if_neg (by simp; omega)]
        rcases h with h | h
        · omega
        · exact .inr h
    | some m =>
      obtain ⟨a1, a2, a3, a4, a5⟩ := h
      by_cases hm : m = k + 3
      · subst hm
        rw [if_pos ⟨hh, .inr rfl⟩, if_pos (.inl (by simp))]
        refine ⟨hp, Nat.le_refl _, by omega, fun s s1 s2 s3 => ?_, .inl (by omega)⟩
        by_cases hs : s = k + 1
        · rw [hs]; exact hh
        · exact a4 s (by omega) s2 s3
      · rw [if_neg (by simp [hm])]
        refine ⟨a1, by omega, a3, a4, ?_⟩
        rcases a5 with a5 | a5
        · omega
        · exact .inr a5
  · rw [if_neg (fun z => hh z.1)]
    have hf : hasN b (k + 1) = false := by simpa using hh
    cases e with
    | none =>
      rcases h with h | h
      · by_cases hk2 : 204 - p ≤ k
        · exact .inl hk2
        · have : 204 - p = k + 1 := by omega
          exact .inr (by rw [this]; exact hf)
      · exact .inr h
    | some m =>
      obtain ⟨a1, a2, a3, a4, a5⟩ := h
      refine ⟨a1, by omega, a3, a4, ?_⟩
      rcases a5 with a5 | a5
      · by_cases hm : m < k + 1 + 2
        · exact .inl hm
        · have : m = k + 3 := by omega
          exact .inr (by rw [this]; exact hf)
      · exact .inr a5
theorem end_skip {b p k : Nat} {e : Option Nat} (hp2 : p < 2) (hp : (k + 1) % 2 ≠ p) (h : EndAt b p (k + 1) e) : EndAt b p k e := by
  cases e with
  | none =>
    rcases h with h | h
    · exact .inl (by omega)
    · exact .inr h
  | some m =>
    obtain ⟨a1, a2, a3, a4, a5⟩ := h
    refine ⟨a1, by omega, a3, a4, ?_⟩
    rcases a5 with a5 | a5
    · exact .inl (by omega)
    · exact .inr a5
theorem end_start (b p : Nat) : EndAt b p 204 none := .inl (by omega)
/-! ### what a set shows -/
def tailsN (b : Nat) : Nat := tailO (tailN b 202) ||| tailO (tailN b 201)
def listedN (b : Nat) : List Nat := (List.range 203).filter fun i => b.testBit i && !(tailsN b).testBit i
def leastS (b : Nat) : Option Nat := ((List.range 203).filter fun i => b.testBit i).head?
/-- the law's own look for a size within such tails -/
def inTail (e : Option Nat) (n : Nat) : Bool := match e with
  | none => false
  | some m => decide (m ≤ n)
def endOf (b n : Nat) : Option Nat := if n % 2 = 0 then tailN b 202 else tailN b 201
theorem tails_bit {b i : Nat} (hi : i < 203) : (tailsN b).testBit i = inTail (endOf b i) i := by
  unfold tailsN endOf
  rw [Nat.testBit_or]
  have one : ∀ last, last < 203 → 1 ≤ last → (tailO (tailN b last)).testBit i = (inTail (tailN b last) i && decide (i % 2 = last % 2)) := by
    intro last hl h1
    unfold tailN
    by_cases h : b.testBit last = true
    · rw [if_pos h]
      have d := (down_spec b last h1).1
      show (tailB _).testBit i = _
      rw [tail_bit, d]
      simp [inTail, hi]
    · rw [if_neg h]
      simp [tailO, inTail]
  rw [one 202 (by decide) (by decide), one 201 (by decide) (by decide)]
  by_cases hi2 : i % 2 = 0
  · rw [if_pos hi2]; simp [hi2]
  · have : i % 2 = 1 := by omega
    rw [if_neg hi2]; simp [this]
theorem down_le_last {b last : Nat} (h : 1 ≤ last) : downN b last ≤ last := (down_spec b last h).2.2.1
theorem range_end : List.range' 1 204 = List.range' 1 202 ++ [203, 204] := by
  rw [show 204 = 202 + 2 from rfl, ← List.range'_append_1]
  rfl
theorem range_begin : List.range 203 = 0 :: List.range' 1 202 := by
  rw [List.range_eq_range', show 203 = 202 + 1 from rfl, List.range'_succ]
/-- the law's list of what no tail holds -/
theorem listed_eq {b : Nat} (h0 : b.testBit 0 = false) : ((List.range' 1 204).filter fun n => hasN b n && !inTail (endOf b n) n) = listedN b := by
  have e := range_end
  have e2 := range_begin
  unfold listedN
  have f0 : (0 :: List.range' 1 202).filter (fun i => b.testBit i && !(tailsN b).testBit i) = (List.range' 1 202).filter (fun i => b.testBit i && !(tailsN b).testBit i) := List.filter_cons_of_neg (by simp [h0])
  rw [e, e2, List.filter_append, f0]
  have far : ([203, 204].filter fun n => hasN b n && !inTail (endOf b n) n) = [] := by
    have l1 := @down_le_last b 201 (by decide)
    have l2 := @down_le_last b 202 (by decide)
    rw [List.filter_eq_nil_iff]
    intro a ha
    simp only [List.mem_cons, List.not_mem_nil, or_false] at ha
    rcases ha with rfl | rfl
    · rw [(has_hi b).1]
      unfold endOf tailN inTail
      by_cases h : b.testBit 201 = true
      · simp [h]; omega
      · simp [h]
    · rw [(has_hi b).2]
      unfold endOf tailN inTail
      by_cases h : b.testBit 202 = true
      · simp [h]; omega
      · simp [h]
  rw [far, List.append_nil]
  refine List.filter_congr fun n hn => ?_
  rw [List.mem_range'_1] at hn
  rw [has_lo (by omega), tails_bit (by omega)]
theorem least_eq {b : Nat} (h0 : b.testBit 0 = false) : ((List.range' 1 204).filter fun n => hasN b n).head? = leastS b := by
  have e := range_end
  have e2 := range_begin
  unfold leastS
  have f0 : (0 :: List.range' 1 202).filter (fun i => b.testBit i) = (List.range' 1 202).filter fun i => b.testBit i := List.filter_cons_of_neg (by simp [h0])
  have z : (List.range' 1 202).filter (fun n => hasN b n) = (List.range' 1 202).filter fun i => b.testBit i := by
    refine List.filter_congr fun n hn => ?_
    rw [List.mem_range'_1] at hn
    exact has_lo (by omega)
  rw [e, e2, List.filter_append, f0, z, List.head?_append]
  cases hf : ((List.range' 1 202).filter fun i => b.testBit i).head? with
  | some m => rfl
  | none =>
    have hf := List.head?_eq_none_iff.mp hf
    have z2 : ∀ i, 1 ≤ i → i < 203 → b.testBit i = false := fun i h1 h2 => by
      have := List.filter_eq_nil_iff.mp hf i (by rw [List.mem_range'_1]; omega)
      simpa using this
    have far : ([203, 204].filter fun n => hasN b n) = [] := by
      rw [List.filter_eq_nil_iff]
      intro a ha
      simp only [List.mem_cons, List.not_mem_nil, or_false] at ha
      rcases ha with rfl | rfl
      · rw [(has_hi b).1, z2 201 (by decide) (by decide)]; simp
      · rw [(has_hi b).2, z2 202 (by decide) (by decide)]; simp
    rw [far]
    rfl
end Sq
namespace Sq
open PySem
theorem and_nat (a b : Nat) : Builtin.bitAnd (a : Int) (b : Int) = ((a &&& b : Nat) : Int) := by
  simp [Builtin.bitAnd]
theorem or_nat (a b : Nat) : Builtin.bitOr (a : Int) (b : Int) = ((a ||| b : Nat) : Int) := by
  have da : ∀ n : Nat, decide ((0 : Int) ≤ Builtin.bitNot (n : Int)) = false := fun n => decide_eq_false (by unfold Builtin.bitNot; omega)
  have nb : ∀ n : Nat, (Builtin.bitNot (Builtin.bitNot (n : Int))).toNat = n := fun n => by unfold Builtin.bitNot; omega
  have nc : ∀ n : Int, Builtin.bitNot (Builtin.bitNot n) = n := fun n => by unfold Builtin.bitNot; omega
  unfold Builtin.bitOr Builtin.bitAnd
  rw [da a, da b]
  dsimp only
  rw [nb, nb, nc]
def diffN (a t : Nat) : Nat := a - (a &&& t)
theorem andNot_nat (a t : Nat) : Builtin.bitAnd (a : Int) (Builtin.bitNot (t : Int)) = ((diffN a t : Nat) : Int) := by
  have h : a &&& t ≤ a := Nat.and_le_left
  have da : decide ((0 : Int) ≤ Builtin.bitNot (t : Int)) = false := decide_eq_false (by unfold Builtin.bitNot; omega)
  have nb : (Builtin.bitNot (Builtin.bitNot (t : Int))).toNat = t := by unfold Builtin.bitNot; omega
  unfold Builtin.bitAnd
  rw [da, decide_eq_true (Int.natCast_nonneg a)]
  dsimp only
  rw [nb, Int.toNat_natCast]
  unfold diffN
  omega
theorem add_or (n : Nat) : ∀ x y : Nat, x ≤ n → x &&& y = 0 → x + y = x ||| y := by
  induction n with
  | zero =>
    intro x y hx h
    have : x = 0 := by omega
    rw [this, Nat.zero_or, Nat.zero_add]
  | succ n ih =>
    intro x y hx h
    by_cases h0 : x = 0
    · rw [h0, Nat.zero_or, Nat.zero_add]
    have h1 : x / 2 &&& y / 2 = 0 := by
      rw [← Nat.and_div_two, h]
    have e := ih (x / 2) (y / 2) (by omega) h1
    have d : (x ||| y) / 2 = x / 2 ||| y / 2 := Nat.or_div_two
    have m := @Nat.or_mod_two_eq_one x y
    have a := @Nat.and_mod_two_eq_one x y
    rw [h] at a
    rw [← d] at e
    have a' : ¬ (x % 2 = 1 ∧ y % 2 = 1) := fun z => by
      have := a.mpr z
      omega
    by_cases hx1 : x % 2 = 1
    · have hy : y % 2 = 0 := by
        have := fun z => a' ⟨hx1, z⟩
        omega
      have := m.mpr (.inl hx1)
      omega
    · by_cases hy1 : y % 2 = 1
      · have := m.mpr (.inr hy1)
        omega
      · have : (x ||| y) % 2 = 0 := by
          have z : ¬ (x ||| y) % 2 = 1 := fun z => (m.mp z).elim hx1 hy1
          omega
        omega
theorem diff_bit (a t i : Nat) : (diffN a t).testBit i = (a.testBit i && !t.testBit i) := by
  have e : a = (a &&& t) + (a ^^^ (a &&& t)) := by
    have d : (a &&& t) &&& (a ^^^ (a &&& t)) = 0 := by
      apply Nat.eq_of_testBit_eq
      intro j
      simp only [Nat.testBit_and, Nat.testBit_xor, Nat.zero_testBit]
      cases a.testBit j <;> cases t.testBit j <;> rfl
    have o : (a &&& t) ||| (a ^^^ (a &&& t)) = a := by
      apply Nat.eq_of_testBit_eq
      intro j
      simp only [Nat.testBit_and, Nat.testBit_xor, Nat.testBit_or]
      cases a.testBit j <;> cases t.testBit j <;> rfl
    rw [add_or _ _ _ (Nat.le_refl _) d, o]
  have e2 : diffN a t = a ^^^ (a &&& t) := by
    unfold diffN
    omega
  rw [e2, Nat.testBit_xor, Nat.testBit_and]
  cases a.testBit i <;> cases t.testBit i <;> rfl
end Sq
namespace Sq
open PySem
/-- the bits from k on -/
def hiN (b k : Nat) : Nat := b / 2 ^ k * 2 ^ k
theorem hi_zero (b : Nat) : hiN b 0 = b := by simp [hiN]
theorem bit_div (b k : Nat) : b.testBit k = decide (b / 2 ^ k % 2 = 1) := Nat.testBit_eq_decide_div_mod_eq
theorem div_succ (b k : Nat) : b / 2 ^ (k + 1) = b / 2 ^ k / 2 := by rw [Nat.pow_succ, Nat.div_div_eq_div_mul]
theorem hi_skip {b k : Nat} (h : b.testBit k = false) : hiN b (k + 1) = hiN b k := by
  rw [bit_div] at h
  have h := of_decide_eq_false h
  unfold hiN
  rw [div_succ, Nat.pow_succ, Nat.mul_comm (2 ^ k) 2, ← Nat.mul_assoc]
  congr 1
  omega
theorem hi_bit {b k : Nat} (h : b.testBit k = true) : hiN b k = 2 ^ k * (2 * (b / 2 ^ (k + 1)) + 1) ∧ hiN b (k + 1) = 2 ^ k * (2 * (b / 2 ^ (k + 1))) := by
  rw [bit_div] at h
  have h := of_decide_eq_true h
  unfold hiN
  have e : b / 2 ^ k = 2 * (b / 2 ^ (k + 1)) + 1 := by rw [div_succ]; omega
  refine ⟨by rw [← e, Nat.mul_comm], ?_⟩
  rw [Nat.pow_succ, Nat.mul_comm (b / (2 ^ k * 2)), Nat.mul_assoc]
theorem filt_succ (b k : Nat) : (List.range (k + 1)).filter (fun i => b.testBit i) = (List.range k).filter (fun i => b.testBit i) ++ if b.testBit k then [k] else [] := by
  rw [List.range_succ, List.filter_append]
  congr 1
  by_cases h : b.testBit k = true
  · rw [if_pos h, List.filter_cons_of_pos (by exact h)]; rfl
  · rw [if_neg h, List.filter_cons_of_neg (by exact h)]; rfl
theorem low_go (b : Nat) : ∀ d k, b.testBit (k + d) = true → ∃ j, k ≤ j ∧ j ≤ k + d ∧ b.testBit j = true ∧ hiN b k = hiN b j ∧ (List.range j).filter (fun i => b.testBit i) = (List.range k).filter (fun i => b.testBit i)
  | 0, k, h => ⟨k, Nat.le_refl _, Nat.le_refl _, h, rfl, rfl⟩
  | d + 1, k, h => by
    by_cases hk : b.testBit k = true
    · exact ⟨k, Nat.le_refl _, by omega, hk, rfl, rfl⟩
    · have hf : b.testBit k = false := by simpa using hk
      obtain ⟨j, h1, h2, h3, h4, h5⟩ := low_go b d (k + 1) (by rw [← h]; congr 1; omega)
      refine ⟨j, by omega, by omega, h3, by rw [← h4, hi_skip hf], ?_⟩
      rw [h5, filt_succ, hf]
      simp
theorem hi_some {b k : Nat} (h : hiN b k ≠ 0) : ∃ d, b.testBit (k + d) = true := by
  refine Classical.byContradiction fun z => h ?_
  have all : ∀ d, b.testBit (k + d) = false := fun d => by
    cases e : b.testBit (k + d) with
    | false => rfl
    | true => exact absurd ⟨d, e⟩ z
  have lt : b < 2 ^ k := Nat.lt_pow_two_of_testBit b fun i hi => by
    have := all (i - k)
    rw [show k + (i - k) = i by omega] at this
    exact this
  unfold hiN
  rw [Nat.div_eq_of_lt lt, Nat.zero_mul]
/-- the least bit, and what is left without it -/
theorem low_of {b k n : Nat} (hb : b < 2 ^ n) (h : hiN b k ≠ 0) : ∃ j a, k ≤ j ∧ j < n ∧ hiN b k = 2 ^ j * (2 * a + 1) ∧ hiN b (j + 1) = 2 ^ j * (2 * a) ∧
    (List.range (j + 1)).filter (fun i => b.testBit i) = (List.range k).filter (fun i => b.testBit i) ++ [j] := by
  obtain ⟨d, hd⟩ := hi_some h
  obtain ⟨j, h1, h2, h3, h4, h5⟩ := low_go b d k hd
  obtain ⟨e1, e2⟩ := hi_bit h3
  have hj : j < n := by
    refine Classical.byContradiction fun z => ?_
    have := Nat.testBit_lt_two_pow (Nat.lt_of_lt_of_le hb (Nat.pow_le_pow_right (by decide) (show n ≤ j by omega)))
    rw [this] at h3
    cases h3
  refine ⟨j, b / 2 ^ (j + 1), h1, hj, by rw [h4, e1], e2, ?_⟩
  rw [filt_succ, h5, h3]
  rfl
theorem hi_end {b k n : Nat} (hb : b < 2 ^ n) (h : hiN b k = 0) (hk : k ≤ n) : (List.range n).filter (fun i => b.testBit i) = (List.range k).filter (fun i => b.testBit i) := by
  have z : ∀ i, k ≤ i → b.testBit i = false := fun i hi => by
    have lt : b < 2 ^ k := by
      unfold hiN at h
      rcases Nat.mul_eq_zero.mp h with z | z
      · rcases (Nat.div_eq_zero_iff).mp z with z | z
        · have := Nat.two_pow_pos k
          omega
        · exact z
      · have := Nat.two_pow_pos k
        omega
    exact Nat.testBit_lt_two_pow (Nat.lt_of_lt_of_le lt (Nat.pow_le_pow_right (by decide) hi))
  have e : List.range n = List.range k ++ (List.range (n - k)).map (k + ·) := by
    rw [← List.range_add]
    congr 1
    omega
  rw [e, List.filter_append]
  have : ((List.range (n - k)).map (k + ·)).filter (fun i => b.testBit i) = [] := by
    rw [List.filter_eq_nil_iff]
    intro a ha
    obtain ⟨i, _, rfl⟩ := List.mem_map.mp ha
    rw [z _ (by omega)]
    decide
  rw [this, List.append_nil]
theorem and_pred (j a : Nat) : (2 ^ j * (2 * a + 1)) &&& (2 ^ j * (2 * a + 1) - 1) = 2 ^ j * (2 * a) := by
  have p := Nat.two_pow_pos j
  have e1 : 2 ^ j * (2 * a + 1) = 2 ^ j * (2 * a) + 2 ^ j := by rw [Nat.mul_add, Nat.mul_one]
  have e2 : 2 ^ j * (2 * a + 1) - 1 = 2 ^ j * (2 * a) + (2 ^ j - 1) := by rw [e1]; omega
  have e3 : 2 ^ j * (2 * a) = 2 ^ (j + 1) * a := by rw [Nat.pow_succ, Nat.mul_assoc]
  rw [e2, e1, Nat.two_pow_add_eq_or_of_lt (by omega : 2 ^ j - 1 < 2 ^ j)]
  rw [e3, Nat.two_pow_add_eq_or_of_lt (by rw [Nat.pow_succ]; omega : 2 ^ j < 2 ^ (j + 1))]
  apply Nat.eq_of_testBit_eq
  intro i
  simp only [Nat.testBit_and, Nat.testBit_or, Nat.testBit_two_pow, Nat.testBit_two_pow_sub_one]
  by_cases h1 : j = i
  · subst h1; simp
  · simp [h1]
    exact fun z => .inl z
theorem low_int (k a : Nat) : Builtin.bitAnd (((2 ^ k * (2 * a + 1) : Nat)) : Int) (-(((2 ^ k * (2 * a + 1) : Nat)) : Int)) = ((2 ^ k : Nat) : Int) := by
  have z := PySem.W.kbt_low k (a : Int)
  have e : (((2 ^ k * (2 * a + 1) : Nat)) : Int) = 2 ^ k * (2 * (a : Int) + 1) := by
    simp
  rw [e, z]
  simp
theorem bits_pow (k : Nat) : Builtin.Int.intBits ((2 ^ k : Nat) : Int) = k + 1 := by
  have p := Nat.two_pow_pos k
  unfold Builtin.Int.intBits
  have h : (((2 ^ k : Nat) : Int) == 0) = false := by
    rw [beq_eq_false_iff_ne]
    omega
  rw [h, Int.natAbs_natCast, Nat.log2_two_pow]
  rfl
theorem pred_int (j a : Nat) : Builtin.bitAnd (((2 ^ j * (2 * a + 1) : Nat)) : Int) ((((2 ^ j * (2 * a + 1) : Nat)) : Int) - 1) = ((2 ^ j * (2 * a) : Nat) : Int) := by
  have p : 0 < 2 ^ j * (2 * a + 1) := Nat.mul_pos (Nat.two_pow_pos j) (by omega)
  have e : ((((2 ^ j * (2 * a + 1) : Nat)) : Int) - 1) = ((2 ^ j * (2 * a + 1) - 1 : Nat) : Int) := by omega
  rw [e, and_nat, and_pred]
end Sq
namespace Sq
open PySem PySem.Spec PyProof.Rows L2
/-! ### a, b, *c = a list -/
/-- the starred target, the last one -/
theorem pgs_star {X : Cx} {e : Expr} {p : Pos} {t : TG} (h1 : PG X e t) : PGs X [.Starred e p] (gCons t gNil) := by
  refine ⟨fun pins s σ H vs us Q I r h => ?_⟩
  obtain ⟨v, vr, e1, h⟩ := h
  subst e1
  cases r with
  | cons r rr =>
    have hs : (assignEach [.Starred e p] X.env).map (·.2) = assign e X.env :: (assignEach [] X.env).map (·.2) := rfl
    rw [hs]
    refine assignInOrder_cons (thn (h1.run pins s σ H _ _ _ I r h) fun _ s1 ⟨σ1, H1, I1, q1⟩ => ?_)
    exact pgs_nil.run pins s1 σ1 H1 _ _ Q I1 rr q1
def gStar (K : PySem.W.Frag) (i : Nat) (t : TGs) : TG := fun v σ H Q => ∃ a xs, v = .ref a ∧ SqL K H a xs ∧ i ≤ xs.length ∧ ∀ D, H D = none → t (xs.take i ++ [.ref D]) σ (upd H D (.lst (xs.drop i))) Q
theorem pg_starL {X : Cx} {pos : Pos} {es : List Expr} {k : Nat} {t : TGs} {i : Nat} (hc : X.calm = true) (h : PGs X es t)
    (hn : (assignEach es X.env).length = i + 1 := by rfl) (hst : (assignEach es X.env).findIdx? (·.1) = some i := by rfl) : PG X (.Tuple es k pos) (gStar X.K i t) := by
  refine ⟨fun pins s σ H v u Q I r hw => ?_⟩
  obtain ⟨a, xs, e1, hq, hl, hw⟩ := hw
  subst e1
  cases r
  obtain ⟨its, rv, pl, hz⟩ := I.list hq
  have hlen := rv.length
  have hl' : s.heap.IsList a its.toArray := by
    obtain ⟨o, m, e, c, d, q⟩ := pl
    exact ⟨o, e, c, m, q⟩
  rw [PyProof.Rows.assign_Tuple]
  refine wpAny_bind (wpAny_standAt ?_)
  unfold unpack
  rw [hn, hst]
  refine wpAny_bind (wpAny_holding ?_)
  have hh : X.A.handled = none := I.ok.hd hc
  have hlt : a ≠ s.heap.objs.size := by obtain ⟨o, ho, _⟩ := hl'; exact Nat.ne_of_lt (Heap.lt_size ho)
  unfold unpackItems
  refine wpAny_bind ?_
  unfold notIterableAtAll
  refine wpAny_bind (wpAny_specialOf hl'.typeIs slot_list_iter.lookup ?_)
  refine wpAny_pure ?_
  simp only [Bool.false_eq_true, if_false]
  refine wpAny_bind (wpAny_holding (wpAny_pyIter_list hl' ?_))
  refine wpAny_bind (wpAny_holding (PySem.W.kun_draw hlt i 0 _ _ ⟨_, Heap.get?_push_size _ rfl, rfl, rfl⟩ (hl'.push _) (by simp; omega) fun h₁ hit₁ hs₁ => ?_))
  have hl₁ : h₁.IsList a its.toArray := (hl'.push _).extBut hs₁.extBut hlt
  rw [Nat.zero_add] at hit₁
  have hit₁' := hit₁
  obtain ⟨oi, hoi, _⟩ := hit₁'
  have hl₁' := hl₁
  obtain ⟨ol, hol, _⟩ := hl₁'
  rw [List.drop_zero]
  have hfl : (its.toArray.toList.take i).length = i := by rw [List.length_take]; simp; omega
  rw [if_neg (show ¬ ((its.toArray.toList.take i).length < i) by rw [hfl]; omega)]
  refine wpAny_bind (wpAny_holding (PySem.W.kun_collect (s := { s with heap := h₁ }) (T := "list_iterator") (.inr (.inr (.inl rfl))) (Walks.list (A := X.A.in1) hh s.heap.objs.size a hlt its.toArray) (fun j u st => st.1.typeIs) (k := i) (by simp; omega) ⟨hit₁, hl₁⟩ (Heap.lt_size hoi) (Heap.lt_size hol) (fun h₂ tk hk => ?_) (by simp; omega)))
  have e0 : i + 1 - 1 - i = 0 := by omega
  show wpAny _ _ (if (its.toArray.toList.drop i).length < i + 1 - 1 - i then _ else _) _ _ _
  rw [e0, if_neg (by omega)]
  show wpAny _ _ (newList ((its.toArray.toList.drop i).take ((its.toArray.toList.drop i).length - 0)) >>= fun d => pure (its.toArray.toList.take i ++ [d] ++ (its.toArray.toList.drop i).drop ((its.toArray.toList.drop i).length - 0))) _ _ _
  rw [Nat.sub_zero, List.take_length, List.drop_length]
  have kp : ∀ b o, s.heap.get? b = some o → h₂.get? b = some o := fun b o e => hk b o (Nat.ne_of_lt (Heap.lt_size e)) (hs₁.extBut b o (Nat.ne_of_lt (Heap.lt_size e)) (Heap.get?_push_of_some _ e))
  have I1 : Inv X pins σ H { s with heap := h₂, toks := tk } := I.kept kp
  refine wpAny_bind (wpAny_newList (wpAny_pure ?_) (by rw [List.length_drop]; simp; omega))
  have rd : Vals (xs.drop i) (its.drop i) := rv.drop i
  have new : ObjOk X.prog X.w (upd H h₂.objs.size (.lst (xs.drop i))) (h₂.push { cls := .type "list", dict := none, data := .seq (its.toArray.toList.drop i).toArray 0, slots := #[] }) h₂.objs.size (.lst (xs.drop i)) :=
    ⟨by rw [List.length_drop]; omega, its.drop i, 0, rd, Heap.get?_push_size _ rfl⟩
  have I2 := I1.laid (t' := tk) (fun b o e => Heap.get?_push_of_some _ e) (Nat.le_refl _) new
  refine h.run pins _ σ _ (xs.take i ++ [.ref h₂.objs.size]) _ Q I2 ?_ (hw _ (I1.hok.fresh (Nat.le_refl _)))
  rw [List.append_nil]
  exact (rv.take i).append (.cons (show RelV (.ref h₂.objs.size) (.ref h₂.objs.size) from rfl) .nil)
/-! ### C(a, .., *b) and cls(*b), C a class of the text with an __init__ -/
section
variable {X : Cx} {CX : CXT} {k i : Nat} {f C : Addr} {sp : Sp} {E : XK} {x : Str} {e : Expr} {es : List Expr} {te : TE} {t : TA} {p sp_ pos : Pos}
theorem pe_makeS2 (M : Mk X.K C f) (F : FnR X.prog X.w X.K X.mg X.base CX k f sp) (hr : Room (k + 1) X.A) (hg : Gl X x) (hm : X.mg x = some (.ref C)) (hx : Passes CX X E) (ha : PA X (e :: es) t) (hdb : (x == ("__debug__" : Str)) = false := by decide)
    (he : starEach (e :: es) X.env = (false, eval e X.env) :: starEach es X.env := by rfl) (hst : (backTo pos (starEach es X.env)).any (·.1) = true := by rfl) : PE X (.Call (.Name x p) (e :: es) [] pos) (StX.tMakeR C sp E t) := by
  refine ⟨fun pins s σ H Q I h => ?_⟩
  refine wpAny_Call_Name_kw (ld_glob I hg hm ?_ hdb)
  refine PySem.W.callWith_S2 (h₀ := X.base) I.ok.mod.kin M.kp (thn (ha.run pos pins s σ H _ I h) fun us s1 ⟨vs, H1, I1, r, q⟩ => ⟨I1.kIn, ?_⟩) he hst
  exact StX.run_makeR M F hr hx I1 r q
def tMakeL (K : PySem.W.Frag) (C : Addr) (i : Nat) (sp : Sp) (E : XK) (te : TE) : TE := fun σ H Q => σ[i]? = some (some (.ref C)) ∧ te σ H fun y H1 => ∃ a xs, y = V.ref a ∧ (SqT K H1 a xs ∨ SqL K H1 a xs) ∧ ∀ x dx, H1 x = Option.none → H1 dx = Option.none → dx ≠ x →
  sp (V.ref x :: xs) (upd (upd H1 dx (.own x)) x (.ins C dx [])) (fun v H2 => v = .non ∧ Q (.ref x) H2) E
theorem pe_makeSL (M : Mk X.K C f) (F : FnR X.prog X.w X.K X.mg X.base CX k f sp) (hr : Room (k + 1) X.A) (hN : X.N[i]? = some x) (hv : Vis X.env.scope x) (hx : Passes CX X E) (he : PE X e te) (hdb : (x == ("__debug__" : Str)) = false := by decide) (hcd : (x == ("__classdict__" : Str)) = false := by decide)
    (hst : starEach [.Starred e sp_] X.env = [(true, eval e X.env)] := by rfl) : PE X (.Call (.Name x p) [.Starred e sp_] [] pos) (tMakeL X.K C i sp E te) := by
  refine ⟨fun pins s σ H Q I h => ?_⟩
  obtain ⟨hs, h⟩ := h
  refine wpAny_Call_Name_kw (thn ((pe_var (pos := p) hN hv hdb hcd).run pins s σ H (fun v H1 => v = .ref C ∧ H1 = H) I ⟨.ref C, hs, rfl, rfl⟩) fun u s1 ⟨v, H1, I1, r1, q1⟩ => ?_)
  obtain ⟨rfl, rfl⟩ := q1
  cases r1
  refine PySem.W.callWith_S (h₀ := X.base) I.ok.mod.kin M.kp (thn (he.run pins s1 σ _ _ I1 h) fun v s1 ⟨y, H1, I1, ry, a, xs, ey, hxs, q⟩ => ?_) hst
  subst ey
  obtain rfl : v = Value.ref a := ry
  exact StX.star_any I1 hxs fun us s2 I2 rv => ⟨I2.kIn, StX.run_makeR M F hr hx I2 rv q⟩
end
end Sq
namespace Sq
open PySem L2 PySem.Spec PyProof.Rows
/-! ### a op b, both instances of one class of the text; C(*b) -/
def rBin (C : Addr) (sp : Sp) (E : XK) : R2 := fun x y H Q => ∃ a b dx dy fs gs, x = .ref a ∧ y = .ref b ∧ H a = some (.ins C dx fs) ∧ H b = some (.ins C dy gs) ∧ sp [.ref a, .ref b] H Q E
section
variable {X : Cx} {CX : CXT} {n k : Nat} {f g C : Addr} {sp : Sp} {E : XK} {x : Str} {e : Expr} {te : TE} {p sp_ pos : Pos}
theorem op_bin {op : Operator} (hc : PySem.W.selfFirst X.K C = true) (hs : PySem.W.findIn X.K (.ref C) (PySem.dunder op.info.2) = some (some (.ref g))) (hf : PySem.W.isFn X.K (.ref g) = true) (F : FnR X.prog X.w X.K X.mg X.base CX n g sp) (hr : Room n X.A) (hx : Passes CX X E) :
    OpR X (binaryOp op) (rBin C sp E) := by
  intro pins s σ H x y v u Q I rx ry h
  obtain ⟨a, b, dx, dy, fs, gs, rfl, rfl, ha, hb, q⟩ := h
  cases (show v = Value.ref a from rx)
  cases (show u = Value.ref b from ry)
  obtain ⟨_, J, _⟩ := ins_get I.hok ha
  obtain ⟨_, J, _⟩ := J.look
  obtain ⟨_, J', _⟩ := ins_get I.hok hb
  obtain ⟨_, J', _⟩ := J'.look
  obtain ⟨m, hF⟩ := I.fr
  refine PySem.W.binop_K hF I.ok.mod.kin J J'.type hc hs hf ?_
  refine wpAny_mono (wpAny_call (run_fnR (us := [.ref a, .ref b]) (vs := [.ref a, .ref b]) F hr hx I (.cons rfl (.cons rfl .nil)) q)) (fun w s' z => ?_) fun _ _ x => x
  obtain ⟨z', H', I', rz, qz⟩ := z
  exact SlX.cmpback rz ⟨z', H', I', rz, qz⟩
def tMakeG (K : PySem.W.Frag) (C : Addr) (sp : Sp) (E : XK) (te : TE) : TE := fun σ H Q => te σ H fun y H1 => ∃ a xs, y = V.ref a ∧ (SqT K H1 a xs ∨ SqL K H1 a xs) ∧ ∀ x dx, H1 x = Option.none → H1 dx = Option.none → dx ≠ x →
  sp (V.ref x :: xs) (upd (upd H1 dx (.own x)) x (.ins C dx [])) (fun v H2 => v = .non ∧ Q (.ref x) H2) E
theorem pe_makeSG (M : Mk X.K C f) (F : FnR X.prog X.w X.K X.mg X.base CX k f sp) (hr : Room (k + 1) X.A) (hg : Gl X x) (hm : X.mg x = some (.ref C)) (hx : Passes CX X E) (he : PE X e te) (hdb : (x == ("__debug__" : Str)) = false := by decide)
    (hst : starEach [.Starred e sp_] X.env = [(true, eval e X.env)] := by rfl) : PE X (.Call (.Name x p) [.Starred e sp_] [] pos) (tMakeG X.K C sp E te) := by
  refine ⟨fun pins s σ H Q I h => ?_⟩
  refine wpAny_Call_Name_kw (ld_glob I hg hm ?_ hdb)
  refine PySem.W.callWith_S (h₀ := X.base) I.ok.mod.kin M.kp (thn (he.run pins s σ _ _ I h) fun v s1 ⟨y, H1, I1, ry, a, xs, ey, hxs, q⟩ => ?_) hst
  subst ey
  obtain rfl : v = Value.ref a := ry
  exact StX.star_any I1 hxs fun us s2 I2 rv => ⟨I2.kIn, StX.run_makeR M F hr hx I2 rv q⟩
/-- an item of a list or of a tuple -/
theorem ix_or {K : PySem.W.Frag} {H : Hp} {l : Addr} {xs : List V} {i : Int} {v : V} {Q : VK} (h : SqL K H l xs ∨ SqT K H l xs) (e : atI xs i = some v) (q : Q v H) : rIxL K (.ref l) (.int i) H Q ∨ L2.rIxT K (.ref l) (.int i) H Q :=
  h.elim (fun h => .inl ⟨l, xs, i, v, rfl, rfl, h, e, q⟩) fun h => .inr ⟨l, xs, i, v, rfl, rfl, h, e, q⟩
end
end Sq
namespace Sq
open PySem L2 PySem.Spec PyProof.Rows
/-! ### list(range(a, b, c)) -/
def rgC (i c : Int) (n : Nat) : List V := (List.range n).map fun k => V.int (i + (k : Nat) * c)
theorem rgC_length (i c : Int) (n : Nat) : (rgC i c n).length = n := by unfold rgC; rw [List.length_map, List.length_range]
theorem vals_rgC {i c : Int} {n : Nat} {acc : Array Value} (h : ItemsOf (fun k v => ∃ t, v = .int (i + k * c) t) acc n) : Vals (rgC i c n) acc.toList := by
  have e : acc.toList.length = n := by rw [Array.length_toList]; exact h.1
  unfold rgC
  rw [← e]
  refine vals_of_get acc.toList _ fun j u hj => ?_
  obtain ⟨t, rfl⟩ := h.2 j u (by rw [← hj, Array.getElem?_toList])
  exact ⟨t, rfl⟩
def tLst3 (ta : TA) : TE := fun σ H Q => ta σ H fun vs H1 => ∃ (i j c : Int) (n : Nat), vs = [.int i, .int j, .int c] ∧ RgC i j c n ∧ n ≤ 2 ^ 24 ∧ ∀ q, H1 q = none → Q (.ref q) (upd H1 q (.lst (rgC i c n)))
section
variable {X : Cx}
theorem pe_listRg3 {a b c : Expr} {ta : TA} {p pos p2 pos2 : Pos} (hc : X.calm = true) (hg : Gl X "list") (hm : X.mg "list" = none) (hg2 : Gl X "range") (hm2 : X.mg "range" = none) (ha : PA X [a, b, c] ta)
    (na : starEach [.Call (.Name "range" p2) [a, b, c] [] pos2] X.env = (false, eval (.Call (.Name "range" p2) [a, b, c] [] pos2) X.env) :: starEach [] X.env := by rfl)
    (hs : starEach [a, b, c] X.env = (false, eval a X.env) :: starEach [b, c] X.env := by rfl) (hpl : (backTo pos2 (starEach [b, c] X.env)).any (·.1) = false := by rfl) :
    PE X (.Call (.Name "list" p) [.Call (.Name "range" p2) [a, b, c] [] pos2] [] pos) (tLst3 ta) := by
  refine ⟨fun pins s σ H Q I h => ?_⟩
  have he : wpAny (model X.prog X.w) X.A (eval (.Call (.Name "range" p2) [a, b, c] [] pos2) X.env) (fun x s' => ∃ r i j c t u v n H', x = .ref r ∧ IsRange s'.heap r i j c t u v ∧ Inv X pins σ H' s' ∧ RgC i j c n ∧ n ≤ 2 ^ 24 ∧ ∀ q, H' q = none → Q (.ref q) (upd H' q (.lst (rgC i c n)))) X.xe s := by
    refine Call_ (ld_blt I hg2 hm2 boot_range (PyProof.Rows.callWith_type1 (thn (ha.run pos2 pins s σ H _ I h) fun us s1 ⟨vs, H1, I1, r1, q1⟩ => ?_) hs hpl))
    obtain ⟨i, j, k, n, e, ⟨c0, c1, c2, c3⟩, q⟩ := q1
    subst e
    cases r1 with
    | cons r rr =>
      cases rr with
      | cons r' rr =>
        cases rr with
        | cons r'' rr =>
          cases rr
          obtain ⟨t, rfl⟩ := r
          obtain ⟨t', rfl⟩ := r'
          obtain ⟨t'', rfl⟩ := r''
          refine call_range_3 c0 ?_ (.inl (PyProof.noPylong_small c1))
          exact ⟨_, i, j, k, _, _, _, n, H1, rfl, IsRange.new _ _ _ _ _ _ _, I1.kept fun b u e => Heap.get?_push_of_some _ e, ⟨c0, c1, c2, c3⟩, q⟩
  refine Call_ (ld_blt I hg hm boot_list (PyProof.Rows.callWith_type1 (args_cons (thn he fun x s1 ⟨r, i, j, k, t, u, v, n, H1, ex, hr, I1, ok, hn, q⟩ => args_nil ?_) na) na))
  subst ex
  obtain ⟨c0, c1, c2, c3⟩ := ok
  refine call_list_range (n := n) (I1.ok.hd hc) hr c2 c3 hn fun h' tk acc c' hk e' hi => ?_
  refine ⟨.ref s1.heap.objs.size, upd H1 s1.heap.objs.size (.lst (rgC i k n)), I1.laid hk (Nat.le_refl _) (show ObjOk X.prog X.w _ _ _ (.lst (rgC i k n)) from ⟨?_, acc.toList, c', vals_rgC hi, ?_⟩), rfl, q _ (I1.hok.fresh (Nat.le_refl _))⟩
  · rw [rgC_length, sizeLine_eq]; omega
  · rw [Array.toArray_toList]; exact e'
end
/-- a test by a value's truth, by name -/
def tTruN (K : PySem.W.Frag) (ta : TE) : TT := fun σ H Q => ta σ H fun x H' => ∃ k, TruV K x H' k ∧ Q k H'
theorem pt_tru {X : Cx} {a : Expr} {ta : TE} (ha : PE X a ta) (he : ∀ whole, isTrue a X.env whole = (do let v ← whole; standAt a.pos; holding [v] (truthy v)) := by intro _; rfl) : PT X a (tTruN X.K ta) := pt_truth ha he
/-! ### the promises of sets of sizes -/
def natsV (ns : List Nat) : List V := ns.map fun n => V.int (n : Nat)
def natO : Option Nat → V
  | none => .non
  | some n => .int (n : Int)
def spHas : Sp := fun vs H Q _ => ∃ (b k : Nat), vs = [.int (b : Int), .int (k : Int)] ∧ Q (.bl (b.testBit k)) H
def spWithL (K : PySem.W.Frag) : Sp := fun vs H Q _ => ∃ (a : Addr) (ns : List Nat), vs = [.ref a] ∧ SqL K H a (natsV ns) ∧ (∀ n ∈ ns, n ≤ 1000) ∧ ns.length ≤ 1000 ∧ ∀ H', Same H H' → Q (.int ((sumP ns : Nat) : Int)) H'
def spWithT (K : PySem.W.Frag) : Sp := fun vs H Q _ => ∃ (a : Addr) (ns : List Nat), vs = [.ref a] ∧ SqT K H a (natsV ns) ∧ (∀ n ∈ ns, n ≤ 1000) ∧ ns.length ≤ 1000 ∧ ∀ H', Same H H' → Q (.int ((sumP ns : Nat) : Int)) H'
def spWithB (K : PySem.W.Frag) : Sp := fun vs H Q E => spWithL K vs H Q E ∨ spWithT K vs H Q E
def spLow : Sp := fun vs H Q _ => ∃ (j a : Nat), vs = [.int ((2 ^ j * (2 * a + 1) : Nat) : Int)] ∧ Q (.int (j : Int)) H
def bitsN (b : Nat) : List Nat := (List.range 203).filter fun i => b.testBit i
def spBitsIn : Sp := fun vs H Q _ => ∃ (b : Nat), vs = [.int (b : Int)] ∧ b < 2 ^ 203 ∧ ∀ p H', H p = none → H' p = some (.lst (natsV (bitsN b))) → Same H H' → Q (.ref p) H'
def spTailB : Sp := fun vs H Q _ => ∃ (s : Option Nat), vs = [natO s] ∧ (∀ n, s = some n → n ≤ 202) ∧ ∀ H', Same H H' → Q (.int ((tailO s : Nat) : Int)) H'
def spStand : Sp := fun vs H Q _ => ∃ (n : Nat), vs = [.int (n : Int)] ∧ Q (.int ((stN n : Nat) : Int)) H
def spStart : Sp := fun vs H Q _ => ∃ (b l : Nat), vs = [.int (b : Int), .int (l : Int)] ∧ 1 ≤ l ∧ Q (natO (tailN b l)) H
/-- sizes that may be listed -/
def LsOk (ns : List Nat) : Prop := (∀ n ∈ ns, 1 ≤ n ∧ n ≤ 200) ∧ ns.Pairwise (· < ·)
def TlOk (p : Nat) (s : Option Nat) : Prop := ∀ n, s = some n → 1 ≤ n ∧ n ≤ 200 ∧ n % 2 = p
def spWrongL (K : PySem.W.Frag) : Sp := fun vs H Q _ => ∃ (a : Addr) (ns : List Nat), vs = [.ref a] ∧ SqT K H a (natsV ns) ∧ LsOk ns ∧ ∀ H', Same H H' → Q .non H'
def spCheckT : Sp := fun vs H Q _ => ∃ (s : Option Nat) (p : Nat), vs = [natO s, .int (p : Int)] ∧ TlOk p s ∧ Q .non H
theorem rg_ok : ∀ s : Nat, s < 203 → Builtin.Range.small (s : Int) 203 2 = true ∧ Builtin.Range.rangeSize (s : Int) 203 2 = (((204 - s) / 2 : Nat) : Int) := by decide +kernel
theorem sum_nat (ns : List Nat) : (ns.map fun n => (2 : Int) ^ n).sum = ((sumP ns : Nat) : Int) := by
  have g : ∀ (l : List Nat) (a : Nat), ((l.foldl (fun a i => a + 2 ^ i) a : Nat) : Int) = (a : Int) + (l.map fun n => (2 : Int) ^ n).sum := by
    intro l
    induction l with
    | nil => intro a; simp
    | cons x l ih =>
      intro a
      rw [List.foldl_cons, ih, List.map_cons, List.sum_cons]
      simp
      omega
  unfold sumP
  rw [g]
  simp
theorem sum_tail {s : Nat} (h : s ≤ 202) : sumP ((List.range ((204 - s) / 2)).map fun k => s + k * 2) = tailB s := by
  apply Nat.eq_of_testBit_eq
  intro i
  have pw : ((List.range ((204 - s) / 2)).map fun k => s + k * 2).Pairwise (· < ·) := by
    rw [List.pairwise_map]
    exact List.pairwise_lt_range.imp fun h => by omega
  rw [sumP_bit pw, tail_bit]
  rw [Bool.eq_iff_iff]
  simp only [List.mem_map, List.mem_range, decide_eq_true_eq, Bool.and_eq_true]
  constructor
  · rintro ⟨k, h1, rfl⟩
    omega
  · rintro ⟨h1, h2, h3⟩
    exact ⟨(i - s) / 2, by omega, by omega⟩
end Sq
namespace Sq
open PySem L2 PySem.Spec PyProof.Rows
/-! ### try with several except clauses, each with a name or without -/
/-- a clause: its class, the slot of its name, what its suite does -/
structure Clause where
  c : Value
  i : Option Nat
  ts : Addr → Value → Option Addr → TS
def Clause.ends (l : Clause) (D : Ends) : Ends := match l.i with
  | none => D
  | some i => ⟨fun σ H => D.nx (σ.set i none) H, D.rt, fun σ H => D.bk (σ.set i none) H, fun σ H => D.ct (σ.set i none) H⟩
def Clause.start (l : Clause) (a : Addr) (σ : L2.St) : L2.St := match l.i with
  | none => σ
  | some i => σ.set i (some (.ref a))
/-- what the clauses wish of an exception of the body, one behind the other -/
def wCl (K : PySem.W.Frag) (Wout : WX) (D : Ends) : List Clause → WX
  | [] => Wout
  | l :: r => fun cls d σ H => ∃ b, PySem.W.exmOne K cls l.c = some b ∧ (b = true → ∀ a, H a = none → l.ts a cls d (l.ends D) (l.start a σ) H) ∧ (b = false → wCl K Wout D r cls d σ H)
def SuiteOk (X : Cx) (sts : List Stmt) (ts : Addr → Value → Option Addr → TS) : Prop :=
  ∀ (a : Addr) (oe : Obj) (cls : Value) (d : Option Addr) (pn : List (Addr × Obj)), Zc cls d oe → (∃ vs, oe.data = .fields vs) → PSs (X.suite a ((a, oe) :: pn)) sts (ts a cls d)
inductive Clauses (X : Cx) : List ExceptHandler → List Clause → Prop
  | nil : Clauses X [] []
  | bare {x : Str} {c : Value} {ts : Addr → Value → Option Addr → TS} {b₀ : Stmt} {suite : List Stmt} {np pos : Pos} {hds : List ExceptHandler} {l : List Clause} (hc : Names X x c) (hsu : SuiteOk X (b₀ :: suite) ts) (r : Clauses X hds l) :
      Clauses X (.ExceptHandler (some (.Name x np)) none (b₀ :: suite) pos :: hds) (⟨c, none, ts⟩ :: l)
  | named {x n : Str} {i : Nat} {c : Value} {ts : Addr → Value → Option Addr → TS} {b₀ : Stmt} {suite : List Stmt} {np pos : Pos} {hds : List ExceptHandler} {l : List Clause} (hi : X.N[i]? = some n) (hn : X.env.kindOf n = some .local)
      (hc : Names X x c) (hsu : SuiteOk X (b₀ :: suite) ts) (r : Clauses X hds l) :
      Clauses X (.ExceptHandler (some (.Name x np)) (some n) (b₀ :: suite) pos :: hds) (⟨c, some i, ts⟩ :: l)
section
variable {X : Cx} {Wout : WX}
/-- the clauses, over an exception that has landed at a -/
theorem clauses_ok (hN : X.N.Nodup) (hs : X.stack = X.env :: X.outer) (hf : X.env.frame = some X.env.locals) (tk : Takes X Wout) {D : Ends} {pins : List (Addr × Obj)} {σ : L2.St} {H : Hp} {sI s' : Shared} {B h3 : Heap} {a : Addr} {cls : Value} {d : Option Addr}
    (ok : X.Ok) (J : Inv X pins σ H sI) (nb : ∀ b o, sI.heap.get? b = some o → b ∉ frs X.stack → B.get? b = some o) (up : sI.heap.UpToSlots h3) (na : H a = none) (os : s'.os = sI.os) (ag : AllBare s'.gens)
    (fl : HandSPX.FlyingZ B (X.env :: X.outer) a (Zc cls d) h3) {hds : List ExceptHandler} {l : List Clause} (hk : Clauses X hds l) :
    wCl X.K Wout D l cls d σ H → wpAny (model X.prog X.w) X.A (handleBy (.ref a) X.env hds) (SP X pins D) X.xe { s' with heap := h3 } := by
  have J3 : Inv X pins σ H { s' with heap := h3 } := J.landed nb fl.1 up os ag
  obtain ⟨o3, v3, e3, z3, d3⟩ := fl.there
  have away : a ∉ frs (X.env :: X.outer) := fun hm => by
    obtain ⟨_, o', e', hnf⟩ := fl.2.2.1.mem hm
    exact hnf _ ((Option.some.inj (e3.symm.trans e')) ▸ d3)
  have nL : a ≠ X.env.locals := fun z => away (List.mem_filterMap.mpr ⟨X.env, List.mem_cons_self, by rw [hf, z]⟩)
  have nF : a ∉ X.fs := fun hm => by
    obtain ⟨y, hy, q⟩ := List.mem_filterMap.mp hm
    exact away (List.mem_filterMap.mpr ⟨y, List.mem_cons_of_mem _ hy, q⟩)
  have S3 := J3.suite e3 d3 na nL nF
  have LT : PySem.W.Looks (model X.prog X.w) h3 (typeOf (.ref a)) cls := fun A Q E s k q => wpAny_typeOf_ref (k _ _ e3) (by rw [z3.1]; exact q)
  have asked : ∀ {x : Str} {c : Value} {np : Pos}, Names X x c → ∀ {Q E : Value → Shared → Prop}, Q c { s' with heap := h3 } → wpAny (model X.prog X.w) (X.A.mark (some (.ref a))) (eval (.Name x np) X.env) Q E { s' with heap := h3 } := fun {x c np} hc {Q E} q => by
    obtain ⟨hg, hd, hm | ⟨hm, hv, hn⟩⟩ := hc
    · exact ld_glob (X := X.suite a ((a, o3) :: (X.pn ++ pins))) S3 hg hm q hd
    · exact ld_blt (X := X.suite a ((a, o3) :: (X.pn ++ pins))) S3 hg hm hv q hn hd
  induction hk with
  | nil =>
    intro w
    refine wpAny_handleBy_nil ?_
    obtain ⟨_, _, _, oe, vs, T, oT, _, he, _, hd, h1, _⟩ := id fl
    unfold PySem.passOn
    refine wpAny_bind (wpAny_field he hd h1 ?_)
    rw [if_neg (show ¬ ((Value.ref T == Value.none) = true) from by simp)]
    have gone : wpAny (model X.prog X.w) X.A (setFlight (.ref a) X.env.frame) (fun _ s4 => wpAny (model X.prog X.w) X.A (throw (.ref a) : Sem Flow) (SP X pins D) X.xe s4) X.xe { s' with heap := h3 } := by
      rw [hf]
      exact HandSPX.setFlight_upZ fl fun h4 hh4 up4 => wpAny_throw (tk _ _ ⟨a, B, sI, pins, σ, H, cls, d, rfl, J, nb, up.trans up4, .inr (.inr (by rw [hs]; exact hh4)), na, os, ag, w⟩)
    first
      | exact wpAny_bind (wpAny_pure (wpAny_bind gone))
      | exact wpAny_bind gone
  | @bare x c ts b₀ suite np pos hds l hc hsu r ih =>
    intro w
    obtain ⟨b, hb, yes, no⟩ := w
    refine wpAny_handleBy_cons (codeAny_handlers_test (asked hc ((PySem.W.exm_one (M := model X.prog X.w) J3.kIn LT hb).here ?_))) (fun q => nomatch q)
    cases b with
    | false => exact ih (no rfl)
    | true =>
      refine codeAny_handlers_suite (HandSPX.lands_againZ fl fun h4 fl4 up4 => ?_)
      obtain ⟨o4, v4, e4, z4, d4⟩ := fl4.there
      have S4 := (J.landed (s' := { s' with heap := h4 }) nb fl4.1 (up.trans up4) os ag).suite e4 d4 na nL nF
      refine wpAny_mono ((hsu a o4 cls d (X.pn ++ pins) z4 ⟨_, d4⟩).run [] _ _ H _ S4 (yes rfl a na)) (fun f s6 q => ?_) (fun _ _ z => False.elim z)
      match f, q with
      | .next, ⟨σ6, H6, S6, q6⟩ => exact ⟨_, _, S6.unsuite ok, q6⟩
      | .brk, ⟨σ6, H6, S6, q6⟩ => exact ⟨_, _, S6.unsuite ok, q6⟩
      | .cont, ⟨σ6, H6, S6, q6⟩ => exact ⟨_, _, S6.unsuite ok, q6⟩
      | .ret u, ⟨v6, σ6, H6, S6, r6, q6⟩ => exact ⟨_, _, _, S6.unsuite ok, r6, q6⟩
  | @named x n i c ts b₀ suite np pos hds l hi hn hc hsu r ih =>
    intro w
    obtain ⟨b, hb, yes, no⟩ := w
    refine wpAny_handleBy_cons (codeAny_handlers_test (asked hc ((PySem.W.exm_one (M := model X.prog X.w) J3.kIn LT hb).here ?_))) (fun q => nomatch q)
    cases b with
    | false => exact ih (no rfl)
    | true =>
      refine codeAny_handlers_suite_as (HandSPX.lands_againZ fl fun h4 fl4 up4 => ?_)
      obtain ⟨o4, v4, e4, z4, d4⟩ := fl4.there
      have S4 := (J.landed (s' := { s' with heap := h4 }) nb fl4.1 (up.trans up4) os ag).suite e4 d4 na nL nF
      refine store_ok (X := X.suite a ((a, o4) :: (X.pn ++ pins))) (v := .ref a) S4 hN hi (.inl hn) rfl (fun s5 S5 => ?_) (.inr hn)
      refine wpAny_mono ((hsu a o4 cls d (X.pn ++ pins) z4 ⟨_, d4⟩).run [] s5 _ H _ S5 (yes rfl a na)) (fun f s6 q => ?_) (fun _ _ z => False.elim z)
      match f, q with
      | .next, ⟨σ6, H6, S6, q6⟩ => exact gone_ok (S6.unsuite ok) hN hi hn fun s7 J7 => ⟨_, _, J7, q6⟩
      | .brk, ⟨σ6, H6, S6, q6⟩ => exact gone_ok (S6.unsuite ok) hN hi hn fun s7 J7 => ⟨_, _, J7, q6⟩
      | .cont, ⟨σ6, H6, S6, q6⟩ => exact gone_ok (S6.unsuite ok) hN hi hn fun s7 J7 => ⟨_, _, J7, q6⟩
      | .ret u, ⟨v6, σ6, H6, S6, r6, q6⟩ => exact gone_ok (S6.unsuite ok) hN hi hn fun s7 J7 => ⟨_, _, _, J7, r6, q6⟩
/-- try: body, except C1 [as n1]: .., except C2 [as n2]: .. -/
theorem ps_tryC {body : List Stmt} {h₀ : ExceptHandler} {hds : List ExceptHandler} {l : List Clause} {pos : Pos} {tb : WX → TS} (hN : X.N.Nodup) (hs : X.stack = X.env :: X.outer) (hf : X.env.frame = some X.env.locals) (tk : Takes X Wout)
    (hb : ∀ (W : WX) (pn : List (Addr × Obj)) (xe : Value → Shared → Prop), Takes (X.tr pn xe) W → PassesOwn (model X.prog X.w) X.A X.env xe → PSs (X.tr pn xe) body (tb W))
    (hh : Clauses X (h₀ :: hds) l) : PS X (.Try body (h₀ :: hds) [] [] pos) (fun D σ H => tb (wCl X.K Wout D l) D σ H) := by
  refine ⟨fun pins s σ H D I h => wpAny_Try_except ?_⟩
  have ok := I.ok
  have hfr : X.A.frames = some (X.env :: X.outer) := by rw [ok.frames, hs]
  have run := (hb (wCl X.K Wout D l) (X.pn ++ pins) (fun e s₁ => wpAny (model X.prog X.w) X.A (noteFrame e X.env) (fun _ s₂ => wpAny (model X.prog X.w) X.A (setFlight e none) (fun _ s₃ => wpAny (model X.prog X.w) X.A (handleBy e X.env (h₀ :: hds)) (SP X pins D) X.xe s₃) X.xe s₂) X.xe s₁)
    (fun u s' x => by
      obtain ⟨a, B, sI, pins', σ', H', cls, d, rfl, J', nb, up, sky, na, os, ag, w⟩ := x
      have sky' : Sky B (X.env :: X.outer) a (Zc cls d) X.env.locals s'.heap := by rw [← hs]; exact sky
      show wpAny (model X.prog X.w) X.A (noteFrame (.ref a) X.env) _ _ _
      exact Sky.land Zc.steady hfr hf sky' fun h3 fl3 up3 => clauses_ok hN hs hf tk ok (J'.ofTry ok) nb (up.trans up3) na os ag fl3 hh w) PassesOwn.looking).run [] s σ H D (I.toTry _) h
  refine wpAny_mono run (fun f s1 q => ?_) (fun _ _ z => z)
  match f, q with
  | .next, ⟨σ', H', J', q⟩ => exact wpAny_execs_nil ⟨σ', H', J'.ofTry ok, q⟩
  | .brk, ⟨σ', H', J', q⟩ => exact ⟨σ', H', J'.ofTry ok, q⟩
  | .cont, ⟨σ', H', J', q⟩ => exact ⟨σ', H', J'.ofTry ok, q⟩
  | .ret u, ⟨v, σ', H', J', r, q⟩ => exact ⟨v, σ', H', J'.ofTry ok, r, q⟩
end
end Sq
namespace Sq
open PySem L2 PySem.Spec PyProof.Rows
/-! ### an own error class with one field, set by its __init__ -/
def spErrInit (C : Addr) (f : Str) : Sp := fun vs H Q _ => ∃ (a : Addr) (v : V), vs = [.ref a, v] ∧ H a = some (exo a C none) ∧ ∀ dx, H dx = none → dx ≠ a → Q .non (upd (upd H dx (exd dx [(f, v)])) a (exo a C (some dx)))
structure ErrC (P : Program) (w : World) (K : PySem.W.Frag) (mg : Str → Option Value) (base : Heap) (x f : Str) (C : Addr) : Prop where
  oex : OexC K C
  xf : XfC K C
  no : PySem.W.findIn K (.ref C) f = some none
  m : mg x = some (.ref C)
  ex : ∃ (fI : Addr) (fd : FuncData) (ps : List Str), PySem.W.findIn K (.ref C) "__init__" = some (some (.ref fI)) ∧ PySem.W.typeIn K (.ref fI) = some (.type "function") ∧ FnOk P w K mg base CX0 1 fI fd ps (spErrInit C f) ∧ Binds K fd ps []
section
variable {X : Cx} {W : WX} {x f : Str} {C : Addr} {e : Expr} {te : TE} {k : Nat} {p pos pos2 : Pos}
theorem err_heap {H : Hp} {a d : Addr} {u u' o : HO} (ha : H a = none) (hd : H d = none) (n : d ≠ a) : upd (del (upd (upd (upd H a u) d o) a u') a) d (.xd l) = upd H d (.xd l) := by
  funext b
  by_cases h1 : b = d
  · subst h1
    rw [upd_same, upd_same]
  rw [upd_ne h1, upd_ne h1]
  by_cases h2 : b = a
  · subst h2
    rw [del_same, ha]
  · rw [del_ne h2, upd_ne h2, upd_ne h1, upd_ne h2]
/-- raise C(e) -/
theorem ps_err (T : ErrC X.prog X.w X.K X.mg X.base x f C) (hc : X.calm = true) (tk : Takes X W) (hr : Room k X.A) (hk : 2 ≤ k) (hg : Gl X x) (he : PE X e te)
    (hdb : (x == ("__debug__" : Str)) = false := by decide) (hst : starEach (e :: []) X.env = (false, eval e X.env) :: starEach [] X.env := by rfl) (hpl : (backTo pos (starEach [] X.env)).any (·.1) = false := by rfl) :
    PS X (.Raise (some (.Call (.Name x p) [e] [] pos)) none pos2) (fun _ σ H => tMkO C (spErrInit C f) [] (tCons te tNil) σ H fun cls d H' => W cls d σ H') := by
  obtain ⟨fI, fd, ps, iC, tI, F, b⟩ := T.ex
  exact ps_raise (pos := pos2) hc tk (pmk_oex (p := p) (pos := pos) T.oex iC tI F (hr.mono hk) b .nil pass0 hg T.m (pa_cons he pa_nil (hs := hst)) hdb hst hpl)
/-- what its reading asks, once the value is there -/
theorem err_go {H1 : Hp} {v : V} {Q : XK} (h : ∀ d, H1 d = none → Q (.ref C) (some d) (upd H1 d (.xd [(f, v)]))) :
    [v].length ≤ 1000 ∧ ∀ a, H1 a = none → spErrInit C f (.ref a :: ([v] ++ [])) (upd H1 a (exo a C none))
      (fun u H2 => u = .non ∧ ∃ (d : Addr) (fs : List (Str × V)), H2 a = some (exo a C (some d)) ∧ H2 d = some (exd d fs) ∧ H1 d = none ∧ Q (.ref C) (some d) (upd (del H2 a) d (.xd fs))) (fun _ _ _ => False) := by
  refine ⟨by show 1 ≤ 1000; decide, fun a na => ⟨a, v, rfl, upd_same, fun dx nd ne => ⟨rfl, dx, [(f, v)], upd_same, ?_, ?_, ?_⟩⟩⟩
  · rw [upd_ne ne, upd_same]
  · rw [upd_ne ne] at nd
    exact nd
  · rw [upd_ne ne] at nd
    rw [err_heap na nd ne]
    exact h dx nd
end
end Sq
namespace Sq
open PySem L2 PySem.Spec PyProof.Rows
/-! ### calls of functions that may raise -/
/-- a promise of a top function that may raise, with all that a call of it asks -/
structure FBX (P : Program) (w : World) (K : PySem.W.Frag) (mg : Str → Option Value) (base : Heap) (x : Str) (k : Nat) (ps : List Str) (sp : Sp) : Prop where
  ex : ∃ (f : Addr) (fd : FuncData), FnOk P w K mg base (L2.CX P w) k f fd ps sp ∧ mg x = some (.ref f) ∧ PySem.W.keepIn K (.ref f) = true ∧ Binds K fd ps []
section
variable {X : Cx} {W : WX} {j k : Nat} {x : Str} {p pos : Pos} {e : Expr} {es : List Expr} {t : TA} {ps : List Str} {sp : Sp}
theorem pe_fbX (F : FBX X.prog X.w X.K X.mg X.base x k ps sp) (tk : Takes X W) (hr : Room j X.A) (hk : k ≤ j) (hg : Gl X x) (ha : PA X (e :: es) t) (hdb : (x == ("__debug__" : Str)) = false := by decide)
    (he : starEach (e :: es) X.env = (false, eval e X.env) :: starEach es X.env := by rfl) (hpl : (backTo pos (starEach es X.env)).any (·.1) = false := by rfl) :
    PE X (.Call (.Name x p) (e :: es) [] pos) (tCallS sp (WE W) t) := by
  obtain ⟨f, fd, G, hm, kk, b⟩ := F.ex
  exact pe_callS G (hr.mono hk) hg hm kk b (fun σ => passAt tk σ) ha hdb he hpl
end
/-! ### isinstance(e, C), e a caught exception that has a dict -/
def rIsX (K : PySem.W.Frag) (a : Addr) (cls : Value) (d : Option Addr) : List V → Hp → VK → Prop := fun xs H Q => ∃ (D dd : Addr) (fs : List (Str × V)) (c : V) (cv : Value) (b : Bool), cls = .ref D ∧ ExcC K D ∧ d = some dd ∧ H dd = some (.xd fs) ∧ xs = [.ref a, c] ∧
  (∀ u, RelV c u → u = cv) ∧ PySem.W.kitOne K (.ref D) cv = some b ∧ Q (.bl b) H
theorem call_isX {X : Cx} {a : Addr} {oe : Obj} {cls : Value} {d : Option Addr} {pn : List (Addr × Obj)} (hz : Zc cls d oe) (hf : ∃ vs, oe.data = .fields vs) : CallR (X.suite a ((a, oe) :: pn)) (.builtin "isinstance") (rIsX X.K a cls d) := by
  intro pins s σ H xs us Q I r h
  obtain ⟨D, dd, fs, c, cv, b, rfl, C, rfl, ea, rfl, hcv, e, q⟩ := h
  obtain ⟨u1, u2, rfl, r1, r2⟩ := vals2 r
  cases (show u1 = Value.ref a from r1)
  have ec := hcv _ r2
  subst ec
  obtain ⟨hget, _⟩ := I.pin (a, oe) (List.mem_append.mpr (.inl List.mem_cons_self))
  obtain ⟨vs, hv⟩ := hf
  have hx : ObjOk X.prog X.w H s.heap dd (.xd fs) := I.hok dd _ ea
  obtain ⟨mA, hns, hr⟩ := hx
  obtain ⟨od, ho, hl⟩ := lookIn_ns hns
  have J : PySem.W.InstAt s.heap a oe D (some od) := ⟨hget, hz.1, by unfold PySem.W.notCls; rw [hv] <;> rfl, by rw [hz.2]; exact ho⟩
  obtain ⟨cd, hcd, _⟩ := PySem.W.any_some C.hd
  exact PySem.W.kia_one (PySem.W.kitx_exc (by rw [hcd]; rfl) C.hg C.hk C.hs C.ha C.hn C.ht C.hm) I.kIn J e (fun z => nomatch z) fun tk => ⟨.bl b, H, I.kept (t' := tk) fun _ _ z => z, rfl, q⟩
/-! ### what a class of errors with the one field given says -/
structure GivenC (P : Program) (w : World) (K : PySem.W.Frag) (mg : Str → Option Value) (base : Heap) (x : Str) (C : Addr) : Prop where
  err : ErrC P w K mg base x "given" C
  exc : ExcC K C
  cls : PySem.W.hasDictIn K C = true
  ty : PySem.W.typeIn K (.ref C) = some (.type "type")
def einitBody (q1 q2 q3 q4 : Pos) : List Stmt := [.Assign [.Attribute (.Name "self" q1) "given" q2] (.Name "given" q3) q4]
theorem ok_einit {P : Program} {w : World} {K : PySem.W.Frag} {mg : Str → Option Value} {base : Heap} {f C : Addr} {fd : FuncData} {q : Str} {st : Stmt} {q1 q2 q3 q4 : Pos} (F : Fun K "__init__" q st f fd) (S : FnScope ["self", "given"] ["self", "given"] (defScope st)) (hb : defBody st = einitBody q1 q2 q3 q4) (h0 : (defScope st).names.lookup ("self" : Str) = some .local) (h1 : (defScope st).names.lookup ("given" : Str) = some .local)
    (T : OexC K C) (no : PySem.W.findIn K (.ref C) "given" = some none) : FnOk P w K mg base CX0 1 f fd ["self", "given"] (spErrInit C "given") := by
  refine F.ok S (fun vs H Q E h => ?_) (fun cdv A outer s H vs Q E hr h => ?_)
  · obtain ⟨a, v, rfl, _⟩ := h
    rfl
  · obtain ⟨a, v, rfl, ha, q⟩ := h
    rw [hb]
    refine ⟨_, pss_one (ps_ost (pv 0 (hv := .inl h0)) (pv 1 (hv := .inl h1))), ?_⟩
    refine ⟨_, rfl, _, rfl, a, C, rfl, T, no, .inl ⟨ha, fun dx n ne => q dx n ne⟩⟩
/-- the classes C and D, asked whether an error of the class C is caught by 'except D' -/
theorem GivenC.exm {P : Program} {w : World} {K : PySem.W.Frag} {mg : Str → Option Value} {base : Heap} {x : Str} {C : Addr} {cls : Value} {b : Bool} (G : GivenC P w K mg base x C) (h : PySem.W.subIn K cls (.ref C) = some b) : PySem.W.exmOne K cls (.ref C) = some b :=
  PySem.W.exm_ref G.err.oex.exC G.cls G.ty h
end Sq
namespace Sq
open PySem L2
abbrev Cell := Int × Int
def lexlt (a b : Cell) : Prop := a.1 < b.1 ∨ (a.1 = b.1 ∧ a.2 < b.2)
def lexle (a b : Cell) : Prop := a.1 < b.1 ∨ (a.1 = b.1 ∧ a.2 ≤ b.2)
def cells8 (n r c : Int) : List Cell := [(r, c), (c, r), (r, n - 1 - c), (n - 1 - c, r), (n - 1 - r, c), (c, n - 1 - r), (n - 1 - r, n - 1 - c), (n - 1 - c, n - 1 - r)]
def InN (n : Int) (q : Cell) : Prop := (0 ≤ q.1 ∧ q.1 < n) ∧ (0 ≤ q.2 ∧ q.2 < n)
theorem cells8_in {n r c : Int} (h : InN n (r, c)) : ∀ q ∈ cells8 n r c, InN n q := by
  obtain ⟨⟨h1, h2⟩, h3, h4⟩ := h
  simp only at h1 h2 h3 h4
  intro q hq
  unfold cells8 at hq
  simp only [List.mem_cons, List.not_mem_nil, or_false] at hq
  rcases hq with rfl | rfl | rfl | rfl | rfl | rfl | rfl | rfl <;> exact ⟨⟨by simp only; omega, by simp only; omega⟩, by simp only; omega, by simp only; omega⟩
/-- the cells L stand at their places -/
def PL (H : Hp) (L : List (Addr × Cell)) : Prop := ∀ q ∈ L, H q.1 = some (.tup [.int q.2.1, .int q.2.2])
def refs (L : List (Addr × Cell)) : List V := L.map fun q => V.ref q.1
theorem PL.same {H H' : Hp} {L : List (Addr × Cell)} (h : PL H L) (s : Same H H') : PL H' L := fun q hq => s _ _ (h q hq)
theorem perm_refs : ∀ {ys xs : List V}, ys.Perm xs → ∀ L, xs = refs L → ∃ L', L'.Perm L ∧ ys = refs L' := by
  intro ys xs h
  induction h with
  | nil => exact fun L e => ⟨L, .refl _, e⟩
  | @cons x l1 l2 p ih =>
    intro L e
    match L, e with
    | q :: L, e =>
      obtain ⟨e1, e2⟩ := List.cons.inj e
      obtain ⟨L', p', e'⟩ := ih L e2
      exact ⟨q :: L', p'.cons q, by rw [e1, e']; rfl⟩
  | swap x y l =>
    intro L e
    match L, e with
    | q :: r :: L, e =>
      obtain ⟨e1, e2⟩ := List.cons.inj e
      obtain ⟨e3, e4⟩ := List.cons.inj e2
      exact ⟨r :: q :: L, .swap _ _ _, by rw [e1, e3, e4]; rfl⟩
  | trans p1 p2 i1 i2 =>
    intro L e
    obtain ⟨L1, q1, e1⟩ := i2 L e
    obtain ⟨L2, q2, e2⟩ := i1 L1 e1
    exact ⟨L2, q2.trans q1, e2⟩
theorem code_lex {B : Int} {a b : Cell} (ha : InN B a) (hb : InN B b) (h : TS.code B [a.1, a.2] ≤ TS.code B [b.1, b.2]) : lexle a b := by
  have e : ∀ q : Cell, TS.code B [q.1, q.2] = q.1 * B + q.2 := fun q => by
    show q.1 * B ^ 1 + (q.2 * B ^ 0 + 0) = _
    rw [Int.pow_succ, Int.pow_zero, Int.one_mul, Int.mul_one, Int.add_zero]
  rw [e a, e b] at h
  obtain ⟨⟨_, _⟩, a3, a4⟩ := ha
  obtain ⟨⟨_, _⟩, b3, b4⟩ := hb
  unfold lexle
  by_cases h1 : a.1 < b.1
  · exact .inl h1
  by_cases h2 : a.1 = b.1
  · rw [h2] at h
    exact .inr ⟨h2, by omega⟩
  exfalso
  have h3 : b.1 + 1 ≤ a.1 := by omega
  have h4 := Int.mul_le_mul_of_nonneg_right h3 (show 0 ≤ B by omega)
  rw [Int.add_mul, Int.one_mul] at h4
  omega
theorem lexlt_of {a b : Cell} (h : lexle a b) (n : a ≠ b) : lexlt a b := by
  rcases h with h | ⟨h1, h2⟩
  · exact .inl h
  · refine .inr ⟨h1, ?_⟩
    by_cases e : a.2 = b.2
    · exact absurd (Prod.ext h1 e) n
    · omega
theorem tupD {K : PySem.W.Frag} {H : Hp} {t : Addr} {i j : Int} (h : H t = some (.tup [.int i, .int j])) : Dp K H (.ref t) (.tuple [.int i, .int j]) := .tup (SqT.of h) (.cons (.int _) (.cons (.int _) .nil))
def cellD (q : Cell) : PyData := .tuple [.int q.1, .int q.2]
theorem listD {K : PySem.W.Frag} {H : Hp} : ∀ {L : List (Addr × Cell)}, PL H L → DpAll K H (refs L) (L.map fun q => cellD q.2)
  | [], _ => .nil
  | q :: L, h => .cons (tupD (h q (List.mem_cons_self ..))) (listD fun x hx => h x (List.mem_cons_of_mem _ hx))
theorem cell_eqv (a b : Cell) : PyData.eqv (cellD a) (cellD b) = decide (a = b) := by
  have e : PyData.eqv (cellD a) (cellD b) = ((a.1 == b.1) && ((a.2 == b.2) && true)) := rfl
  rw [e, Bool.and_true, Bool.eq_iff_iff]
  simp [Prod.ext_iff]
theorem cell_shaped (a : Cell) : PySem.SeqAt.shaped (cellD a) = true := rfl
theorem any_cell (L : List (Addr × Cell)) (a : Cell) : ((L.map fun q => cellD q.2).any fun z => PyData.eqv z (cellD a)) = decide (a ∈ L.map (·.2)) := by
  rw [Bool.eq_iff_iff, List.any_map, List.any_eq_true, decide_eq_true_eq, List.mem_map]
  constructor
  · rintro ⟨q, hq, e⟩
    refine ⟨q, hq, ?_⟩
    have e : PyData.eqv (cellD q.2) (cellD a) = true := e
    rw [cell_eqv] at e
    exact of_decide_eq_true e
  · rintro ⟨q, hq, e⟩
    refine ⟨q, hq, ?_⟩
    show PyData.eqv (cellD q.2) (cellD a) = true
    rw [cell_eqv]
    exact decide_eq_true e
theorem layAll_of : ∀ {ds : List PyData}, (∀ d ∈ ds, d.canLay0 = true ∧ d.depth ≤ 60) → PyData.canLayAll0 ds = true ∧ PyData.depthAll ds ≤ 60
  | [], _ => ⟨by simp [PyData.canLayAll0], by simp [PyData.depthAll]⟩
  | d :: ds, h => by
    obtain ⟨h1, h2⟩ := h d (List.mem_cons_self ..)
    obtain ⟨h3, h4⟩ := layAll_of fun x hx => h x (List.mem_cons_of_mem _ hx)
    refine ⟨by simp [PyData.canLayAll0, h1, h3], ?_⟩
    simp only [PyData.depthAll]
    omega
theorem shaped_lst {ds : List PyData} (h : ∀ d ∈ ds, d.canLay0 = true ∧ d.depth ≤ 60) : PySem.SeqAt.shaped (.list ds) = true := by
  obtain ⟨h1, h2⟩ := layAll_of h
  show (PyData.canLay0 (.list ds) && decide (PyData.depth (.list ds) ≤ 64)) = true
  rw [Bool.and_eq_true]
  refine ⟨by simp only [PyData.canLay0]; exact h1, decide_eq_true ?_⟩
  simp only [PyData.depth]
  omega
theorem shaped_tup {ds : List PyData} (h : ∀ d ∈ ds, d.canLay0 = true ∧ d.depth ≤ 60) : PySem.SeqAt.shaped (.tuple ds) = true := by
  obtain ⟨h1, h2⟩ := layAll_of h
  show (PyData.canLay0 (.tuple ds) && decide (PyData.depth (.tuple ds) ≤ 64)) = true
  rw [Bool.and_eq_true]
  refine ⟨by simp only [PyData.canLay0]; exact h1, decide_eq_true ?_⟩
  simp only [PyData.depth]
  omega
theorem cell_lay (q : Cell) : (cellD q).canLay0 = true ∧ (cellD q).depth ≤ 60 := by
  refine ⟨by simp [cellD, PyData.canLay0, PyData.canLayAll0], ?_⟩
  simp [cellD, PyData.depth, PyData.depthAll]
theorem cells_lay (L : List (Addr × Cell)) : ∀ d ∈ L.map (fun q => cellD q.2), d.canLay0 = true ∧ d.depth ≤ 60 := fun d hd => by
  obtain ⟨q, _, rfl⟩ := List.mem_map.mp hd
  exact cell_lay _
/-! ### the kind of a cell -/
def srt (l : List Int) : List Int := l.mergeSort fun x y => decide (x ≤ y)
theorem srt_of {a b : List Int} (h : a.Perm b) (s : a.Pairwise (· ≤ ·)) : a = srt b := PySem.W.os_sorted_mergeSort h s
theorem srt_perm (l : List Int) : (srt l).Perm l := List.mergeSort_perm _ _
theorem srt_le (l : List Int) : (srt l).Pairwise (· ≤ ·) := by
  have hs := List.pairwise_mergeSort (le := fun x y : Int => decide (x ≤ y)) (by intro x y z hxy hyz; simp only [decide_eq_true_eq] at *; omega) (by intro x y; simp only [Bool.or_eq_true, decide_eq_true_eq]; omega) l
  simpa [srt] using hs
theorem srt_congr {a b : List Int} (h : a.Perm b) : srt a = srt b := srt_of ((srt_perm a).trans h) (srt_le a)
theorem srt_add (l : List Int) (d : Int) : srt (l.map (· + d)) = (srt l).map (· + d) := by
  refine (srt_of ((srt_perm l).map _) ?_).symm
  rw [List.pairwise_map]
  exact (srt_le l).imp fun h => by omega
def nums (n r c : Int) : List Int := [r, c, n - 1 - r, n - 1 - c]
theorem four_of (n r c : Int) : ∃ x y z w, srt (nums n r c) = [x, y, z, w] := by
  have h : (srt (nums n r c)).length = 4 := by rw [(srt_perm _).length_eq]; rfl
  match srt (nums n r c), h with
  | [x, y, z, w], _ => exact ⟨x, y, z, w, rfl⟩
def mn (a m : Int) : Int := if m < a then m else a
def kindL : List Int → Int × Int × Int
  | [x, y, z, _] => (mn x 1, mn (y - x) 2, mn (z - y) 3)
  | _ => (0, 0, 0)
def kindN (n r c : Int) : Int × Int × Int := kindL (srt (nums n r c))
theorem kind_img {n r c : Int} : ∀ q ∈ cells8 n r c, kindN n q.1 q.2 = kindN n r c := by
  intro q hq
  unfold cells8 at hq
  simp only [List.mem_cons, List.not_mem_nil, or_false] at hq
  have e : ∀ x : Int, n - 1 - (n - 1 - x) = x := fun x => by omega
  unfold kindN
  refine congrArg kindL (srt_congr ?_)
  unfold nums
  have sw : ∀ (a b c d : Int), [b, a, d, c].Perm [a, b, c, d] := fun a b c d => (List.Perm.swap _ _ _).trans (((List.Perm.swap _ _ _).cons _).cons _)
  have s1 : ∀ (a b c d : Int), [a, d, c, b].Perm [a, b, c, d] := fun a b c d => by
    refine .cons _ ?_
    exact (List.Perm.swap _ _ _).trans (((List.Perm.swap _ _ _).cons _).trans (List.Perm.swap _ _ _))
  have s2 : ∀ (a b c d : Int), [c, b, a, d].Perm [a, b, c, d] := fun a b c d => (sw _ _ _ _).symm.trans ((s1 _ _ _ _).trans (sw _ _ _ _))
  rcases hq with rfl | rfl | rfl | rfl | rfl | rfl | rfl | rfl <;> simp only [e]
  · exact .refl _
  · exact sw _ _ _ _
  · exact s1 _ _ _ _
  · exact (sw _ _ _ _).trans (s1 _ _ _ _)
  · exact s2 _ _ _ _
  · exact (sw _ _ _ _).trans (s2 _ _ _ _)
  · exact (s1 _ _ _ _).trans (s2 _ _ _ _)
  · exact (sw _ _ _ _).trans ((s1 _ _ _ _).trans (s2 _ _ _ _))
theorem kind_ring {n r c : Int} (h : InN n (r, c)) : kindN (n + 2) (r + 1) (c + 1) = (1, (kindN n r c).2.1, (kindN n r c).2.2) := by
  have e : nums (n + 2) (r + 1) (c + 1) = (nums n r c).map (· + 1) := by
    show [r + 1, c + 1, n + 2 - 1 - (r + 1), n + 2 - 1 - (c + 1)] = [r + 1, c + 1, n - 1 - r + 1, n - 1 - c + 1]
    have e1 : ∀ x : Int, n + 2 - 1 - (x + 1) = n - 1 - x + 1 := fun x => by omega
    rw [e1, e1]
  unfold kindN
  rw [e, srt_add]
  obtain ⟨x, y, z, w, e4⟩ := four_of n r c
  have hx : 0 ≤ x := by
    have m : x ∈ nums n r c := (srt_perm (nums n r c)).mem_iff.mp (by rw [e4]; exact List.mem_cons_self ..)
    obtain ⟨⟨h1, h2⟩, h3, h4⟩ := h
    simp only at h1 h2 h3 h4
    unfold nums at m
    simp only [List.mem_cons, List.not_mem_nil, or_false] at m
    omega
  rw [e4]
  show (mn (x + 1) 1, mn (y + 1 - (x + 1)) 2, mn (z + 1 - (y + 1)) 3) = (1, mn (y - x) 2, mn (z - y) 3)
  have e1 : y + 1 - (x + 1) = y - x := by omega
  have e2 : z + 1 - (y + 1) = z - y := by omega
  have e3 : mn (x + 1) 1 = 1 := by
    unfold mn
    split <;> omega
  rw [e1, e2, e3]
def triD (k : Int × Int × Int) : PyData := .tuple [.int k.1, .int k.2.1, .int k.2.2]
theorem tri_eqv (a b : Int × Int × Int) : PyData.eqv (triD a) (triD b) = decide (a = b) := by
  have e : PyData.eqv (triD a) (triD b) = ((a.1 == b.1) && ((a.2.1 == b.2.1) && ((a.2.2 == b.2.2) && true))) := rfl
  rw [e, Bool.and_true, Bool.eq_iff_iff]
  simp [Prod.ext_iff]
theorem tri_lay (k : Int × Int × Int) : (triD k).canLay0 = true ∧ (triD k).depth ≤ 60 := by
  refine ⟨by simp [triD, PyData.canLay0, PyData.canLayAll0], ?_⟩
  simp [triD, PyData.depth, PyData.depthAll]
theorem tri_shaped (k : Int × Int × Int) : PySem.SeqAt.shaped (triD k) = true := rfl
theorem triDp {K : PySem.W.Frag} {H : Hp} {t : Addr} {k : Int × Int × Int} (h : H t = some (.tup [.int k.1, .int k.2.1, .int k.2.2])) : Dp K H (.ref t) (triD k) := .tup (SqT.of h) (.cons (.int _) (.cons (.int _) (.cons (.int _) .nil)))
/-! ### promises -/
def spCell : Sp := fun vs H Q _ => ∃ (n : Int) (t : Addr) (q : Cell), vs = [.int n, .ref t] ∧ H t = some (.tup [.int q.1, .int q.2]) ∧ InN n q ∧ ∀ H', Same H H' → Q (.bl true) H'
def spCellOk : Sp := fun vs H Q _ => ∃ (n : Int) (t : Addr) (q : Cell), vs = [.int n, .ref t] ∧ H t = some (.tup [.int q.1, .int q.2]) ∧ InN n q ∧ ∀ H', Same H H' → Q .non H'
def Tup3 (H : Hp) (t : Addr) (k : Int × Int × Int) : Prop := H t = some (.tup [.int k.1, .int k.2.1, .int k.2.2])
def spKindOf : Sp := fun vs H Q _ => ∃ (n : Int) (t : Addr) (q : Cell), vs = [.int n, .ref t] ∧ H t = some (.tup [.int q.1, .int q.2]) ∧ InN n q ∧ n ≤ big ∧ ∀ t' H', Same H H' → Tup3 H' t' (kindN n q.1 q.2) → Q (.ref t') H'
def spSort : Sp := fun vs H Q _ => ∃ n r c : Int, vs = [.int n, .int r, .int c] ∧ ∀ t' H', Same H H' → Tup3 H' t' (kindN n r c) → Q (.ref t') H'
def spSpot : Sp := fun vs H Q _ => ∃ (p : Addr) (n : Int), vs = [.ref p, .int n] ∧ PurlAt H p ∧ 1 ≤ n ∧ ∀ (t : Addr) (q : Cell) (H' : Hp), InN n q → H' t = some (.tup [.int q.1, .int q.2]) → t ≠ p → PurlAt H' p → Off p H H' → Q (.ref t) H'
def spCells : Sp := fun vs H Q _ => ∃ n r c : Int, vs = [.int n, .int r, .int c] ∧ ∀ (p : Addr) (L : List (Addr × Cell)) (H' : Hp), Same H H' → H' p = some (.lst (refs L)) → PL H' L → L.map (·.2) = cells8 n r c → Q (.ref p) H'
def spOrbit : Sp := fun vs H Q _ => ∃ n r c : Int, vs = [.int n, .int r, .int c] ∧ InN n (r, c) ∧ ∀ (p : Addr) (L : List (Addr × Cell)) (H' : Hp), Same H H' → H' p = some (.lst (refs L)) → PL H' L → L.length ≤ 8 → (L.map (·.2)).Pairwise lexlt → (∀ q, q ∈ L.map (·.2) ↔ q ∈ cells8 n r c) → Q (.ref p) H'
end Sq
namespace Sq
open PySem L2 PySem.Spec PyProof.Rows
/-! ### repr of plain values, scalars too -/
inductive Sh (K : PySem.W.Frag) (H : Hp) : V → PyData → Prop
  | dat {v : V} {d : PyData} : Dp K H v d → d.hasDict = false → Sh K H v d
  | emp {a : Addr} : H a = some (.dK []) → Sh K H (.ref a) (.dict [])
theorem Dp.same {K : PySem.W.Frag} {H H' : Hp} (s : Same H H') : ∀ {d : PyData} {v : V}, Dp K H v d → Dp K H' v d := fun {d v} h => by
  exact Dp.rec (K := K) (H := H) (motive_1 := fun v d _ => Dp K H' v d) (motive_2 := fun vs ds _ => DpAll K H' vs ds)
    .non (fun b => .bl b) (fun i => .int i) (fun x => .str x) (fun hs _ ih => .lst (hs.ext s) ih) (fun hs _ ih => .tup (hs.ext s) ih) .nil (fun _ _ h1 h2 => .cons h1 h2) h
theorem Sh.same {K : PySem.W.Frag} {H H' : Hp} (s : Same H H') {d : PyData} {v : V} (h : Sh K H v d) : Sh K H' v d := by
  cases h with
  | dat h e => exact .dat (Dp.same s h) e
  | emp h => exact .emp (s _ _ h)
def reprD : PyData → Str
  | .none => "None"
  | .bool b => if b then "True" else "False"
  | .int i => toString i
  | .str x => reprText x
  | d => d.shown
/-- what repr needs -/
def Fits (d : PyData) : Prop := d.showable = true ∧ d.depth ≤ 20 ∧ d.shown.length ≤ sizeLine ∧ (∀ i, d = .int i → i.natAbs.log2 < 1920) ∧ (∀ x, d = .str x → (reprText x).length ≤ sizeLine)
def rRepr2 (K : PySem.W.Frag) : List V → Hp → VK → Prop := fun xs H Q => ∃ (v : V) (d : PyData), xs = [v] ∧ Sh K H v d ∧ Fits d ∧ Q (.str (reprD d)) H
theorem call_repr2 {X : Cx} {k : Nat} (hg : X.A.guards = some []) (hr : Room k X.A) : CallR X (.builtin "repr") (rRepr2 X.K) := by
  intro pins s σ H xs us Q I r h
  obtain ⟨v, d, rfl, hd, ⟨h1, h3, h4, h5, h6⟩, q⟩ := h
  obtain ⟨u, rfl, r1⟩ := vals1 r
  have hu := hr.units
  cases hd with
  | dat hd h2 =>
    obtain ⟨as, rd⟩ := Dp.reads I d _ u hd r1
    cases hd with
    | non =>
      cases r1
      exact PySem.P.repr_of_none ⟨.str _, H, I.tok _, ⟨_, rfl⟩, q⟩
    | bl b =>
      cases r1
      exact PySem.P.repr_of_bool ⟨.str _, H, I.tok _, ⟨_, rfl⟩, q⟩
    | int i =>
      obtain ⟨t, rfl⟩ := r1
      exact PySem.P.repr_of_int (h5 i rfl) ⟨.str _, H, I.tok _, ⟨_, rfl⟩, q⟩
    | str x =>
      obtain ⟨t, rfl⟩ := r1
      exact PySem.P.repr_of_str ⟨.str _, H, I.tok _, ⟨_, rfl⟩, q⟩ (h6 x rfl)
    | lst hs ha =>
      cases r1
      refine repr_of_reads' rd h1 (fun z => by rw [h2] at z; cases z) hg (by omega) (fun _ _ z => z) (fun h' u' tk kp => ?_) h4
      exact ⟨.str _, H, I.kept kp, ⟨u', rfl⟩, q⟩
    | tup hs ha =>
      cases r1
      refine repr_of_reads' rd h1 (fun z => by rw [h2] at z; cases z) hg (by omega) (fun _ _ z => z) (fun h' u' tk kp => ?_) h4
      exact ⟨.str _, H, I.kept kp, ⟨u', rfl⟩, q⟩
  | @emp a ha =>
    cases r1
    have hx : ObjOk X.prog X.w H s.heap a (.dK []) := I.hok a _ ha
    obtain ⟨z, hsm, vs, kv, hD⟩ := dk_of I.hok ha
    cases kv
    obtain ⟨o, es, ep, e1, e2, e3, _, e4, _⟩ := hD
    have e5 : es = #[] := by
      cases es with
      | mk l =>
        cases e4
        rfl
    subst e5
    have rd : Reads s.heap (.ref a) (.dict []) (a :: [] ++ []) := .dict e1 e2.1 e3 .nil .nil
    refine repr_of_reads' rd h1 (fun _ z => ?_) hg (by omega) (fun _ _ z => z) (fun h' u' tk kp => ?_) h4
    · have z1 : sysModules ∈ [a] := z
      rw [List.mem_singleton] at z1
      rw [← z1] at hsm
      cases hsm
    · exact ⟨.str _, H, I.kept kp, ⟨u', rfl⟩, q⟩
/-! ### plain values -/
def Pl (K : PySem.W.Frag) (H : Hp) (v : V) : Prop := (∃ n, v = .int n) ∨ ((∀ n, v ≠ .int n) ∧ ∃ t : String, TyX K H v (.type t) ∧ ∃ b, kitB t "int" = some b ∧ (b = true → kitB t "bool" = some true))
theorem pl_int {K : PySem.W.Frag} {H : Hp} (n : Int) : Pl K H (.int n) := .inl ⟨n, rfl⟩
theorem pl_bl {K : PySem.W.Frag} {H : Hp} (b : Bool) : Pl K H (.bl b) := .inr ⟨(fun n z => V.noConfusion z), "bool", .base (.bl b), true, (by decide +kernel), fun _ => by decide +kernel⟩
theorem pl_str {K : PySem.W.Frag} {H : Hp} (x : Str) : Pl K H (.str x) := .inr ⟨(fun n z => V.noConfusion z), "str", .base (.str x), false, (by decide +kernel), fun z => by cases z⟩
theorem pl_non {K : PySem.W.Frag} {H : Hp} : Pl K H .non := .inr ⟨(fun n z => V.noConfusion z), "NoneType", .base .non, false, (by decide +kernel), fun z => by cases z⟩
theorem pl_lst {K : PySem.W.Frag} {H : Hp} {a : Addr} {xs : List V} (h : H a = some (.lst xs)) : Pl K H (.ref a) := .inr ⟨(fun n z => V.noConfusion z), "list", .base (.lst h), false, (by decide +kernel), fun z => by cases z⟩
theorem pl_tup {K : PySem.W.Frag} {H : Hp} {a : Addr} {xs : List V} (h : H a = some (.tup xs)) : Pl K H (.ref a) := .inr ⟨(fun n z => V.noConfusion z), "tuple", .base (.tup h), false, (by decide +kernel), fun z => by cases z⟩
theorem pl_dK {K : PySem.W.Frag} {H : Hp} {a : Addr} {xs : List (Key × V)} (h : H a = some (.dK xs)) : Pl K H (.ref a) := .inr ⟨(fun n z => V.noConfusion z), "dict", .base (.dK h), false, (by decide +kernel), fun z => by cases z⟩
/-- a value that may stand where a cell or a kind is asked for: its items, if it is a tuple -/
def TupV (K : PySem.W.Frag) (H : Hp) (v : V) : Option (List V) → Prop
  | some xs => ∃ t, v = .ref t ∧ H t = some (.tup xs) ∧ xs.length ≤ 100 ∧ ∀ x ∈ xs, Pl K H x
  | none => ∃ t : String, TyX K H v (.type t) ∧ kitB t "tuple" = some false
theorem tv_int {K : PySem.W.Frag} {H : Hp} (n : Int) : TupV K H (.int n) none := ⟨"int", .base (.int n), by decide +kernel⟩
theorem tv_bl {K : PySem.W.Frag} {H : Hp} (b : Bool) : TupV K H (.bl b) none := ⟨"bool", .base (.bl b), by decide +kernel⟩
theorem tv_str {K : PySem.W.Frag} {H : Hp} (x : Str) : TupV K H (.str x) none := ⟨"str", .base (.str x), by decide +kernel⟩
theorem tv_non {K : PySem.W.Frag} {H : Hp} : TupV K H .non none := ⟨"NoneType", .base .non, by decide +kernel⟩
theorem tv_lst {K : PySem.W.Frag} {H : Hp} {a : Addr} {xs : List V} (h : H a = some (.lst xs)) : TupV K H (.ref a) none := ⟨"list", .base (.lst h), by decide +kernel⟩
theorem tv_dK {K : PySem.W.Frag} {H : Hp} {a : Addr} {xs : List (Key × V)} (h : H a = some (.dK xs)) : TupV K H (.ref a) none := ⟨"dict", .base (.dK h), by decide +kernel⟩
def isI : V → Bool
  | .int _ => true
  | _ => false
def inI (v : V) (a b : Int) : Bool := match v with
  | .int n => decide (a ≤ n) && decide (n ≤ b)
  | _ => false
theorem isI_no {v : V} (h : ∀ n, v ≠ .int n) : isI v = false := by
  cases v with
  | int n => exact absurd rfl (h n)
  | _ => rfl
theorem inI_no {v : V} {a b : Int} (h : ∀ n, v ≠ .int n) : inI v a b = false := by
  cases v with
  | int n => exact absurd rfl (h n)
  | _ => rfl
def cellB (n : Int) : Option (List V) → Bool
  | some [x, y] => inI x 0 (n - 1) && inI y 0 (n - 1)
  | _ => false
def kindB : Option (List V) → Bool
  | some [x, y, z] => inI x 0 1 && (inI y 0 2 && inI z 0 3)
  | _ => false
/-! ### promises -/
/-- an error of the class C flies, which keeps v -/
def Fl (E : XK) (C : Addr) (v : V) (H : Hp) : Prop := ∀ d H', Same H H' → H' d = some (.xd [("given", v)]) → E (.ref C) (some d) H'
def spWholeA (K : PySem.W.Frag) : Sp := fun vs H Q _ => ∃ v, vs = [v] ∧ Pl K H v ∧ Q (.bl (isI v)) H
def spWithinA (K : PySem.W.Frag) : Sp := fun vs H Q _ => ∃ (v : V) (a b : Int), vs = [v, .int a, .int b] ∧ Pl K H v ∧ Q (.bl (inI v a b)) H
def spCellA (K : PySem.W.Frag) : Sp := fun vs H Q _ => ∃ (n : Int) (v : V) (c : Option (List V)), vs = [.int n, v] ∧ TupV K H v c ∧ ∀ H', Same H H' → Q (.bl (cellB n c)) H'
def spKindA (K : PySem.W.Frag) : Sp := fun vs H Q _ => ∃ (v : V) (c : Option (List V)), vs = [v] ∧ TupV K H v c ∧ Q (.bl (kindB c)) H
def spSizeX (K : PySem.W.Frag) (C : Addr) : Sp := fun vs H Q E => ∃ v, vs = [v] ∧ Pl K H v ∧ (inI v 1 big = true → Q .non H) ∧ (inI v 1 big = false → Fl E C v H)
def spCellX (K : PySem.W.Frag) (C : Addr) : Sp := fun vs H Q E => ∃ (n : Int) (v : V) (c : Option (List V)), vs = [.int n, v] ∧ TupV K H v c ∧ (cellB n c = true → ∀ H', Same H H' → Q .non H') ∧ (cellB n c = false → Fl E C v H)
/-- a function of a size and a cell, or a size and a kind: C2 the error of the second one, ok if it is right -/
def spAsk (K : PySem.W.Frag) (C1 C2 : Addr) (ok : Int → Option (List V) → Bool) : Sp := fun vs H Q E => ∃ (v w : V) (c : Option (List V)), vs = [v, w] ∧ Pl K H v ∧ TupV K H w c ∧ (inI v 1 big = false → Fl E C1 v H) ∧
  ∀ n, v = .int n → 1 ≤ n → n ≤ big → (ok n c = false → Fl E C2 w H) ∧ (ok n c = true → ∀ x H', Same H H' → Q x H')
def spKindsX (K : PySem.W.Frag) (C1 : Addr) : Sp := fun vs H Q E => ∃ v, vs = [v] ∧ Pl K H v ∧ (inI v 1 big = false → Fl E C1 v H) ∧ (inI v 1 big = true → ∀ x H', Same H H' → Q x H')
theorem inI_of {v : V} {a b : Int} (h : inI v a b = true) : ∃ n, v = .int n ∧ a ≤ n ∧ n ≤ b := by
  cases v with
  | int n =>
    have h : (decide (a ≤ n) && decide (n ≤ b)) = true := h
    rw [Bool.and_eq_true, decide_eq_true_eq, decide_eq_true_eq] at h
    exact ⟨n, rfl, h⟩
  | _ => cases h
def spBad (K : PySem.W.Frag) (C1 C2 : Addr) (ok : Int → Option (List V) → Bool) : Sp := fun vs H Q E => ∃ (v w : V) (c : Option (List V)), vs = [v, w] ∧ Pl K H v ∧ TupV K H w c ∧
  ((inI v 1 big = false ∧ Fl E C1 v H) ∨ ∃ n, v = .int n ∧ 1 ≤ n ∧ n ≤ big ∧ ok n c = false ∧ Fl E C2 w H)
def spBadN (K : PySem.W.Frag) (C1 : Addr) : Sp := fun vs H Q E => ∃ v, vs = [v] ∧ Pl K H v ∧ inI v 1 big = false ∧ Fl E C1 v H
theorem FnOk.use {P : Program} {w : World} {K : PySem.W.Frag} {mg : Str → Option Value} {base : Heap} {CX : CXT} {k : Nat} {f : Addr} {fd : FuncData} {ps : List Str} {sp sp' : Sp} (F : FnOk P w K mg base CX k f fd ps sp) (h : ∀ vs H Q E, sp' vs H Q E → sp vs H Q E) : FnOk P w K mg base CX k f fd ps sp' := by
  refine ⟨fun vs H Q E q => F.len vs H Q E (h vs H Q E q), ?_⟩
  intro a1 a2 a3 a4 a5 a6 a7 a8 a9 b1 b2 b3 b4 q
  exact F.run a1 a2 a3 a4 a5 a6 a7 a8 a9 b1 b2 b3 b4 (h _ _ _ _ q)
theorem TyX.same {K : PySem.W.Frag} {H H' : Hp} {v : V} {t : Value} (e : Same H H') (h : TyX K H v t) : TyX K H' v t := by
  cases h with
  | base b =>
    cases b with
    | non => exact .base .non
    | bl x => exact .base (.bl x)
    | int i => exact .base (.int i)
    | str x => exact .base (.str x)
    | flt x => exact .base (.flt x)
    | lst h => exact .base (.lst (e _ _ h))
    | frz h => exact .base (.frz (e _ _ h))
    | tup h => exact .base (.tup (e _ _ h))
    | dK h => exact .base (.dK (e _ _ h))
    | dT h => exact .base (.dT (e _ _ h))
    | ins h cl ha hn htk hm => exact .base (.ins (e _ _ h) cl ha hn htk hm)
  | byt b => exact .byt b
  | set h => exact .set (e _ _ h)
  | kList h c => exact .kList h c
  | kTuple h c => exact .kTuple h c
  | kDict h c => exact .kDict h c
  | fTuple h => exact .fTuple (e _ _ h)
  | fDict h => exact .fDict (e _ _ h)
theorem Pl.same {K : PySem.W.Frag} {H H' : Hp} {v : V} (e : Same H H') (h : Pl K H v) : Pl K H' v := by
  rcases h with h | ⟨h, t, ty, k⟩
  · exact .inl h
  · exact .inr ⟨h, t, TyX.same e ty, k⟩
theorem TupV.same {K : PySem.W.Frag} {H H' : Hp} {v : V} {c : Option (List V)} (e : Same H H') (h : TupV K H v c) : TupV K H' v c := by
  cases c with
  | none =>
    obtain ⟨t, ty, k⟩ := h
    exact ⟨t, TyX.same e ty, k⟩
  | some xs =>
    obtain ⟨t, e1, e2, e3, e4⟩ := h
    exact ⟨t, e1, e _ _ e2, e3, fun x hx => (e4 x hx).same e⟩
theorem Fl.same {E : XK} {C : Addr} {v : V} {H H' : Hp} (h : Fl E C v H) (s : Same H H') : Fl E C v H' := fun d H2 s2 e => h d H2 (s.trans s2) e
/-! ### two promises of one function -/
theorem FnOk.toCX {P : Program} {w : World} {K : PySem.W.Frag} {mg : Str → Option Value} {base : Heap} {k : Nat} {f : Addr} {fd : FuncData} {ps : List Str} {sp : Sp} (F : FnOk P w K mg base CX0 k f fd ps sp) : FnOk P w K mg base (L2.CX P w) k f fd ps sp := by
  refine ⟨F.len, ?_⟩
  intros
  refine codeAny_mono (F.run _ _ _ _ _ _ _ _ _ ‹_› ‹_› ‹_› ‹_› ‹_›) fun r s' h => ?_
  match r, h with
  | .ok (.ret _), h => exact h
  | .ok .next, h => exact h
  | .ok .brk, h => exact h
  | .ok .cont, h => exact h
  | .error _, h => exact False.elim h
theorem FnOk.either {P : Program} {w : World} {K : PySem.W.Frag} {mg : Str → Option Value} {base : Heap} {CX : CXT} {k : Nat} {f : Addr} {fd : FuncData} {ps : List Str} {sp sp' : Sp} (F : FnOk P w K mg base CX k f fd ps sp) (G : FnOk P w K mg base CX k f fd ps sp') :
    FnOk P w K mg base CX k f fd ps (fun vs H Q E => sp vs H Q E ∨ sp' vs H Q E) := by
  refine ⟨fun vs H Q E h => h.elim (F.len vs H Q E) (G.len vs H Q E), ?_⟩
  intro a1 a2 a3 a4 a5 a6 a7 a8 a9 b1 b2 b3 b4 h
  rcases h with h | h
  · exact F.run a1 a2 a3 a4 a5 a6 a7 a8 a9 b1 b2 b3 b4 h
  · exact G.run a1 a2 a3 a4 a5 a6 a7 a8 a9 b1 b2 b3 b4 h
theorem cell_of {K : PySem.W.Frag} {H : Hp} {w : V} {c : Option (List V)} {n : Int} (h : TupV K H w c) (b : cellB n c = true) : ∃ (t : Addr) (q : Cell), w = .ref t ∧ H t = some (.tup [.int q.1, .int q.2]) ∧ InN n q := by
  match c, h, b with
  | some [x, y], h, b =>
    obtain ⟨t, e1, e2, _⟩ := h
    have b : (inI x 0 (n - 1) && inI y 0 (n - 1)) = true := b
    rw [Bool.and_eq_true] at b
    obtain ⟨i, rfl, i0, i1⟩ := inI_of b.1
    obtain ⟨j, rfl, j0, j1⟩ := inI_of b.2
    exact ⟨t, (i, j), e1, e2, ⟨i0, by show i < n; omega⟩, j0, by show j < n; omega⟩
theorem kind_ofB {K : PySem.W.Frag} {H : Hp} {w : V} {c : Option (List V)} (h : TupV K H w c) (b : kindB c = true) : ∃ (t : Addr) (x y z : Int), w = .ref t ∧ KindAt H t x y z ∧ KindR x y z := by
  match c, h, b with
  | some [x, y, z], h, b =>
    obtain ⟨t, e1, e2, _⟩ := h
    have b : (inI x 0 1 && (inI y 0 2 && inI z 0 3)) = true := b
    rw [Bool.and_eq_true, Bool.and_eq_true] at b
    obtain ⟨i, rfl, i0, i1⟩ := inI_of b.1
    obtain ⟨j, rfl, j0, j1⟩ := inI_of b.2.1
    obtain ⟨k, rfl, k0, k1⟩ := inI_of b.2.2
    exact ⟨t, i, j, k, e1, e2, ⟨i0, i1⟩, ⟨j0, j1⟩, k0, k1⟩
theorem cellB_len {n : Int} : ∀ {xs : List V}, xs.length ≠ 2 → cellB n (some xs) = false
  | [], _ => rfl
  | [_], _ => rfl
  | [_, _], h => absurd rfl h
  | _ :: _ :: _ :: _, _ => rfl
theorem kindB_len : ∀ {xs : List V}, xs.length ≠ 3 → kindB (some xs) = false
  | [], _ => rfl
  | [_], _ => rfl
  | [_, _], _ => rfl
  | [_, _, _], h => absurd rfl h
  | _ :: _ :: _ :: _ :: _, _ => rfl
end Sq
namespace Sq
open PySem L2 TL
def top (i : Nat) : Stmt := PySem.Challenge.pw_squareloops_k46_whole_sizes_as_sets.main.body.getD i (.Pass ⟨0, 0, 0, 0⟩)
section
variable {P : Program} {w : World} {K : PySem.W.Frag} {mg : Str → Option Value} {base : Heap}
abbrev s_has_bit : Stmt := top 1
theorem sc_has_bit : FnScope ["bits", "index"] ["bits", "index"] (defScope s_has_bit) := ⟨rfl, rfl, rfl, by decide +kernel, rfl, by decide +kernel, by decide +kernel⟩
theorem ok_has_bit {f : Addr} {fd : FuncData} (F : Fun K "has_bit" "has_bit" s_has_bit f fd) (T : Bt mg)  : FnOk P w K mg base CX0 1 f fd ["bits", "index"] spHas := by
  refine F.ok sc_has_bit (fun vs H Q E h => ?_) (fun cdv A outer s H vs Q E hr h => ?_)
  · obtain ⟨b, k, rfl, _⟩ := h
    rfl
  · obtain ⟨b, k, rfl, q⟩ := h
    refine ⟨_, (pss_one (ps_ret (pe_cmpR op_eq (pe_op op_and (pe_op op_shr (pv 0) (pv 1)) pe_int) pe_int (nomark _)))), ?_⟩
    refine ⟨_, rfl, _, rfl, _, _, rfl, rfl, Int.natCast_nonneg k, _, _, rfl, rfl, rfl, ?_⟩
    have e1 : ((b : Int) / 2 ^ ((k : Int)).toNat) = ((b / 2 ^ k : Nat) : Int) := by
      rw [Int.toNat_natCast]
      simp
    show Q (V.bl (decide (V.int (Builtin.bitAnd ((b : Int) / 2 ^ ((k : Int)).toNat) 1) = V.int 1))) H
    rw [e1, show (1 : Int) = ((1 : Nat) : Int) from rfl, and_nat, show decide (V.int ((b / 2 ^ k &&& 1 : Nat) : Int) = V.int ((1 : Nat) : Int)) = b.testBit k from ?_]
    · exact q
    · rw [bit_div, Nat.and_one_is_mod]
      by_cases h : b / 2 ^ k % 2 = 1
      · rw [h]
        rfl
      · rw [decide_eq_false h, decide_eq_false]
        intro z
        exact h (Int.ofNat_inj.mp (V.int.inj z))
abbrev s_with_bits : Stmt := top 2
theorem sc_with_bits : FnScope ["indexes", "index"] ["indexes"] (defScope s_with_bits) := ⟨rfl, rfl, rfl, by decide +kernel, rfl, by decide +kernel, by decide +kernel⟩
theorem ok_with_bitsL {f : Addr} {fd : FuncData} (F : Fun K "with_bits" "with_bits" s_with_bits f fd) (T : Bt mg)  : FnOk P w K mg base CX0 1 f fd ["indexes"] (spWithL K) := by
  refine F.ok sc_with_bits (fun vs H Q E h => ?_) (fun cdv A outer s H vs Q E hr h => ?_)
  · obtain ⟨a, ns, rfl, _⟩ := h
    rfl
  · obtain ⟨a, ns, rfl, hS, hb, hl, q⟩ := h
    refine ⟨_, (pss_one (ps_ret (pe_callB (cr_sum (by rfl)) (by rfl) T.sum (by decide +kernel) (pa_cons (pe_lc (own := [("index", 1)]) (g := gName 1) (by rfl) sc_with_bits.nd (pi_list (pv 0)) (blkOk_by (own := [("index", 1)]) (N := ["indexes", "index"]) (sc := defScope s_with_bits) (by decide +kernel))
            (fun _ _ _ _ _ => (pg_name (i := 1) sc_with_bits.nd rfl (by first | exact .inl rfl | exact .inr rfl))) (fun _ _ _ _ _ => pts_nil) (fun _ _ _ _ _ => (pe_op op_oneShl pe_int (pv 1)))) pa_nil)))), ?_⟩
    refine ⟨_, rfl, a, rfl, ⟨_, hS⟩, fun D nD => ?_⟩
    refine lc_list (K := K) (a := a) (xs := natsV ns) (fun j H' => Same H H' ∧ H' D = some (.lst ((ns.take j).map fun n => V.int ((2 : Int) ^ n)))) ⟨same_new nD, upd_same⟩ (fun j H' _ h => hS.ext h.1) (fun j x H' hx h => ?_) (fun H' h => ?_)
    · obtain ⟨sm, hD⟩ := h
      unfold natsV at hx
      rw [List.getElem?_map] at hx
      cases hn : ns[j]? with
      | none => rw [hn] at hx; cases hx
      | some n =>
        rw [hn] at hx
        cases hx
        have hj : j < ns.length := (List.getElem?_eq_some_iff.mp hn).1
        refine ⟨rfl, ?_⟩
        refine ⟨_, rfl, n, rfl, rfl, by have := hb n (List.mem_of_getElem? hn); omega, _, hD, ?_, ?_, ?_⟩
        · rw [List.length_map, List.length_take, sizeLine_eq]; omega
        · intro c o hx
          rw [upd_ne (fun e => by rw [e, nD] at hx; cases hx)]
          exact sm _ _ hx
        · rw [upd_same, List.take_add_one, hn]
          simp
    · obtain ⟨sm, hD⟩ := h
      have el : (natsV ns).length = ns.length := by unfold natsV; rw [List.length_map]
      rw [el, List.take_length] at hD
      refine ⟨D, ns.map fun n => (2 : Int) ^ n, rfl, SqL.of (by rw [List.map_map]; exact hD), ?_⟩
      rw [sum_nat]
      exact q _ sm
theorem ok_with_bitsT {f : Addr} {fd : FuncData} (F : Fun K "with_bits" "with_bits" s_with_bits f fd) (T : Bt mg)  : FnOk P w K mg base CX0 1 f fd ["indexes"] (spWithT K) := by
  refine F.ok sc_with_bits (fun vs H Q E h => ?_) (fun cdv A outer s H vs Q E hr h => ?_)
  · obtain ⟨a, ns, rfl, _⟩ := h
    rfl
  · obtain ⟨a, ns, rfl, hS, hb, hl, q⟩ := h
    refine ⟨_, (pss_one (ps_ret (pe_callB (cr_sum (by rfl)) (by rfl) T.sum (by decide +kernel) (pa_cons (pe_lc (own := [("index", 1)]) (g := gName 1) (by rfl) sc_with_bits.nd (pi_tup (pv 0)) (blkOk_by (own := [("index", 1)]) (N := ["indexes", "index"]) (sc := defScope s_with_bits) (by decide +kernel))
            (fun _ _ _ _ _ => (pg_name (i := 1) sc_with_bits.nd rfl (by first | exact .inl rfl | exact .inr rfl))) (fun _ _ _ _ _ => pts_nil) (fun _ _ _ _ _ => (pe_op op_oneShl pe_int (pv 1)))) pa_nil)))), ?_⟩
    refine ⟨_, rfl, a, rfl, ⟨_, hS⟩, fun D nD => ?_⟩
    refine lc_tup (K := K) (a := a) (xs := natsV ns) (fun j H' => Same H H' ∧ H' D = some (.lst ((ns.take j).map fun n => V.int ((2 : Int) ^ n)))) ⟨same_new nD, upd_same⟩ (fun j H' _ h => hS.ext h.1) (fun j x H' hx h => ?_) (fun H' h => ?_)
    · obtain ⟨sm, hD⟩ := h
      unfold natsV at hx
      rw [List.getElem?_map] at hx
      cases hn : ns[j]? with
      | none => rw [hn] at hx; cases hx
      | some n =>
        rw [hn] at hx
        cases hx
        have hj : j < ns.length := (List.getElem?_eq_some_iff.mp hn).1
        refine ⟨rfl, ?_⟩
        refine ⟨_, rfl, n, rfl, rfl, by have := hb n (List.mem_of_getElem? hn); omega, _, hD, ?_, ?_, ?_⟩
        · rw [List.length_map, List.length_take, sizeLine_eq]; omega
        · intro c o hx
          rw [upd_ne (fun e => by rw [e, nD] at hx; cases hx)]
          exact sm _ _ hx
        · rw [upd_same, List.take_add_one, hn]
          simp
    · obtain ⟨sm, hD⟩ := h
      have el : (natsV ns).length = ns.length := by unfold natsV; rw [List.length_map]
      rw [el, List.take_length] at hD
      refine ⟨D, ns.map fun n => (2 : Int) ^ n, rfl, SqL.of (by rw [List.map_map]; exact hD), ?_⟩
      rw [sum_nat]
      exact q _ sm
theorem ok_with_bits {f : Addr} {fd : FuncData} (F : Fun K "with_bits" "with_bits" s_with_bits f fd) (T : Bt mg) : FnOk P w K mg base CX0 1 f fd ["indexes"] (spWithB K) := Sq.FnOk.either (ok_with_bitsL F T) (ok_with_bitsT F T)
abbrev s_least_bit : Stmt := top 3
theorem sc_least_bit : FnScope ["bits"] ["bits"] (defScope s_least_bit) := ⟨rfl, rfl, rfl, by decide +kernel, rfl, by decide +kernel, by decide +kernel⟩
theorem ok_least_bit {f : Addr} {fd : FuncData} (F : Fun K "least_bit" "least_bit" s_least_bit f fd) (T : Bt mg)  : FnOk P w K mg base CX0 1 f fd ["bits"] spLow := by
  refine F.ok sc_least_bit (fun vs H Q E h => ?_) (fun cdv A outer s H vs Q E hr h => ?_)
  · obtain ⟨j, a, rfl, _⟩ := h
    rfl
  · obtain ⟨j, a, rfl, q⟩ := h
    refine ⟨_, (pss_one (ps_ret (pe_op op_sub (pe_bits (pe_op op_and (pv 0) (pe_un un_neg (pv 0)))) pe_int))), ?_⟩
    refine ⟨_, rfl, _, rfl, _, rfl, _, _, rfl, rfl, _, rfl, _, _, rfl, rfl, ?_⟩
    rw [low_int, bits_pow]
    have e : (((j + 1 : Nat) : Int) - 1) = (j : Int) := by omega
    show Q (V.int (((j + 1 : Nat) : Int) - 1)) H
    rw [e]
    exact q
abbrev s_bits_in : Stmt := top 4
theorem sc_bits_in : FnScope ["bits", "found", "left"] ["bits"] (defScope s_bits_in) := ⟨rfl, rfl, rfl, by decide +kernel, rfl, by decide +kernel, by decide +kernel⟩
theorem ok_bits_in {f : Addr} {fd : FuncData} (F : Fun K "bits_in" "bits_in" s_bits_in f fd) (T : Bt mg) (G_least_bit : FB P w K mg base "least_bit" 1 ["bits"] spLow) : FnOk P w K mg base CX0 2 f fd ["bits"] spBitsIn := by
  refine F.ok sc_bits_in (fun vs H Q E h => ?_) (fun cdv A outer s H vs Q E hr h => ?_)
  · obtain ⟨b, rfl, _⟩ := h
    rfl
  · obtain ⟨b, rfl, hb, q⟩ := h
    refine ⟨_, (pss_cons (ps_set (i := 1) sc_bits_in.nd rfl (by first | exact .inl rfl | exact .inr rfl) (pe_lst pa_nil))
        (pss_cons (ps_set (i := 2) sc_bits_in.nd rfl (by first | exact .inl rfl | exact .inr rfl) (pv 0))
        (pss_cons (ps_while PassesOwn.never (pt_tru (pv 2))
        (pss_cons (ps_expr (pe_bm PySem.F.plainAttrs_list PySem.F.slot_list_append PySem.F.type_list_append mt_append (pv 1) (pa_cons (pe_fb G_least_bit hr (by decide) (by rfl) (pa_cons (pv 2) pa_nil)) pa_nil)))
        (pss_one (ps_set (i := 2) sc_bits_in.nd rfl (by first | exact .inl rfl | exact .inr rfl) (pe_op op_and (pv 2) (pe_op op_sub (pv 2) pe_int))))))
        (pss_one (ps_ret (pv 1)))))), ?_⟩
    refine ⟨Nat.zero_le _, fun D nD => ?_⟩
    refine ⟨_, rfl, ?_⟩
    refine while_by (fun σ H' => ∃ k, k ≤ 203 ∧ σ = [some (.int (b : Int)), some (.ref D), some (.int ((hiN b k : Nat) : Int))] ∧ Same H H' ∧ H' D = some (.lst (natsV ((List.range k).filter fun i => b.testBit i))))
      (fun σ H' => match σ with | [_, _, some (.int z)] => z.toNat | _ => 0) ?_ (fun σ H' h => ?_) (fun σ H' Q Q' m h => ?_)
    · exact ⟨0, Nat.zero_le _, by rw [hi_zero]; rfl, same_new nD, upd_same⟩
    · obtain ⟨k, hk, rfl, sm, hD⟩ := h
      refine ⟨_, rfl, ?_⟩
      by_cases hz : hiN b k = 0
      · rw [hz]
        refine ⟨false, rfl, ?_⟩
        refine ⟨_, rfl, q D H' nD ?_ sm⟩
        rw [hD]
        unfold bitsN
        rw [hi_end hb hz hk]
      · obtain ⟨j, a, h1, h2, h3, h4, h5⟩ := low_of hb hz
        have hne : ((hiN b k : Nat) : Int) ≠ 0 := by omega
        refine ⟨true, by show true = !(((hiN b k : Nat) : Int) == 0); rw [beq_eq_false_iff_ne.mpr hne]; rfl, ?_⟩
        refine iteT ?_
        refine ⟨_, rfl, .inl ⟨rfl, _, SqL.of hD⟩, _, rfl, j, a, by rw [h3]; rfl, ?_⟩
        refine ⟨D, _, _, rfl, rfl, hD, ?_, ?_⟩
        · unfold natsV
          rw [List.length_map]
          have := List.length_filter_le (fun i => b.testBit i) (List.range k)
          rw [List.length_range] at this
          rw [sizeLine_eq]
          omega
        have sm2 : Same H (upd H' D (.lst (natsV ((List.range k).filter fun i => b.testBit i) ++ [.int (j : Int)]))) := fun c o hc => by
          rw [upd_ne (fun e => by rw [e, nD] at hc; cases hc)]
          exact sm _ _ hc
        refine ⟨_, rfl, _, rfl, _, _, rfl, rfl, _, _, rfl, rfl, ?_⟩
        have e : Builtin.bitAnd ((hiN b k : Nat) : Int) (((hiN b k : Nat) : Int) - 1) = ((hiN b (j + 1) : Nat) : Int) := by
          rw [h3, pred_int, h4]
        have lt : hiN b (j + 1) < hiN b k := by
          rw [h3, h4]
          exact Nat.mul_lt_mul_of_pos_left (by omega) (Nat.two_pow_pos j)
        refine ⟨⟨j + 1, by omega, ?_, sm2, ?_⟩, ?_⟩
        · show [some (V.int (b : Int)), some (V.ref D), some (V.int (Builtin.bitAnd ((hiN b k : Nat) : Int) (((hiN b k : Nat) : Int) - 1)))] = _
          rw [e]
        · rw [upd_same, h5]
          unfold natsV
          rw [List.map_append]
          rfl
        · show (Builtin.bitAnd ((hiN b k : Nat) : Int) (((hiN b k : Nat) : Int) - 1)).toNat < (((hiN b k : Nat) : Int)).toNat
          rw [e]
          omega
    · obtain ⟨v, e1, b', e2, h⟩ := h
      exact ⟨v, e1, b', e2, m _ _ h⟩
abbrev s_tail_bits : Stmt := top 22
theorem sc_tail_bits : FnScope ["start"] ["start"] (defScope s_tail_bits) := ⟨rfl, rfl, rfl, by decide +kernel, rfl, by decide +kernel, by decide +kernel⟩
theorem ok_tail_bits {f : Addr} {fd : FuncData} (F : Fun K "tail_bits" "tail_bits" s_tail_bits f fd) (T : Bt mg) (G_with_bits : FB P w K mg base "with_bits" 1 ["indexes"] (spWithB K)) {uLE : Tok} (mLE : mg "LAST_EVEN" = some (.int 202 uLE)) : FnOk P w K mg base CX0 2 f fd ["start"] spTailB := by
  refine F.ok sc_tail_bits (fun vs H Q E h => ?_) (fun cdv A outer s H vs Q E hr h => ?_)
  · obtain ⟨s, rfl, _⟩ := h
    rfl
  · obtain ⟨s, rfl, hs, q⟩ := h
    refine ⟨_, (pss_one (ps_ret (pe_ifExp (pt_cmpR op_isN (pv 0) pe_non (nomark _)) pe_int (pe_fb G_with_bits hr (by decide) (by rfl) (pa_cons (pe_listRg3 (by rfl) (by rfl) T.list (by rfl) T.range (pa_cons (pv 0) (pa_cons (pe_op op_add (pe_glob (v := .int 202) (by rfl) mLE ⟨_, rfl⟩) pe_int) (pa_cons pe_int pa_nil)))) pa_nil))))), ?_⟩
    cases s with
    | none =>
      refine ⟨_, rfl, rfl, _, rfl, ?_⟩
      exact iteT (q _ (Same.refl _))
    | some s =>
      have h2 := hs s rfl
      refine ⟨_, rfl, rfl, _, rfl, ?_⟩
      refine iteF ?_
      obtain ⟨r1, r2⟩ := rg_ok s (by omega)
      refine ⟨_, rfl, _, _, rfl, rfl, (s : Int), 203, 2, (204 - s) / 2, rfl, ⟨by decide, by decide, r1, r2⟩, by omega, fun p np => ?_⟩
      have e : rgC (s : Int) 2 ((204 - s) / 2) = natsV ((List.range ((204 - s) / 2)).map fun k => s + k * 2) := by
        unfold rgC natsV
        rw [List.map_map]
        refine List.map_congr_left fun k _ => ?_
        show V.int _ = V.int _
        congr 1
      rw [e]
      have s1 := same_new (o := .lst (natsV ((List.range ((204 - s) / 2)).map fun k => s + k * 2))) np
      refine .inl ⟨p, (List.range ((204 - s) / 2)).map fun k => s + k * 2, rfl, SqL.of upd_same, fun n hn => ?_, ?_, fun H' sm => ?_⟩
      · obtain ⟨k, hk, rfl⟩ := List.mem_map.mp hn
        rw [List.mem_range] at hk
        omega
      · rw [List.length_map, List.length_range]
        omega
      · rw [sum_tail h2]
        exact q _ (s1.trans sm)
abbrev s_standing_for : Stmt := top 23
theorem sc_standing_for : FnScope ["size"] ["size"] (defScope s_standing_for) := ⟨rfl, rfl, rfl, by decide +kernel, rfl, by decide +kernel, by decide +kernel⟩
theorem ok_standing_for {f : Addr} {fd : FuncData} (F : Fun K "standing_for" "standing_for" s_standing_for f fd) (T : Bt mg) {uLE : Tok} (mLE : mg "LAST_EVEN" = some (.int 202 uLE)) : FnOk P w K mg base CX0 1 f fd ["size"] spStand := by
  refine F.ok sc_standing_for (fun vs H Q E h => ?_) (fun cdv A outer s H vs Q E hr h => ?_)
  · obtain ⟨n, rfl, _⟩ := h
    rfl
  · obtain ⟨n, rfl, q⟩ := h
    refine ⟨_, (pss_one (ps_ret (pe_ifExp (pt_cmpR op_le (pv 0) (pe_glob (v := .int 202) (by rfl) mLE ⟨_, rfl⟩) (nomark _)) (pv 0) (pe_op op_sub (pe_glob (v := .int 202) (by rfl) mLE ⟨_, rfl⟩) (pe_op op_mod (pv 0) pe_int))))), ?_⟩
    refine ⟨_, rfl, _, _, rfl, rfl, _, rfl, ?_⟩
    unfold stN at q
    by_cases h : n ≤ 202
    · rw [if_pos h] at q
      have e0 : decide ((n : Int) ≤ 202) = true := decide_eq_true (by omega)
      dsimp only
      rw [e0]
      exact iteT ⟨_, rfl, q⟩
    · rw [if_neg h] at q
      have e0 : decide ((n : Int) ≤ 202) = false := decide_eq_false (by omega)
      dsimp only
      rw [e0]
      refine iteF ?_
      refine ⟨_, rfl, _, _, rfl, rfl, (by show (0 : Int) < 2; decide), _, _, rfl, rfl, ?_⟩
      have e : (202 : Int) - (n : Int) % 2 = ((202 - n % 2 : Nat) : Int) := by omega
      show Q (V.int ((202 : Int) - (n : Int) % 2)) H
      rw [e]
      exact q
abbrev s_tail_start : Stmt := top 24
theorem sc_tail_start : FnScope ["bits", "last", "start"] ["bits", "last"] (defScope s_tail_start) := ⟨rfl, rfl, rfl, by decide +kernel, rfl, by decide +kernel, by decide +kernel⟩
theorem ok_tail_start {f : Addr} {fd : FuncData} (F : Fun K "tail_start" "tail_start" s_tail_start f fd) (T : Bt mg) (G_has_bit : FB P w K mg base "has_bit" 1 ["bits", "index"] spHas) : FnOk P w K mg base CX0 2 f fd ["bits", "last"] spStart := by
  refine F.ok sc_tail_start (fun vs H Q E h => ?_) (fun cdv A outer s H vs Q E hr h => ?_)
  · obtain ⟨b, l, rfl, _⟩ := h
    rfl
  · obtain ⟨b, l, rfl, hl, q⟩ := h
    refine ⟨_, (pss_cons (ps_if (pt_not (pt_val (pe_fb G_has_bit hr (by decide) (by rfl) (pa_cons (pv 0) (pa_cons (pv 1) pa_nil)))))
        (pss_one (ps_ret pe_non))
        pss_nil)
        (pss_cons (ps_set (i := 2) sc_tail_start.nd rfl (by first | exact .inl rfl | exact .inr rfl) (pv 1))
        (pss_cons (ps_while PassesOwn.never (PW.pt (pw_and (pt_cmpR op_gt (pv 2) pe_int (nomark _)) (pw_and1 (pt_val (pe_fb G_has_bit hr (by decide) (by rfl) (pa_cons (pv 0) (pa_cons (pe_op op_sub (pv 2) pe_int) pa_nil)))))))
        (pss_one (ps_aug (i := 2) sc_tail_start.nd rfl (by first | exact .inl rfl | exact .inr rfl) pe_int ip_sub)))
        (pss_one (ps_ret (pv 2)))))), ?_⟩
    refine ⟨_, rfl, _, rfl, b, l, rfl, ?_⟩
    by_cases hb : b.testBit l = true
    · refine ⟨_, rfl, ?_⟩
      rw [hb]
      have et : tailN b l = some (downN b l) := by unfold tailN; rw [if_pos hb]
      rw [et] at q
      refine ⟨_, rfl, ?_⟩
      refine while_by (fun σ H' => ∃ n, H' = H ∧ 1 ≤ n ∧ downN b l = downN b n ∧ σ = [some (.int (b : Int)), some (.int (l : Int)), some (.int (n : Int))])
        (fun σ H' => match σ with | [_, _, some (.int z)] => z.toNat | _ => 0) ⟨l, rfl, hl, rfl, rfl⟩ (fun σ H' h => ?_) (fun σ H' Q Q' m h => ?_)
      · obtain ⟨n, rfl, n1, en, rfl⟩ := h
        refine ⟨_, rfl, _, _, rfl, rfl, ?_⟩
        match n, n1, en with
        | 1, _, en =>
          refine ⟨_, rfl, ?_⟩
          rw [en] at q
          exact ⟨_, rfl, q⟩
        | 2, _, en =>
          refine ⟨_, rfl, ?_⟩
          rw [en] at q
          exact ⟨_, rfl, q⟩
        | n + 3, _, en =>
          have h2 : decide ((2 : Int) < ((n + 3 : Nat) : Int)) = true := decide_eq_true (by omega)
          refine ⟨true, congrArg V.bl h2, ?_⟩
          refine iteT ?_
          have e2 : (((n + 3 : Nat) : Int) - 2) = ((n + 1 : Nat) : Int) := by omega
          refine ⟨_, rfl, _, rfl, _, _, rfl, rfl, b, n + 1, congrArg (fun z => [V.int (b : Int), V.int z]) e2, ?_⟩
          refine ⟨_, rfl, ?_⟩
          by_cases hn : b.testBit (n + 1) = true
          · rw [hn]
            refine iteT ?_
            refine ⟨_, rfl, _, _, rfl, rfl, ⟨n + 1, rfl, by omega, ?_, ?_⟩, ?_⟩
            · rw [en, downN, if_pos hn]
            · show [some (V.int (b : Int)), some (V.int (l : Int)), some (V.int (((n + 3 : Nat) : Int) - 2))] = _
              rw [e2]
            · show (((n + 3 : Nat) : Int) - 2).toNat < (((n + 3 : Nat) : Int)).toNat
              omega
          · rw [show b.testBit (n + 1) = false by simpa using hn]
            refine iteF ?_
            rw [en, downN, if_neg hn] at q
            exact ⟨_, rfl, q⟩
      · obtain ⟨x, e1, i, j, e2, e3, c, ec, h⟩ := h
        refine ⟨x, e1, i, j, e2, e3, c, ec, ?_⟩
        cases c with
        | true =>
          obtain ⟨v0, f1, v2, f2, i2, j2, f3, f4, b2, k2, f5, b3, f6, h⟩ := h
          exact ⟨v0, f1, v2, f2, i2, j2, f3, f4, b2, k2, f5, b3, f6, m _ _ h⟩
        | false => exact m _ _ h
    · have hf : b.testBit l = false := by simpa using hb
      refine ⟨_, rfl, ?_⟩
      rw [hf]
      have et : tailN b l = none := by unfold tailN; rw [if_neg hb]
      rw [et] at q
      exact q
abbrev s_is_whole : Stmt := top 12
theorem sc_is_whole : FnScope ["value"] ["value"] (defScope s_is_whole) := ⟨rfl, rfl, rfl, by decide +kernel, rfl, by decide +kernel, by decide +kernel⟩
theorem ok_is_whole {f : Addr} {fd : FuncData} (F : Fun K "is_whole" "is_whole" s_is_whole f fd) (T : Bt mg)  : FnOk P w K mg base CX0 1 f fd ["value"] spWhole := by
  refine F.ok sc_is_whole (fun vs H Q E h => ?_) (fun cdv A outer s H vs Q E hr h => ?_)
  · obtain ⟨n, rfl, _⟩ := h
    rfl
  · obtain ⟨n, rfl, q⟩ := h
    refine ⟨_, (pss_one (ps_ret (pe_and (pe_callB call_isi (by rfl) T.isinstance (by decide +kernel) (pa_cons (pv 0) (pa_cons (pe_bltn (v := .ty "int") (by rfl) T.int (by decide +kernel) rfl) pa_nil)))
            (pe_and (pe_cmpR op_notTF (pv 0) pe_bl (nomark _))
            (pe_one (pe_cmpR op_notTF (pv 0) pe_bl (nomark _))))))), ?_⟩
    refine ⟨_, rfl, _, _, .type "int", _, true, rfl, .ty "int", .base (.int n), kit_ty (by decide +kernel), true, rfl, ?_⟩
    refine iteT ?_
    refine ⟨_, rfl, _, rfl, rfl, _, rfl, ?_⟩
    refine iteT ?_
    exact ⟨_, rfl, _, rfl, rfl, q⟩
abbrev s_is_within : Stmt := top 13
theorem sc_is_within : FnScope ["value", "least", "most"] ["value", "least", "most"] (defScope s_is_within) := ⟨rfl, rfl, rfl, by decide +kernel, rfl, by decide +kernel, by decide +kernel⟩
theorem ok_is_within {f : Addr} {fd : FuncData} (F : Fun K "is_within" "is_within" s_is_within f fd) (T : Bt mg) (G_is_whole : FB P w K mg base "is_whole" 1 ["value"] spWhole) : FnOk P w K mg base CX0 2 f fd ["value", "least", "most"] spWithin := by
  refine F.ok sc_is_within (fun vs H Q E h => ?_) (fun cdv A outer s H vs Q E hr h => ?_)
  · obtain ⟨n, a, b, rfl, _⟩ := h
    rfl
  · obtain ⟨n, a, b, rfl, q⟩ := h
    refine ⟨_, (pss_one (ps_ret (pe_and (pe_fb G_is_whole hr (by decide) (by rfl) (pa_cons (pv 0) pa_nil))
            (pe_one (pe_chain op_le op_le (pv 1) (pv 0) (pv 2)))))), ?_⟩
    refine ⟨_, rfl, n, rfl, true, rfl, ?_⟩
    refine iteT ?_
    refine ⟨_, rfl, _, rfl, _, _, rfl, rfl, _, rfl, ?_⟩
    by_cases h : a ≤ n
    · rw [decide_eq_true h] at q ⊢
      exact iteT ⟨_, rfl, _, _, rfl, rfl, q⟩
    · rw [decide_eq_false h] at q ⊢
      exact iteF q
abbrev s_check_tail : Stmt := top 20
theorem sc_check_tail : FnScope ["start", "parity"] ["start", "parity"] (defScope s_check_tail) := ⟨rfl, rfl, rfl, by decide +kernel, rfl, by decide +kernel, by decide +kernel⟩
theorem ok_check_tail {f : Addr} {fd : FuncData} (F : Fun K "check_tail" "check_tail" s_check_tail f fd) (T : Bt mg) (G_is_within : FB P w K mg base "is_within" 2 ["value", "least", "most"] spWithin) {uML : Tok} (mML : mg "MOST_LISTED" = some (.int 200 uML)) : FnOk P w K mg base CX0 3 f fd ["start", "parity"] spCheckT := by
  refine F.ok sc_check_tail (fun vs H Q E h => ?_) (fun cdv A outer s H vs Q E hr h => ?_)
  · obtain ⟨s, p, rfl, _⟩ := h
    rfl
  · obtain ⟨s, p, rfl, hs, q⟩ := h
    refine ⟨_, (pss_cons (ps_if (pt_cmpR op_isN (pv 0) pe_non (nomark _))
        (pss_one ps_retN)
        pss_nil)
        (pss_one (ps_if (PW.pt (pw_or (pt_not (pt_val (pe_fb G_is_within hr (by decide) (by rfl) (pa_cons (pv 0) (pa_cons pe_int (pa_cons (pe_glob (v := .int 200) (by rfl) mML ⟨_, rfl⟩) pa_nil)))))) (pw_or1 (pt_cmpR op_ne (pe_op op_mod (pv 0) pe_int) (pv 1) (nomark _)))))
        (pss_one ps_never)
        pss_nil))), ?_⟩
    cases s with
    | none =>
      refine ⟨_, rfl, rfl, _, rfl, ?_⟩
      exact iteT q
    | some s =>
      obtain ⟨h1, h2, h3⟩ := hs s rfl
      refine ⟨_, rfl, rfl, _, rfl, ?_⟩
      refine iteF ?_
      refine ⟨_, rfl, (s : Int), 1, 200, rfl, _, rfl, ?_⟩
      rw [show (decide ((1 : Int) ≤ (s : Int)) && decide ((s : Int) ≤ 200)) = true by simp; omega]
      refine iteF ?_
      refine ⟨_, rfl, _, _, rfl, rfl, (by show (0 : Int) < 2; decide), _, rfl, rfl, ?_⟩
      have ed : decide (V.int ((s : Int) % 2) = V.int (p : Int)) = true := decide_eq_true (by congr 1; omega)
      refine ⟨_, rfl, ?_⟩
      dsimp only
      rw [ed]
      exact iteF q
end
end Sq
namespace PySem
open Sem (wp)
open AutoSeq1 (wpAny_loadPart')
theorem sq_meets_enumerate_newT (l : Addr) (items : Array Value) (hd : Option Addr) (n : Nat) (sl : Array (Option Value)) :
    Meets (Builtin.«enumerate.__new__» ⟨[.type "enumerate", .ref l], []⟩) (fun _ R s => s.heap.get? l = some { cls := .type "tuple", dict := hd, data := .seq items n, slots := sl } ∧
      R (.ok (.ret (.ref (s.heap.push { cls := .type "tuple_iterator", data := .fields #[.ref l, .int 0 0] }).objs.size)))
        { s with heap := (s.heap.push { cls := .type "tuple_iterator", data := .fields #[.ref l, .int 0 0] }).push { cls := .type "enumerate", data := .fields #[.none, .bool false, .ref s.heap.objs.size, rawInt 0, .none, .none] } }) :=
  .of_wp fun prog w A R s h => by
    obtain ⟨hp, g, d, tk, os⟩ := s; obtain ⟨hl, h⟩ := h
    have hsub := sub_enumerate
    have hL : Heap.IsTuple (Shared.heap ⟨hp, g, d, tk, os⟩) l items := ⟨_, hl, rfl, n, rfl⟩
    wp_walk using wpAny_loadPart' hl
    refine wpAny_stack_any fun st => wpAny_pure ?_
    split
    · rename_i c _ _ _ _ _
      cases (c == Value.type "enumerate")
      · wp_walk using wpAny_loadPart' hl, wpAny_pyIter_tuple hL
        exact ⟨_, rfl, h⟩
      · wp_walk using wpAny_loadPart' hl, wpAny_pyIter_tuple hL
        exact ⟨_, rfl, h⟩
    · wp_walk using wpAny_loadPart' hl, wpAny_pyIter_tuple hL
      exact ⟨_, rfl, h⟩
section
variable {prog : Program} {w : World} {A : Around} {E : Value → Shared → Prop} {s : Shared}
theorem sq_call_enumerate_tuple {l : Addr} {items : Array Value} {Q : Value → Shared → Prop} (hL : s.heap.IsTuple l items)
    (h : ∀ h', IsEnum h' (s.heap.objs.size + 1) s.heap.objs.size 0 .none → h'.IsTupleIter s.heap.objs.size l 0 → h'.objs.size = s.heap.objs.size + 2 →
      (∀ b o, s.heap.get? b = some o → h'.get? b = some o) → Q (.ref (s.heap.objs.size + 1)) { s with heap := h' }) :
    wpAny (model prog w) A (call (.type "enumerate") [.ref l]) Q E s := by
  obtain ⟨⟨c, dct, dt, sl⟩, hl, hc, n, hd⟩ := hL
  replace hc : c = .type "tuple" := hc
  replace hd : dt = .seq items n := hd
  subst hc hd
  refine callType_new F.called_enumerate (by decide) (F.typeCall_enumerate_1 _) (F.newCall_enumerate_1 _) (fun obj => F.args_object_init_2 obj _) F.entry_enumerate_new
    (sq_meets_enumerate_newT l items dct n sl) ⟨hl, ?_⟩
  have hz : (s.heap.push { cls := .type "tuple_iterator", data := .fields #[.ref l, .int 0 0] }).objs.size = s.heap.objs.size + 1 := Heap.size_push ..
  show _ ∧ _
  rw [hz]
  have he : IsEnum ((s.heap.push { cls := .type "tuple_iterator", data := .fields #[.ref l, .int 0 0] }).push
      { cls := .type "enumerate", data := .fields #[.none, .bool false, .ref s.heap.objs.size, rawInt 0, .none, .none] }) (s.heap.objs.size + 1) s.heap.objs.size 0 .none := by
    have := Heap.get?_push_size (s.heap.push { cls := .type "tuple_iterator", data := .fields #[.ref l, .int 0 0] })
      (o := { cls := .type "enumerate", data := .fields #[.none, .bool false, .ref s.heap.objs.size, rawInt 0, .none, .none] }) rfl
    rw [hz] at this; exact this
  refine ⟨⟨_, he, rfl⟩, h _ he ⟨_, Heap.get?_push_of_some _ (Heap.get?_push_size _ rfl), rfl, rfl⟩ (by rw [Heap.size_push, hz]) fun b o x => Heap.get?_push_of_some _ (Heap.get?_push_of_some _ x)⟩
end
end PySem
namespace Sq
open PySem L2 PySem.Spec PyProof.Rows
/-- a tuple's items in new pairs with their places -/
def Itet (K : PySem.W.Frag) (a : Addr) : It :=
  ⟨fun i H => ∃ (xs : List V) (x : V), SqT K H a xs ∧ xs[i]? = some x, fun i H v H' => ∃ T x, v = .ref T ∧ H T = none ∧ H' = upd H T (.tup [.int (i : Nat), x]) ∧ ∀ xs, SqT K H a xs → xs[i]? = some x, fun i H => ∃ xs : List V, SqT K H a xs ∧ xs.length = i⟩
theorem turn_enumT {P : Program} {w : World} {K : PySem.W.Frag} {elts : List Expr} {kk : Nat} {tpos : Pos} (a e it : Addr) :
    Turn P w K (.Tuple elts kk tpos) (Itet K a) [e, it] e (fun i h => (∃ old, IsEnum h e it ((i : Nat) : Int) old) ∧ h.IsTupleIter it a i ∧ e ≠ it) where
  mem := by simp
  obj := fun i h st b hb => by
    obtain ⟨⟨old, he⟩, ⟨o, ho, hc, hd⟩, _⟩ := st
    have e' : b = e ∨ b = it := by simpa using hb
    rcases e' with z | z
    · rw [z]; exact ⟨_, he, fun v q => nomatch q⟩
    · rw [z]; exact ⟨o, ho, fun v q => by rw [hd] at q; cases q⟩
  keep := fun i h h' st k => let ⟨⟨old, he⟩, hi, hne⟩ := st; ⟨⟨old, k e (by simp) _ he⟩, hi.at fun o q => k it (by simp) o q, hne⟩
  item := by
    intro X hP hw hK hc i pins s σ H E I hf st hg
    subst hP hw hK
    obtain ⟨⟨old, he⟩, hit, hne⟩ := st
    obtain ⟨xs, x, hq, hx⟩ := hg
    obtain ⟨its, rv, p, hz⟩ := I.tuple hq
    obtain ⟨u, hu, ru⟩ := rv.get hx
    have hel : e < s.heap.objs.size := Heap.lt_size he
    have hil : it < s.heap.objs.size := by obtain ⟨_, q, _⟩ := hit; exact Heap.lt_size q
    have pT : s.heap.IsTuple a its.toArray := p
    have hai : a ≠ it := fun z => by
      obtain ⟨o, q, c, _⟩ := hit
      obtain ⟨o', q', c', _⟩ := pT
      rw [z, q] at q'
      cases q'
      rw [c] at c'
      exact absurd (Value.type.inj c') (by decide)
    have hae : a ≠ e := fun z => by
      obtain ⟨o', q', c', _⟩ := pT
      have he2 : s.heap.get? e = some _ := he
      rw [z, he2] at q'
      cases q'
      exact absurd (Value.type.inj c') (by decide)
    have hhd : X.A.in1.handled = none := I.ok.hd hc
    have hlt : i < its.toArray.size := by
      have := (List.getElem?_eq_some_iff.mp hu).1
      simpa using this
    refine wpAny_pyNext_enum_itemD (Draws.tuple hhd it a hai its.toArray) he ⟨hit, pT⟩ hlt hne (by simp [hne, Ne.symm hae]) fun y h' tk hy ho st' hT hsz hk => ?_
    have ey : y = u := by
      have hu2 : its.toArray[i]? = some u := by simpa using hu
      rw [hu2] at hy
      exact (Option.some.inj hy).symm
    subst ey
    have hit' := st'.1
    refine ⟨_, rfl, wpAny_letOwnedTupleGo_enum (s := { s with heap := h', toks := tk + 1 }) ho fun h'' he' sb => ?_⟩
    have hT2 : h''.get? s.heap.objs.size = some { cls := .type "tuple", data := .seq #[.int i tk, y] } := (sb.2 _ (Nat.ne_of_gt hel)).trans hT
    have new : ObjOk X.prog X.w (upd H s.heap.objs.size (.tup [.int (i : Nat), x])) h'' s.heap.objs.size (.tup [.int (i : Nat), x]) :=
      ⟨by show 2 ≤ sizeLine; decide, [.int i tk, y], .cons ⟨_, rfl⟩ (.cons ru .nil), ⟨_, hT2, rfl, _, rfl⟩⟩
    have I1 : Inv X pins σ (upd H s.heap.objs.size (.tup [.int (i : Nat), x])) { s with heap := h'', toks := tk + 1 } :=
      I.turnedNew (ch := [e, it]) (fun b ob hb q => (sb.2 b (fun z => hb (by simp [z]))).trans (hk b ob (fun z => hb (by simp [z])) (fun z => hb (by simp [z])) q)) hf (Nat.le_refl _) new
    refine ⟨.ref s.heap.objs.size, _, I1, rfl, ⟨_, x, rfl, I.hok.fresh (Nat.le_refl _), rfl, fun ys hy => by rw [I.tuple_inj hy hq]; exact hx⟩, ⟨⟨y, ?_⟩, hit'.at fun o q => (sb.2 it (Ne.symm hne)).trans q, hne⟩, fun b hb => ?_⟩
    · have e1 : ((i + 1 : Nat) : Int) = (i : Int) + 1 := by omega
      rw [e1]; exact he'
    · have hb' : b < s.heap.objs.size := by
        have e' : b = e ∨ b = it := by simpa using hb
        rcases e' with z | z
        · rw [z]; exact hel
        · rw [z]; exact hil
      rw [upd_ne (Nat.ne_of_lt hb')]
      exact (hf b hb).1
  done := by
    intro X hP hw hK hc i pins s σ H E I hf st hg
    subst hP hw hK
    obtain ⟨⟨old, he⟩, hit, hne⟩ := st
    obtain ⟨xs, hq, hx⟩ := hg
    obtain ⟨its, rv, p, hz⟩ := I.tuple hq
    obtain ⟨f0, f1, f2, f3, f4, f5⟩ := hf it (by simp)
    have hl := rv.length
    have pT : s.heap.IsTuple a its.toArray := p
    have hai : a ≠ it := fun z => by
      obtain ⟨o, q, c, _⟩ := hit
      obtain ⟨o', q', c', _⟩ := pT
      rw [z, q] at q'
      cases q'
      rw [c] at c'
      exact absurd (Value.type.inj c') (by decide)
    have hhd : X.A.in1.handled = none := I.ok.hd hc
    have en : its.toArray.size = i := by
      rw [List.size_toArray, ← hl, hx]
    refine wpAny_pyNext_enum_endD (Draws.tuple hhd it a hai its.toArray) he ⟨by rw [en]; exact hit, pT⟩ fun h' eb => ⟨rfl, I.turned (t' := s.toks) (fun b o hb q => eb b o hb q) f0 f1 f3 f4 f5⟩
  self := fun A i s Q E st h => let ⟨⟨_, he⟩, _⟩ := st; wpAny_pyIter_enum he h
def iEnumT (K : PySem.W.Frag) (ta : TA) : TI := fun σ H R => ta σ H fun vs H1 => ∃ a xs, vs = [.ref a] ∧ SqT K H1 a xs ∧ R (Itet K a) H1
theorem pi_enumT {X : Cx} {e : Expr} {ta : TA} {p pos tpos : Pos} {elts : List Expr} {kk : Nat} (hg : Gl X "enumerate") (hm : X.mg "enumerate" = none) (ha : PA X [e] ta) (hs : starEach [e] X.env = [(false, eval e X.env)] := by rfl) :
    PI X (.Tuple elts kk tpos) (.Call (.Name "enumerate" p) [e] [] pos) (iEnumT X.K ta) := by
  refine ⟨fun pins s σ H R I h => ?_⟩
  refine Call_ (ld_blt I hg hm boot_enumerate (PyProof.Rows.callWith_type1 (thn (ha.run pos pins s σ H _ I h) fun us s1 ⟨vs, H1, I1, r1, q1⟩ => ?_) hs rfl))
  obtain ⟨a, xs, ex, hq, q⟩ := q1
  subst ex
  cases r1 with
  | cons r rr =>
    cases rr
    cases r
    obtain ⟨its, rv, p', hz⟩ := I1.tuple hq
    refine sq_call_enumerate_tuple (show s1.heap.IsTuple a its.toArray from p') fun h' he hit hsz hk => wpAny_pyIter_enum he ?_
    have I2 : Inv X pins σ H1 { s1 with heap := h' } := I1.kept (t' := s1.toks) hk
    refine ⟨s1.heap.objs.size + 1, [s1.heap.objs.size + 1, s1.heap.objs.size], _, _, H1, rfl, I2, turn_enumT a (s1.heap.objs.size + 1) s1.heap.objs.size, ⟨⟨.none, he⟩, hit, Nat.succ_ne_self _⟩, fun b hb => ?_, q⟩
    have e' : b = s1.heap.objs.size + 1 ∨ b = s1.heap.objs.size := by simpa using hb
    have hle : s1.heap.objs.size ≤ b := by
      rcases e' with z | z
      · rw [z]; exact Nat.le_add_right _ _
      · rw [z]; exact Nat.le_refl _
    exact I1.fpOk hle (I1.hok.fresh hle)
theorem for_enumT {K : PySem.W.Frag} {a : Addr} {xs : List V} {g : TG} {tb : TS} {D : Ends} {σ : L2.St} {H : Hp} (Pv : Nat → L2.St → Hp → Prop) (h0 : Pv 0 σ H) (hl : ∀ i σ H, i ≤ xs.length → Pv i σ H → SqT K H a xs)
    (hs : ∀ i x σ H T, xs[i]? = some x → Pv i σ H → H T = none → g (.ref T) σ (upd H T (.tup [.int (i : Nat), x])) fun σ2 H2 => tb { D with nx := Pv (i + 1), ct := Pv (i + 1), bk := D.nx } σ2 H2) (hd : ∀ σ H, Pv xs.length σ H → D.nx σ H) :
    ∃ W : Nat → Nat → L2.St → Hp → Prop, (∃ m, W 0 m σ H) ∧ ∀ i m σ H, W i m σ H →
      ((Itet K a).stop i H ∧ D.nx σ H) ∨ ((Itet K a).go i H ∧ ∃ N : L2.St → Hp → Prop, (∀ σ' H', N σ' H' → ∃ m', m' < m ∧ W (i + 1) m' σ' H') ∧ ∀ x H', (Itet K a).yld i H x H' → g x σ H' fun σ2 H2 => tb { D with nx := N, ct := N, bk := D.nx } σ2 H2) := by
  refine ⟨fun i m σ H => m = xs.length - i ∧ i ≤ xs.length ∧ Pv i σ H, ⟨xs.length, by simp, Nat.zero_le _, h0⟩, ?_⟩
  rintro i m σ H ⟨rfl, hi, p⟩
  have q := hl i σ H hi p
  by_cases hlt : i < xs.length
  · have hx : xs[i]? = some xs[i] := List.getElem?_eq_getElem hlt
    refine .inr ⟨⟨xs, _, q, hx⟩, Pv (i + 1), fun σ' H' p' => ⟨xs.length - (i + 1), by omega, rfl, hlt, p'⟩, fun x H' y => ?_⟩
    obtain ⟨T, z, rfl, nT, rfl, hz⟩ := y
    exact hs i z σ H T (hz xs q) p nT
  · have e : i = xs.length := by omega
    subst e
    exact .inl ⟨⟨xs, q, rfl⟩, hd σ H p⟩
end Sq
namespace Sq
open PySem L2 TL
section
variable {P : Program} {w : World} {K : PySem.W.Frag} {mg : Str → Option Value} {base : Heap}
abbrev s_wrong_listed : Stmt := top 19
theorem sc_wrong_listed : FnScope ["listed", "before", "index", "size"] ["listed"] (defScope s_wrong_listed) := ⟨rfl, rfl, rfl, by decide +kernel, rfl, by decide +kernel, by decide +kernel⟩
theorem ok_wrong_listed {f : Addr} {fd : FuncData} (F : Fun K "wrong_listed" "wrong_listed" s_wrong_listed f fd) (T : Bt mg) (G_is_within : FB P w K mg base "is_within" 2 ["value", "least", "most"] spWithin) {uML : Tok} (mML : mg "MOST_LISTED" = some (.int 200 uML)) : FnOk P w K mg base CX0 3 f fd ["listed"] (spWrongL K) := by
  refine F.ok sc_wrong_listed (fun vs H Q E h => ?_) (fun cdv A outer s H vs Q E hr h => ?_)
  · obtain ⟨a, ns, rfl, _⟩ := h
    rfl
  · obtain ⟨a, ns, rfl, hS, hok, q⟩ := h
    refine ⟨_, (pss_cons (ps_set (i := 1) sc_wrong_listed.nd rfl (by first | exact .inl rfl | exact .inr rfl) pe_int)
        (pss_cons (ps_for PassesOwn.never rfl (pi_enumT (by rfl) T.enumerate (pa_cons (pv 0) pa_nil)) (pg_tup (by rfl) (pgs_cons (pg_name (i := 2) sc_wrong_listed.nd rfl (by first | exact .inl rfl | exact .inr rfl)) (pgs_cons (pg_name (i := 3) sc_wrong_listed.nd rfl (by first | exact .inl rfl | exact .inr rfl)) pgs_nil)))
        (pss_cons (ps_if (pt_not (pt_val (pe_fb G_is_within hr (by decide) (by rfl) (pa_cons (pv 3) (pa_cons (pe_op op_add (pv 1) pe_int) (pa_cons (pe_glob (v := .int 200) (by rfl) mML ⟨_, rfl⟩) pa_nil))))))
        (pss_one (ps_ret (pv 2)))
        pss_nil)
        (pss_one (ps_set (i := 1) sc_wrong_listed.nd rfl (by first | exact .inl rfl | exact .inr rfl) (pv 3)))))
        (pss_one (ps_ret pe_non)))), ?_⟩
    refine ⟨_, rfl, a, natsV ns, rfl, hS, ?_⟩
    refine for_enumT (K := K) (a := a) (xs := natsV ns) (fun i σ H' => ∃ (b : Nat) (v2 v3 : Option V), σ = [some (.ref a), some (.int (b : Int)), v2, v3] ∧ Same H H' ∧ ∀ j n, ns[j]? = some n → i ≤ j → b < n)
      ⟨0, none, none, rfl, Same.refl _, fun j n e _ => (hok.1 n (List.mem_of_getElem? e)).1⟩ (fun i σ H' _ h => ?_) (fun i x σ H' Tp hx h nT => ?_) (fun σ H' h => ?_)
    · obtain ⟨b, v2, v3, rfl, sm, _⟩ := h
      exact hS.ext sm
    · obtain ⟨b, v2, v3, rfl, sm, hb⟩ := h
      unfold natsV at hx
      rw [List.getElem?_map] at hx
      cases hn : ns[i]? with
      | none => rw [hn] at hx; cases hx
      | some n =>
        rw [hn] at hx
        cases hx
        have h1 := hok.1 n (List.mem_of_getElem? hn)
        have h2 := hb i n hn (Nat.le_refl _)
        have sm2 : Same H (upd H' Tp (.tup [.int (i : Nat), .int (n : Nat)])) := sm.trans (same_new nT)
        refine ⟨Tp, _, rfl, SqT.of upd_same, rfl, _, _, rfl, _, _, rfl, rfl, ?_⟩
        refine ⟨_, rfl, _, rfl, _, _, rfl, rfl, (n : Int), (b : Int) + 1, 200, rfl, ?_⟩
        refine ⟨_, rfl, ?_⟩
        rw [show (decide ((b : Int) + 1 ≤ (n : Int)) && decide ((n : Int) ≤ 200)) = true by simp; omega]
        refine iteF ?_
        refine ⟨_, rfl, n, _, _, rfl, sm2, fun j m e hj => ?_⟩
        have hi : i < ns.length := (List.getElem?_eq_some_iff.mp hn).1
        have hj' : j < ns.length := (List.getElem?_eq_some_iff.mp e).1
        have pw := List.pairwise_iff_getElem.mp hok.2 i j hi hj' (by omega)
        have e1 : ns[i] = n := (List.getElem?_eq_some_iff.mp hn).2
        have e2 : ns[j] = m := (List.getElem?_eq_some_iff.mp e).2
        rw [e1, e2] at pw
        exact pw
    · obtain ⟨b, v2, v3, rfl, sm, _⟩ := h
      exact q _ sm
end
end Sq
namespace Sq
open PySem L2 PySem.Spec PyProof.Rows
def madeN (ns : List Nat) (e o : Option Nat) : Nat := sumP ns ||| tailO e ||| tailO o
theorem tailO_bit {s : Option Nat} {p i : Nat} (h : TlOk p s) (hi : i < 203) : (tailO s).testBit i = (inTail s i && decide (i % 2 = p)) := by
  cases s with
  | none => simp [tailO, inTail]
  | some s =>
    obtain ⟨h1, h2, h3⟩ := h s rfl
    show (tailB s).testBit i = _
    rw [tail_bit, h3]
    simp [inTail, hi]
theorem made_bit {ns : List Nat} {e o : Option Nat} (h : LsOk ns) (he : TlOk 0 e) (ho : TlOk 1 o) {i : Nat} (hi : i < 203) :
    (madeN ns e o).testBit i = (decide (i ∈ ns) || inTail (if i % 2 = 0 then e else o) i) := by
  unfold madeN
  rw [Nat.testBit_or, Nat.testBit_or, sumP_bit h.2, tailO_bit he hi, tailO_bit ho hi]
  by_cases h2 : i % 2 = 0
  · simp [h2]
  · have : i % 2 = 1 := by omega
    simp [this]
theorem st_lt {n : Nat} (h : n ≤ 204) : stN n < 203 ∧ stN n % 2 = n % 2 ∧ (n ≤ 200 → stN n = n) ∧ (200 < n → 200 < stN n) := by
  unfold stN
  split <;> omega
theorem in_tail_st {p : Nat} {s : Option Nat} (h : TlOk p s) {n : Nat} (hn : n ≤ 204) : inTail s (stN n) = inTail s n := by
  obtain ⟨h1, h2, h3, h4⟩ := st_lt hn
  cases s with
  | none => rfl
  | some m =>
    have hm := h m rfl
    show decide (m ≤ stN n) = decide (m ≤ n)
    by_cases hl : n ≤ 200
    · rw [h3 hl]
    · have a1 : m ≤ stN n := by have := h4 (by omega); omega
      have a2 : m ≤ n := by omega
      rw [decide_eq_true a1, decide_eq_true a2]
theorem has_made {ns : List Nat} {e o : Option Nat} (h : LsOk ns) (he : TlOk 0 e) (ho : TlOk 1 o) {n : Nat} (hn : n ≤ 204) :
    hasN (madeN ns e o) n = (decide (n ∈ ns) || inTail (if n % 2 = 0 then e else o) n) := by
  obtain ⟨h1, h2, h3, h4⟩ := st_lt hn
  unfold hasN
  rw [made_bit h he ho h1, h2]
  have e1 : decide (stN n ∈ ns) = decide (n ∈ ns) := by
    by_cases hl : n ≤ 200
    · rw [h3 hl]
    · have a1 : ¬ stN n ∈ ns := fun z => by have := h.1 _ z; have := h4 (by omega); omega
      have a2 : ¬ n ∈ ns := fun z => by have := h.1 _ z; omega
      rw [decide_eq_false a1, decide_eq_false a2]
  rw [e1]
  congr 1
  split
  · exact in_tail_st he hn
  · exact in_tail_st ho hn
theorem made_sb {ns : List Nat} {e o : Option Nat} (h : LsOk ns) (he : TlOk 0 e) (ho : TlOk 1 o) : SB (madeN ns e o) := by
  refine ⟨lt_of_bits fun i hi => ?_, ?_⟩
  · unfold madeN
    rw [Nat.testBit_or, Nat.testBit_or, sumP_bit h.2, tailO_lt _ _ hi, tailO_lt _ _ hi]
    have : ¬ i ∈ ns := fun z => by have := h.1 _ z; omega
    simp [this]
  · rw [made_bit h he ho (by decide)]
    have a : ¬ 0 ∈ ns := fun z => by have := h.1 _ z; omega
    have b : inTail e 0 = false := by
      cases e with
      | none => rfl
      | some m =>
        have := he m rfl
        exact decide_eq_false (by omega)
    simp [a, b]
/-- what the law writes of a set: whether each size to 204 is in it -/
def truthsB (b : Nat) : List Bool := (List.range' 1 204).map (hasN b)
def truthsV (b : Nat) : List V := (truthsB b).map V.bl
theorem truths_len (b : Nat) : (truthsB b).length = 204 := by unfold truthsB; rw [List.length_map, List.length_range']
theorem truths_at {b k : Nat} (h : k < 204) : (truthsB b)[k]? = some (hasN b (k + 1)) := by
  unfold truthsB
  rw [List.getElem?_map, List.getElem?_range' (by omega)]
  simp [Nat.add_comm]
theorem bits_eq {b c : Nat} (hb : SB b) (hc : SB c) (h : ∀ n, 1 ≤ n → n ≤ 202 → hasN b n = hasN c n) : b = c := by
  apply Nat.eq_of_testBit_eq
  intro i
  by_cases h0 : i = 0
  · subst h0; rw [hb.2, hc.2]
  · by_cases h1 : i < 203
    · have := h i (by omega) (by omega)
      rw [has_lo (by omega), has_lo (by omega)] at this
      exact this
    · rw [Nat.testBit_lt_two_pow (Nat.lt_of_lt_of_le hb.1 (Nat.pow_le_pow_right (by decide) (by omega))), Nat.testBit_lt_two_pow (Nat.lt_of_lt_of_le hc.1 (Nat.pow_le_pow_right (by decide) (by omega)))]
theorem truths_eq {b c : Nat} (hb : SB b) (hc : SB c) (h : truthsB b = truthsB c) : b = c := by
  refine bits_eq hb hc fun n h1 h2 => ?_
  have a := @truths_at b (n - 1) (by omega)
  have a2 := @truths_at c (n - 1) (by omega)
  rw [h, a2] at a
  rw [show n - 1 + 1 = n by omega] at a
  exact (Option.some.inj a).symm
theorem zero_of {b : Nat} (hb : SB b) (h : ∀ n, 1 ≤ n → n ≤ 202 → hasN b n = false) : b = 0 :=
  bits_eq hb ⟨by decide, by simp⟩ fun n h1 h2 => by rw [h n h1 h2]; simp [hasN]
/-- the operators on what the law writes -/
theorem has_and (a b n : Nat) : hasN (a &&& b) n = (hasN a n && hasN b n) := Nat.testBit_and ..
theorem has_or (a b n : Nat) : hasN (a ||| b) n = (hasN a n || hasN b n) := Nat.testBit_or ..
theorem has_diff (a b n : Nat) : hasN (diffN a b) n = (hasN a n && !hasN b n) := diff_bit ..
theorem sb_and {a b : Nat} (ha : SB a) : SB (a &&& b) := ⟨Nat.lt_of_le_of_lt Nat.and_le_left ha.1, by rw [Nat.testBit_and, ha.2]; rfl⟩
theorem sb_or {a b : Nat} (ha : SB a) (hb : SB b) : SB (a ||| b) := ⟨Nat.or_lt_two_pow ha.1 hb.1, by rw [Nat.testBit_or, ha.2, hb.2]; rfl⟩
theorem sb_diff {a b : Nat} (ha : SB a) : SB (diffN a b) := ⟨Nat.lt_of_le_of_lt (Nat.sub_le ..) ha.1, by rw [diff_bit, ha.2]; rfl⟩
def allN : Nat := tailB 1 ||| tailB 2
def notN (b : Nat) : Nat := diffN allN b
theorem all_sb : SB allN := ⟨lt_of_bits fun i hi => by unfold allN; rw [Nat.testBit_or, tail_bit, tail_bit]; simp; omega, by unfold allN; rw [Nat.testBit_or, tail_bit, tail_bit]; decide⟩
theorem all_has {n : Nat} (h1 : 1 ≤ n) (h2 : n ≤ 204) : hasN allN n = true := by
  obtain ⟨a1, a2, a3, a4⟩ := st_lt h2
  have a5 : 1 ≤ stN n := by
    by_cases h : n ≤ 200
    · rw [a3 h]; exact h1
    · have := a4 (by omega); omega
  unfold hasN allN
  rw [Nat.testBit_or, tail_bit, tail_bit]
  simp
  omega
theorem has_not {b n : Nat} (h1 : 1 ≤ n) (h2 : n ≤ 204) : hasN (notN b) n = !hasN b n := by
  unfold notN
  rw [has_diff, all_has h1 h2]
  simp
theorem sb_not {b : Nat} : SB (notN b) := sb_diff all_sb
/-- x in numbers, x in truths -/
theorem in_nats (n : Nat) : ∀ ns : List Nat, inV (.int (n : Int)) (natsV ns) = decide (n ∈ ns) := by
  intro ns
  induction ns with
  | nil => rfl
  | cons m ns ih =>
    show (((m : Int) == (n : Int)) || inV (.int (n : Int)) (natsV ns)) = _
    rw [ih]
    by_cases h : m = n
    · subst h; simp
    · have h2 : ¬ n = m := fun e => h e.symm
      have h3 : ((m : Int) == (n : Int)) = false := by rw [beq_eq_false_iff_ne]; omega
      rw [h3]
      simp [h2]
theorem in_bools : ∀ bs : List Bool, inV (.bl true) (bs.map V.bl) = bs.any id := by
  intro bs
  induction bs with
  | nil => rfl
  | cons m ns ih =>
    show ((m == true) || inV (.bl true) (ns.map V.bl)) = _
    rw [ih, List.any_cons]
    cases m <;> rfl
end Sq
namespace Sq
open PySem L2 TL
section
variable {P : Program} {w : World} {K : PySem.W.Frag} {mg : Str → Option Value} {base : Heap}
variable {C : Addr}
/-- the class Sizes as it stands in the text -/
structure Zc (K : PySem.W.Frag) (C : Addr) : Prop where
  cl : Cls K C
  nB : NoAttr K C "_bits"
def zfl (b : Nat) : List (Str × V) := putF "_bits" (.int (b : Nat)) []
theorem zfl_b (b : Nat) : (zfl b).lookup ("_bits" : Str) = some (.int (b : Nat)) := by
  unfold zfl
  rw [lookup_putF]
  rfl
/-- a set of sizes stands at a -/
def SetAt (C : Addr) (H : Hp) (a : Addr) (b : Nat) : Prop := ∃ dx, H a = some (.ins C dx (zfl b))
theorem SetAt.ext {C : Addr} {H H' : Hp} {a : Addr} {b : Nat} (e : Same H H') (h : SetAt C H a b) : SetAt C H' a b := by
  obtain ⟨dx, h⟩ := h
  exact ⟨dx, e _ _ h⟩
def spZInit (K : PySem.W.Frag) (C : Addr) : Sp := fun vs H Q _ => ∃ (a dx t : Addr) (ns : List Nat) (e o : Option Nat), vs = [.ref a, .ref t, natO e, natO o] ∧ H a = some (.ins C dx []) ∧ SqT K H t (natsV ns) ∧ LsOk ns ∧ TlOk 0 e ∧ TlOk 1 o ∧
  ∀ H', Same H H' → Q .non (upd H' a (.ins C dx (zfl (madeN ns e o))))
theorem ls_len {ns : List Nat} (h : LsOk ns) : ns.length ≤ 200 := by
  have g : ∀ (l : List Nat) (lo : Nat), l.Pairwise (· < ·) → (∀ n ∈ l, lo ≤ n ∧ n ≤ 200) → l.length + lo ≤ 201 ∨ l = [] := by
    intro l
    induction l with
    | nil => intro lo _ _; exact .inr rfl
    | cons x l ih =>
      intro lo hp hb
      rw [List.pairwise_cons] at hp
      have hx := hb x (List.mem_cons_self ..)
      have := ih (x + 1) hp.2 (fun n hn => ⟨hp.1 n hn, (hb n (List.mem_cons_of_mem _ hn)).2⟩)
      rcases this with z | z
      · left; rw [List.length_cons]; omega
      · left; subst z; simp; omega
  rcases g ns 1 h.2 h.1 with z | z
  · omega
  · rw [z]; simp
theorem ty_tup {K : PySem.W.Frag} {H : Hp} {a : Addr} {xs : List V} (h : SqT K H a xs) : TyX K H (.ref a) (.type "tuple") := by
  rcases h with (h | ⟨o, h⟩) | h
  · exact .base (.tup h)
  · exact .fTuple h
  · obtain ⟨o, its, n, lk, c, _⟩ := h
    exact .kTuple lk c
theorem vals_rev : ∀ {zs : List V} {ws : List Value}, Vals zs ws → Vals zs.reverse ws.reverse
  | _, _, .nil => .nil
  | _, _, .cons h r => by
    rw [List.reverse_cons, List.reverse_cons]
    exact (vals_rev r).append (.cons h .nil)
abbrev s_Z0 : Stmt := inClass (top 18) 0
theorem sc_Z0 : FnScope ["self", "listed", "even", "odd", "index"] ["self", "listed", "even", "odd"] (defScope s_Z0) := ⟨rfl, rfl, rfl, by decide +kernel, rfl, by decide +kernel, by decide +kernel⟩
abbrev kwZ : List (Str × V) := [("even", .non), ("odd", .non)]
abbrev psZ : List Str := ["self", "listed", "even", "odd"]
abbrev FunZ (K : PySem.W.Frag) (tE f : Addr) (fd : FuncData) : Prop := FunD K "__init__" "Sizes.__init__" (defArgs s_Z0) (defBody s_Z0) (defScope s_Z0) [V.ref tE] kwZ f fd
/-- Sizes() -/
theorem bz1 {tE f : Addr} {fd : FuncData} (F : FunZ K tE f fd) : ∃ ds, Vals [V.ref tE, .non, .non] ds ∧ Binds K fd psZ ds :=
  FunD.binds F 1 0 (by simp) rfl (fun Tp D doc pm an cdv ct us its ks h1 h2 h3 => match us, its, ks, h1, h2, h3 with | [u], [t], [a, b], _, _, _ => ⟨_, rfl, ⟨_, _, _, _, _, _, rfl, rfl, ⟨_, _, _, _, _, _, rfl, rfl, rfl⟩⟩⟩) (by simp)
/-- Sizes(t) -/
theorem bz2 {tE f : Addr} {fd : FuncData} (F : FunZ K tE f fd) : ∃ ds, Vals [V.non, .non] ds ∧ Binds K fd psZ ds :=
  FunD.binds F 2 1 (by simp) rfl (fun Tp D doc pm an cdv ct us its ks h1 h2 h3 => match us, its, ks, h1, h2, h3 with | [u, u2], [t], [a, b], _, _, _ => ⟨_, rfl, ⟨_, _, _, _, _, _, rfl, rfl, ⟨_, _, _, _, _, _, rfl, rfl, rfl⟩⟩⟩) (by simp)
/-- Sizes(t, odd = x) -/
theorem bzO {tE f : Addr} {fd : FuncData} (F : FunZ K tE f fd) : ∃ its mv : List Value, KBn K fd psZ 2 ["odd"] (fun us ws => us ++ mv ++ ws) (fun vs zs => vs ++ [V.non] ++ zs) :=
  FunD.kbinds F 2 ["odd"] [("even", .non)] (fun us its mv ws => us ++ mv ++ ws) (by simp) (by simp) (by simp) (fun r1 r2 r3 r4 => (r1.append r3).append r4)
    (fun Tp D doc pm an cdv ct us its mv ws h1 h2 h3 h4 => match us, its, mv, ws, h1, h2, h3, h4 with | [u, u2], [t], [a], [b], _, _, _, _ => ⟨_, rfl, ⟨_, _, _, _, _, _, rfl, rfl, rfl⟩⟩)
/-- Sizes(t, even = x) -/
theorem bzE {tE f : Addr} {fd : FuncData} (F : FunZ K tE f fd) : ∃ its mv : List Value, KBn K fd psZ 2 ["even"] (fun us ws => us ++ ws ++ mv) (fun vs zs => vs ++ zs ++ [V.non]) :=
  FunD.kbinds F 2 ["even"] [("odd", .non)] (fun us its mv ws => us ++ ws ++ mv) (by simp) (by simp) (by simp) (fun r1 r2 r3 r4 => (r1.append r4).append r3)
    (fun Tp D doc pm an cdv ct us its mv ws h1 h2 h3 h4 => match us, its, mv, ws, h1, h2, h3, h4 with | [u, u2], [t], [a], [b], _, _, _, _ => ⟨_, rfl, ⟨_, _, _, _, _, _, rfl, rfl, rfl⟩⟩)
/-- Sizes(t, odd = x, even = y) -/
theorem bzB {tE f : Addr} {fd : FuncData} (F : FunZ K tE f fd) : ∃ its mv : List Value, KBn K fd psZ 2 ["odd", "even"] (fun us ws => us ++ ws.reverse) (fun vs zs => vs ++ zs.reverse) :=
  FunD.kbinds F 2 ["odd", "even"] [] (fun us its mv ws => us ++ ws.reverse) (by simp) (by simp) (by simp) (fun r1 r2 r3 r4 => r1.append (vals_rev r4))
    (fun Tp D doc pm an cdv ct us its mv ws h1 h2 h3 h4 => match us, its, mv, ws, h1, h2, h3, h4 with | [u, u2], [t], [], [b, c], _, _, _, _ => ⟨_, rfl, rfl⟩)
theorem ok_Z0 {tE f : Addr} {fd : FuncData} (F : FunZ K tE f fd) (N : Zc K C) (T : Bt mg) (G_wrong_listed : FB P w K mg base "wrong_listed" 3 ["listed"] (spWrongL K)) (G_check_tail : FB P w K mg base "check_tail" 3 ["start", "parity"] spCheckT) (G_with_bits : FB P w K mg base "with_bits" 1 ["indexes"] (spWithB K)) (G_tail_bits : FB P w K mg base "tail_bits" 2 ["start"] spTailB) : FnOk P w K mg base CX0 4 f fd psZ (spZInit K C) := by
  refine FunD.ok F sc_Z0 (fun vs H Q E h => ?_) (fun cdv A outer s H vs Q E hr h => ?_)
  · obtain ⟨a, dx, t, ns, e, o, rfl, _⟩ := h
    rfl
  · obtain ⟨a, dx, t, ns, e, o, rfl, ha, ht, hl, he, ho, q⟩ := h
    refine ⟨_, (pss_cons (ps_if (pt_not (pt_val (pe_callB call_isi (by rfl) T.isinstance (by decide +kernel) (pa_cons (pv 1) (pa_cons (pe_bltn (v := .ty "tuple") (by rfl) T.tuple (by decide +kernel) rfl) pa_nil)))))
        (pss_one ps_never)
        pss_nil)
        (pss_cons (ps_set (i := 4) sc_Z0.nd rfl (by first | exact .inl rfl | exact .inr rfl) (pe_fb G_wrong_listed hr (by decide) (by rfl) (pa_cons (pv 1) pa_nil)))
        (pss_cons (ps_if (pt_cmpR op_notN (pv 4) pe_non (nomark _))
        (pss_one ps_never)
        pss_nil)
        (pss_cons (ps_expr (pe_fb G_check_tail hr (by decide) (by rfl) (pa_cons (pv 2) (pa_cons pe_int pa_nil))))
        (pss_cons (ps_expr (pe_fb G_check_tail hr (by decide) (by rfl) (pa_cons (pv 3) (pa_cons pe_int pa_nil))))
        (pss_one (ps_fld (pv 0) (pe_op op_or (pe_op op_or (pe_fb G_with_bits hr (by decide) (by rfl) (pa_cons (pv 1) pa_nil)) (pe_fb G_tail_bits hr (by decide) (by rfl) (pa_cons (pv 2) pa_nil))) (pe_fb G_tail_bits hr (by decide) (by rfl) (pa_cons (pv 3) pa_nil))) rfl))))))), ?_⟩
    refine ⟨_, rfl, _, _, .type "tuple", _, true, rfl, .ty "tuple", ty_tup ht, kit_ty (by decide +kernel), true, rfl, ?_⟩
    refine iteF ?_
    refine ⟨_, rfl, t, ns, rfl, ht, hl, fun H1 s1 => ?_⟩
    refine ⟨_, rfl, rfl, _, rfl, ?_⟩
    refine iteF ?_
    refine ⟨_, rfl, e, 0, rfl, he, ?_⟩
    refine ⟨_, rfl, o, 1, rfl, ho, ?_⟩
    have b2 : ∀ p s, TlOk p s → ∀ n, s = some n → n ≤ 202 := fun p s h n e => by have := h n e; omega
    refine ⟨_, rfl, .inr ⟨t, ns, rfl, ht.ext s1, fun n hn => by have := hl.1 n hn; omega, by have := ls_len hl; omega, fun H2 s2 => ?_⟩⟩
    refine ⟨_, rfl, e, rfl, b2 _ _ he, fun H3 s3 => ?_⟩
    refine ⟨_, _, rfl, rfl, ?_⟩
    refine ⟨_, rfl, o, rfl, b2 _ _ ho, fun H4 s4 => ?_⟩
    refine ⟨_, _, rfl, rfl, ?_⟩
    have sm := ((s1.trans s2).trans s3).trans s4
    have eb : V.int (Builtin.bitOr (Builtin.bitOr ((sumP ns : Nat) : Int) ((tailO e : Nat) : Int)) ((tailO o : Nat) : Int)) = V.int ((madeN ns e o : Nat) : Int) := by
      rw [or_nat, or_nat]
      rfl
    refine ⟨_, rfl, a, C, dx, [], rfl, sm _ _ ha, N.cl, N.nB, by decide, ?_⟩
    have z := q _ sm
    unfold zfl at z
    rw [← eb] at z
    exact z
def spEven (C : Addr) : Sp := fun vs H Q _ => ∃ (a : Addr) (b : Nat), vs = [.ref a] ∧ SetAt C H a b ∧ 1 ≤ b + 1 ∧ Q (natO (tailN b 202)) H
def spOdd (C : Addr) : Sp := fun vs H Q _ => ∃ (a : Addr) (b : Nat), vs = [.ref a] ∧ SetAt C H a b ∧ 1 ≤ b + 1 ∧ Q (natO (tailN b 201)) H
def spZLeast (C : Addr) : Sp := fun vs H Q _ => ∃ (a : Addr) (b : Nat), vs = [.ref a] ∧ SetAt C H a b ∧ b < 2 ^ 203 ∧ Q (natO (leastS b)) H
def spZBool (C : Addr) : Sp := fun vs H Q _ => ∃ (a : Addr) (b : Nat), vs = [.ref a] ∧ SetAt C H a b ∧ Q (.bl (b != 0)) H
def spZEq (C : Addr) : Sp := fun vs H Q _ => ∃ (a a2 : Addr) (b b2 : Nat), vs = [.ref a, .ref a2] ∧ SetAt C H a b ∧ SetAt C H a2 b2 ∧ Q (.bl (decide (b = b2))) H
def spWithin2 (C : Addr) : Sp := fun vs H Q _ => ∃ (a a2 : Addr) (b b2 : Nat), vs = [.ref a, .ref a2] ∧ SetAt C H a b ∧ SetAt C H a2 b2 ∧ Q (.bl (decide (diffN b b2 = 0))) H
theorem least_low {b : Nat} (hb : b < 2 ^ 203) (h : b ≠ 0) : ∃ j a, b = 2 ^ j * (2 * a + 1) ∧ leastS b = some j := by
  obtain ⟨j, a, _, hj, e, _, f⟩ := low_of (k := 0) hb (by rw [hi_zero]; exact h)
  rw [hi_zero] at e
  refine ⟨j, a, e, ?_⟩
  unfold leastS
  have er : List.range 203 = List.range (j + 1) ++ (List.range (203 - (j + 1))).map (j + 1 + ·) := by
    rw [← List.range_add]
    congr 1
    omega
  rw [er, List.filter_append, f]
  simp
theorem least_zero : leastS 0 = none := by
  unfold leastS
  rw [List.filter_eq_nil_iff.mpr (by intro i _; simp)]
  rfl
/-- what isinstance asks of an instance's class -/
structure Isn (K : PySem.W.Frag) (C : Addr) : Prop where
  c1 : PySem.W.findIn K (.ref C) "__class__" = some (some (.builtin "object.__class__"))
  c2 : PySem.W.specialIn K (.builtin "object.__class__") "__get__" = some (some (.builtin "getset_descriptor.__get__"))
  c3 : PySem.W.takesIn K (.builtin "object.__class__") = some true
  c4 : PySem.W.mroIn K C (.type "object") = some true
theorem kit_self (K : PySem.W.Frag) (C : Addr) : PySem.W.kitOne K (.ref C) (.ref C) = some true := by
  unfold PySem.W.kitOne
  rw [if_pos (by simp)]
abbrev s_Z1 : Stmt := inClass (top 18) 1
theorem sc_Z1 : FnScope ["self"] ["self"] (defScope s_Z1) := ⟨rfl, rfl, rfl, by decide +kernel, rfl, by decide +kernel, by decide +kernel⟩
theorem ok_Z1 {f : Addr} {fd : FuncData} (F : Fun K "even" "Sizes.even" s_Z1 f fd) (N : Zc K C) (T : Bt mg) (G_tail_start : FB P w K mg base "tail_start" 2 ["bits", "last"] spStart) {uLE : Tok} (mLE : mg "LAST_EVEN" = some (.int 202 uLE)) : FnOk P w K mg base CX0 3 f fd ["self"] (spEven C) := by
  refine F.ok sc_Z1 (fun vs H Q E h => ?_) (fun cdv A outer s H vs Q E hr h => ?_)
  · obtain ⟨a, b, rfl, _⟩ := h
    rfl
  · obtain ⟨a, b, rfl, ⟨dx, ha⟩, _, q⟩ := h
    refine ⟨_, (pss_one (ps_ret (pe_fb G_tail_start hr (by decide) (by rfl) (pa_cons (pe_fld (pv 0) rfl) (pa_cons (pe_glob (v := .int 202) (by rfl) mLE ⟨_, rfl⟩) pa_nil))))), ?_⟩
    refine ⟨_, rfl, a, C, dx, _, _, rfl, ha, N.cl, N.nB, zfl_b b, ?_⟩
    exact ⟨b, 202, rfl, by decide, q⟩
abbrev s_Z2 : Stmt := inClass (top 18) 2
theorem sc_Z2 : FnScope ["self"] ["self"] (defScope s_Z2) := ⟨rfl, rfl, rfl, by decide +kernel, rfl, by decide +kernel, by decide +kernel⟩
theorem ok_Z2 {f : Addr} {fd : FuncData} (F : Fun K "odd" "Sizes.odd" s_Z2 f fd) (N : Zc K C) (T : Bt mg) (G_tail_start : FB P w K mg base "tail_start" 2 ["bits", "last"] spStart) {uLO : Tok} (mLO : mg "LAST_ODD" = some (.int 201 uLO)) : FnOk P w K mg base CX0 3 f fd ["self"] (spOdd C) := by
  refine F.ok sc_Z2 (fun vs H Q E h => ?_) (fun cdv A outer s H vs Q E hr h => ?_)
  · obtain ⟨a, b, rfl, _⟩ := h
    rfl
  · obtain ⟨a, b, rfl, ⟨dx, ha⟩, _, q⟩ := h
    refine ⟨_, (pss_one (ps_ret (pe_fb G_tail_start hr (by decide) (by rfl) (pa_cons (pe_fld (pv 0) rfl) (pa_cons (pe_glob (v := .int 201) (by rfl) mLO ⟨_, rfl⟩) pa_nil))))), ?_⟩
    refine ⟨_, rfl, a, C, dx, _, _, rfl, ha, N.cl, N.nB, zfl_b b, ?_⟩
    exact ⟨b, 201, rfl, by decide, q⟩
abbrev s_Z4 : Stmt := inClass (top 18) 4
theorem sc_Z4 : FnScope ["self"] ["self"] (defScope s_Z4) := ⟨rfl, rfl, rfl, by decide +kernel, rfl, by decide +kernel, by decide +kernel⟩
theorem ok_Z4 {f : Addr} {fd : FuncData} (F : Fun K "least" "Sizes.least" s_Z4 f fd) (N : Zc K C) (T : Bt mg) (G_least_bit : FB P w K mg base "least_bit" 1 ["bits"] spLow) : FnOk P w K mg base CX0 2 f fd ["self"] (spZLeast C) := by
  refine F.ok sc_Z4 (fun vs H Q E h => ?_) (fun cdv A outer s H vs Q E hr h => ?_)
  · obtain ⟨a, b, rfl, _⟩ := h
    rfl
  · obtain ⟨a, b, rfl, ⟨dx, ha⟩, hb, q⟩ := h
    refine ⟨_, (pss_one (ps_ret (pe_ifExp (pt_tru (pe_fld (pv 0) rfl)) (pe_fb G_least_bit hr (by decide) (by rfl) (pa_cons (pe_fld (pv 0) rfl) pa_nil)) pe_non))), ?_⟩
    refine ⟨_, rfl, a, C, dx, _, _, rfl, ha, N.cl, N.nB, zfl_b b, ?_⟩
    by_cases h0 : b = 0
    · subst h0
      rw [least_zero] at q
      refine ⟨false, rfl, ?_⟩
      exact q
    · obtain ⟨j, c, e, el⟩ := least_low hb h0
      have hne : ((b : Nat) : Int) ≠ 0 := by omega
      refine ⟨true, by show true = !((b : Int) == 0); rw [beq_eq_false_iff_ne.mpr hne]; rfl, ?_⟩
      refine ⟨_, rfl, a, C, dx, _, _, rfl, ha, N.cl, N.nB, zfl_b b, ?_⟩
      rw [el] at q
      exact ⟨j, c, by rw [← e]; rfl, q⟩
abbrev s_Z6 : Stmt := inClass (top 18) 6
theorem sc_Z6 : FnScope ["self"] ["self"] (defScope s_Z6) := ⟨rfl, rfl, rfl, by decide +kernel, rfl, by decide +kernel, by decide +kernel⟩
theorem ok_Z6 {f : Addr} {fd : FuncData} (F : Fun K "__bool__" "Sizes.__bool__" s_Z6 f fd) (N : Zc K C) (T : Bt mg)  : FnOk P w K mg base CX0 1 f fd ["self"] (spZBool C) := by
  refine F.ok sc_Z6 (fun vs H Q E h => ?_) (fun cdv A outer s H vs Q E hr h => ?_)
  · obtain ⟨a, b, rfl, _⟩ := h
    rfl
  · obtain ⟨a, b, rfl, ⟨dx, ha⟩, q⟩ := h
    refine ⟨_, (pss_one (ps_ret (pe_callTy call_bool1 (by rfl) T.bool (by decide +kernel) (pa_cons (pe_fld (pv 0) rfl) pa_nil)))), ?_⟩
    refine ⟨_, rfl, a, C, dx, _, _, rfl, ha, N.cl, N.nB, zfl_b b, ?_⟩
    have e : ((b : Int) != 0) = (b != 0) := by
      rw [Bool.eq_iff_iff]
      simp
    refine .inl ⟨(b : Int), rfl, ?_⟩
    rw [e]
    exact q
abbrev s_Z12 : Stmt := inClass (top 18) 12
theorem sc_Z12 : FnScope ["self", "other"] ["self", "other"] (defScope s_Z12) := ⟨rfl, rfl, rfl, by decide +kernel, rfl, by decide +kernel, by decide +kernel⟩
theorem ok_Z12 {f : Addr} {fd : FuncData} (F : Fun K "within" "Sizes.within" s_Z12 f fd) (N : Zc K C) (T : Bt mg)  : FnOk P w K mg base CX0 1 f fd ["self", "other"] (spWithin2 C) := by
  refine F.ok sc_Z12 (fun vs H Q E h => ?_) (fun cdv A outer s H vs Q E hr h => ?_)
  · obtain ⟨a, a2, b, b2, rfl, _⟩ := h
    rfl
  · obtain ⟨a, a2, b, b2, rfl, ⟨dx, ha⟩, ⟨dx2, ha2⟩, q⟩ := h
    refine ⟨_, (pss_one (ps_ret (pe_cmpR op_eq (pe_op op_and (pe_fld (pv 0) rfl) (pe_un un_inv (pe_fld (pv 1) rfl))) pe_int (nomark _)))), ?_⟩
    refine ⟨_, rfl, a, C, dx, _, _, rfl, ha, N.cl, N.nB, zfl_b b, ?_⟩
    refine ⟨_, rfl, a2, C, dx2, _, _, rfl, ha2, N.cl, N.nB, zfl_b b2, ?_⟩
    refine ⟨_, rfl, _, _, rfl, rfl, rfl, ?_⟩
    have e : decide (V.int (Builtin.bitAnd (b : Int) (Builtin.bitNot (b2 : Int))) = V.int 0) = decide (diffN b b2 = 0) := by
      rw [andNot_nat]
      by_cases h : diffN b b2 = 0
      · rw [h]; rfl
      · rw [decide_eq_false h, decide_eq_false]
        intro z
        exact h (Int.ofNat_inj.mp (V.int.inj z))
    show Q (V.bl (decide (V.int (Builtin.bitAnd (b : Int) (Builtin.bitNot (b2 : Int))) = V.int 0))) H
    rw [e]
    exact q
abbrev s_Z5 : Stmt := inClass (top 18) 5
theorem sc_Z5 : FnScope ["self", "other"] ["self", "other"] (defScope s_Z5) := ⟨rfl, rfl, rfl, by decide +kernel, rfl, by decide +kernel, by decide +kernel⟩
theorem ok_Z5 {f : Addr} {fd : FuncData} (F : Fun K "__eq__" "Sizes.__eq__" s_Z5 f fd) (N : Zc K C) (T : Bt mg) (I : Isn K C) (mC : mg "Sizes" = some (.ref C)) : FnOk P w K mg base CX0 1 f fd ["self", "other"] (spZEq C) := by
  refine F.ok sc_Z5 (fun vs H Q E h => ?_) (fun cdv A outer s H vs Q E hr h => ?_)
  · obtain ⟨a, a2, b, b2, rfl, _⟩ := h
    rfl
  · obtain ⟨a, a2, b, b2, rfl, ⟨dx, ha⟩, ⟨dx2, ha2⟩, q⟩ := h
    refine ⟨_, (pss_one (ps_ret (pe_and (pe_callB call_isi (by rfl) T.isinstance (by decide +kernel) (pa_cons (pv 1) (pa_cons (pe_glob (v := .ref C) (by rfl) mC rfl) pa_nil)))
            (pe_one (pe_cmpR op_eq (pe_fld (pv 0) rfl) (pe_fld (pv 1) rfl) (nomark _)))))), ?_⟩
    refine ⟨_, rfl, _, _, .ref C, .ref C, true, rfl, .own C, .base (.ins ha2 N.cl I.c1 I.c2 I.c3 I.c4), kit_self K C, true, rfl, ?_⟩
    refine iteT ?_
    refine ⟨_, rfl, a, C, dx, _, _, rfl, ha, N.cl, N.nB, zfl_b b, ?_⟩
    refine ⟨_, rfl, a2, C, dx2, _, _, rfl, ha2, N.cl, N.nB, zfl_b b2, ?_⟩
    refine ⟨rfl, ?_⟩
    have e : decide (V.int (b : Int) = V.int (b2 : Int)) = decide (b = b2) := by
      by_cases h : b = b2
      · subst h; rw [decide_eq_true rfl, decide_eq_true rfl]
      · rw [decide_eq_false h, decide_eq_false]
        intro z
        exact h (Int.ofNat_inj.mp (V.int.inj z))
    show Q (V.bl (decide (V.int (b : Int) = V.int (b2 : Int)))) H
    rw [e]
    exact q
end
end Sq
namespace Sq
open PySem L2 PySem.Spec PyProof.Rows
/-! ### ~a, an instance of a class of the text -/
def rUn (C : Addr) (sp : Sp) (E : XK) : V → Hp → VK → Prop := fun x H Q => ∃ a dx fs, x = .ref a ∧ H a = some (.ins C dx fs) ∧ sp [.ref a] H Q E
section
variable {X : Cx} {CX : CXT} {n k : Nat} {f g C : Addr} {sp : Sp} {E : XK}
theorem un_own (hs : PySem.W.findIn X.K (.ref C) "__invert__" = some (some (.ref g))) (hf : PySem.W.isFn X.K (.ref g) = true) (F : FnR X.prog X.w X.K X.mg X.base CX n g sp) (hr : Room n X.A) (hx : Passes CX X E) :
    UnR X (unaryOp .Invert) (rUn C sp E) := by
  intro pins s σ H x v Q I rx h
  obtain ⟨a, dx, fs, rfl, ha, q⟩ := h
  cases (show v = Value.ref a from rx)
  obtain ⟨_, J, _⟩ := ins_get I.hok ha
  obtain ⟨_, J, _⟩ := J.look
  obtain ⟨m, hF⟩ := I.fr
  refine PySem.W.ksp_inv hF I.ok.mod.kin J hs hf ?_
  exact wpAny_call (run_fnR (us := [.ref a]) (vs := [.ref a]) F hr hx I (.cons rfl .nil) q)
end
end Sq
namespace Sq
open PySem L2 TL
section
variable {P : Program} {w : World} {K : PySem.W.Frag} {mg : Str → Option Value} {base : Heap}
variable {C : Addr}
/-- what is known of the class Sizes -/
structure ZK (P : Program) (w : World) (K : PySem.W.Frag) (mg : Str → Option Value) (base : Heap) (C tE : Addr) : Prop where
  zc : Zc K C
  mC : mg "Sizes" = some (.ref C)
  isn : Isn K C
  e0 : ∀ H, SqT K H tE []
  mks : ∃ fi fd, Mk K C fi ∧ FnOk P w K mg base CX0 4 fi fd psZ (spZInit K C) ∧ FunZ K tE fi fd
  pe : ∃ p g d, PropOf K C "even" p g ∧ FnOk P w K mg base CX0 3 g d ["self"] (spEven C) ∧ Binds K d ["self"] []
  po : ∃ p g d, PropOf K C "odd" p g ∧ FnOk P w K mg base CX0 3 g d ["self"] (spOdd C) ∧ Binds K d ["self"] []
def spListed (C : Addr) : Sp := fun vs H Q _ => ∃ (a : Addr) (b : Nat), vs = [.ref a] ∧ SetAt C H a b ∧ b < 2 ^ 203 ∧ ∀ t H', H t = none → Same H H' → H' t = some (.tup (natsV (listedN b))) → Q (.ref t) H'
def spSetWith (C : Addr) : Sp := fun vs H Q _ => ∃ (b : Nat), vs = [.int (b : Nat)] ∧ ∀ x H', H x = none → Same H H' → SetAt C H' x b → Q (.ref x) H'
def spBin (C : Addr) (g : Nat → Nat → Nat) : Sp := fun vs H Q _ => ∃ (a a2 : Addr) (b b2 : Nat), vs = [.ref a, .ref a2] ∧ SetAt C H a b ∧ SetAt C H a2 b2 ∧ ∀ x H', H x = none → Same H H' → SetAt C H' x (g b b2) → Q (.ref x) H'
def spInv (C : Addr) : Sp := fun vs H Q _ => ∃ (a : Addr) (b : Nat), vs = [.ref a] ∧ SetAt C H a b ∧ ∀ x H', H x = none → Same H H' → SetAt C H' x (notN b) → Q (.ref x) H'
theorem tail_le {b l n : Nat} (hl : 1 ≤ l) (h : tailN b l = some n) : n ≤ l := by
  unfold tailN at h
  split at h
  · cases h
    exact down_le_last hl
  · cases h
theorem diff_lt {a b n : Nat} (h : a < 2 ^ n) : diffN a b < 2 ^ n := by
  unfold diffN
  omega
theorem bits_listed (b : Nat) : bitsN (diffN b (tailsN b)) = listedN b := by
  unfold bitsN listedN
  refine List.filter_congr fun i _ => ?_
  rw [diff_bit]
theorem ls_nil : LsOk [] := ⟨fun _ h => (by cases h), List.Pairwise.nil⟩
theorem tl_none (p : Nat) : TlOk p none := fun _ h => (by cases h)
abbrev s_Z3 : Stmt := inClass (top 18) 3
theorem sc_Z3 : FnScope ["self", "tails"] ["self"] (defScope s_Z3) := ⟨rfl, rfl, rfl, by decide +kernel, rfl, by decide +kernel, by decide +kernel⟩
theorem ok_Z3 {f : Addr} {fd : FuncData} (F : Fun K "listed" "Sizes.listed" s_Z3 f fd) (N : Zc K C) (T : Bt mg) {tE : Addr} (Z : ZK P w K mg base C tE) (G_tail_bits : FB P w K mg base "tail_bits" 2 ["start"] spTailB) (G_bits_in : FB P w K mg base "bits_in" 2 ["bits"] spBitsIn) : FnOk P w K mg base CX0 5 f fd ["self"] (spListed C) := by
  refine F.ok sc_Z3 (fun vs H Q E h => ?_) (fun cdv A outer s H vs Q E hr h => ?_)
  · obtain ⟨a, b, rfl, _⟩ := h
    rfl
  · obtain ⟨p1, g1, d1, P1, G1, B1⟩ := Z.pe
    obtain ⟨p2, g2, d2, P2, G2, B2⟩ := Z.po
    obtain ⟨a, b, rfl, ⟨dx, ha⟩, hb, q⟩ := h
    refine ⟨_, (pss_cons (ps_set (i := 1) sc_Z3.nd rfl (by first | exact .inl rfl | exact .inr rfl) (pe_op op_or (pe_fb G_tail_bits hr (by decide) (by rfl) (pa_cons (pe_prop (pv 0) N.cl P1 G1 hr B1 .nil pass0 rfl) pa_nil)) (pe_fb G_tail_bits hr (by decide) (by rfl) (pa_cons (pe_prop (pv 0) N.cl P2 G2 hr B2 .nil pass0 rfl) pa_nil))))
        (pss_one (ps_ret (pe_callTy call_tuple_of (by rfl) T.tuple (by decide +kernel) (pa_cons (pe_fb G_bits_in hr (by decide) (by rfl) (pa_cons (pe_op op_and (pe_fld (pv 0) rfl) (pe_un un_inv (pv 1))) pa_nil)) pa_nil))))), ?_⟩
    have hs : SetAt C H a b := ⟨dx, ha⟩
    refine ⟨_, rfl, a, dx, _, rfl, ha, a, b, rfl, hs, by omega, ?_⟩
    refine ⟨tailN b 202, rfl, fun n e => by have := tail_le (by decide) e; omega, fun H1 s1 => ?_⟩
    refine ⟨_, rfl, a, dx, _, rfl, s1 _ _ ha, a, b, rfl, hs.ext s1, by omega, ?_⟩
    refine ⟨tailN b 201, rfl, fun n e => by have := tail_le (by decide) e; omega, fun H2 s2 => ?_⟩
    refine ⟨_, _, rfl, rfl, ?_⟩
    have et : V.int (Builtin.bitOr ((tailO (tailN b 202) : Nat) : Int) ((tailO (tailN b 201) : Nat) : Int)) = V.int ((tailsN b : Nat) : Int) := by
      rw [or_nat]
      rfl
    have s12 := s1.trans s2
    refine ⟨_, rfl, a, C, dx, _, _, rfl, s12 _ _ ha, N.cl, N.nB, zfl_b b, ?_⟩
    refine ⟨_, rfl, _, et, _, _, rfl, rfl, ?_⟩
    refine ⟨diffN b (tailsN b), congrArg (fun z => [V.int z]) (andNot_nat b (tailsN b)), diff_lt hb, fun p H3 np hp s3 => ?_⟩
    refine ⟨p, _, rfl, .inl ⟨SqL.of hp, fun l nl => ?_⟩⟩
    rw [bits_listed] at *
    have s4 := same_new (o := .tup (natsV (listedN b))) nl
    refine q l _ ?_ ((s12.trans s3).trans s4) upd_same
    cases e : H l with
    | none => rfl
    | some o => rw [s3 _ _ (s12 _ _ e)] at nl; cases nl
abbrev s_set_with : Stmt := top 21
theorem sc_set_with : FnScope ["bits", "made"] ["bits"] (defScope s_set_with) := ⟨rfl, rfl, rfl, by decide +kernel, rfl, by decide +kernel, by decide +kernel⟩
theorem ok_set_with {f C tE : Addr} {fd : FuncData} (F : Fun K "set_with" "set_with" s_set_with f fd) (T : Bt mg) (Z : ZK P w K mg base C tE) : FnOk P w K mg base CX0 6 f fd ["bits"] (spSetWith C) := by
  refine F.ok sc_set_with (fun vs H Q E h => ?_) (fun cdv A outer s H vs Q E hr h => ?_)
  · obtain ⟨b, rfl, _⟩ := h
    rfl
  · obtain ⟨fi, fd0, M, F0, FZ⟩ := Z.mks
    obtain ⟨ds, hv, hb⟩ := bz1 FZ
    obtain ⟨b, rfl, q⟩ := h
    refine ⟨_, (pss_cons (ps_set (i := 1) sc_set_with.nd rfl (by first | exact .inl rfl | exact .inr rfl) (pe_make0 M F0 hr (by rfl) Z.mC hb hv pass0))
        (pss_cons (ps_fld (pv 1) (pv 0) rfl)
        (pss_one (ps_ret (pv 1))))), ?_⟩
    intro x dx nx nd hne
    refine ⟨x, dx, tE, [], none, none, rfl, upd_same, Z.e0 _, ls_nil, tl_none _, tl_none _, fun H1 s1 => ⟨rfl, ?_⟩⟩
    refine ⟨_, rfl, _, rfl, x, C, dx, _, rfl, upd_same, Z.zc.cl, Z.zc.nB, (by show 1 < 1000; decide), ?_⟩
    have sm : Same H H1 := fun c o hc => by
      refine s1 _ _ ?_
      rw [upd_ne (fun e => by rw [e, nx] at hc; cases hc), upd_ne (fun e => by rw [e, nd] at hc; cases hc)]
      exact hc
    refine ⟨_, rfl, ?_⟩
    refine q x _ nx (fun c o hc => ?_) ⟨dx, upd_same⟩
    have hcx : c ≠ x := fun e => by rw [e, nx] at hc; cases hc
    rw [upd_ne hcx, upd_ne hcx]
    exact sm _ _ hc
abbrev s_Z8 : Stmt := inClass (top 18) 8
theorem sc_Z8 : FnScope ["self", "other"] ["self", "other"] (defScope s_Z8) := ⟨rfl, rfl, rfl, by decide +kernel, rfl, by decide +kernel, by decide +kernel⟩
theorem ok_Z8 {f : Addr} {fd : FuncData} (F : Fun K "__and__" "Sizes.__and__" s_Z8 f fd) (N : Zc K C) (T : Bt mg) (G_set_with : FB P w K mg base "set_with" 6 ["bits"] (spSetWith C)) : FnOk P w K mg base CX0 7 f fd ["self", "other"] (spBin C (· &&& ·)) := by
  refine F.ok sc_Z8 (fun vs H Q E h => ?_) (fun cdv A outer s H vs Q E hr h => ?_)
  · obtain ⟨a, a2, b, b2, rfl, _⟩ := h
    rfl
  · obtain ⟨a, a2, b, b2, rfl, ⟨dx, ha⟩, ⟨dx2, ha2⟩, q⟩ := h
    refine ⟨_, (pss_one (ps_ret (pe_fb G_set_with hr (by decide) (by rfl) (pa_cons (pe_op op_and (pe_fld (pv 0) rfl) (pe_fld (pv 1) rfl)) pa_nil)))), ?_⟩
    refine ⟨_, rfl, a, C, dx, _, _, rfl, ha, N.cl, N.nB, zfl_b b, ?_⟩
    refine ⟨_, rfl, a2, C, dx2, _, _, rfl, ha2, N.cl, N.nB, zfl_b b2, ?_⟩
    refine ⟨_, _, rfl, rfl, ?_⟩
    exact ⟨_, congrArg (fun z => [V.int z]) (and_nat b b2), q⟩
abbrev s_Z9 : Stmt := inClass (top 18) 9
theorem sc_Z9 : FnScope ["self", "other"] ["self", "other"] (defScope s_Z9) := ⟨rfl, rfl, rfl, by decide +kernel, rfl, by decide +kernel, by decide +kernel⟩
theorem ok_Z9 {f : Addr} {fd : FuncData} (F : Fun K "__or__" "Sizes.__or__" s_Z9 f fd) (N : Zc K C) (T : Bt mg) (G_set_with : FB P w K mg base "set_with" 6 ["bits"] (spSetWith C)) : FnOk P w K mg base CX0 7 f fd ["self", "other"] (spBin C (· ||| ·)) := by
  refine F.ok sc_Z9 (fun vs H Q E h => ?_) (fun cdv A outer s H vs Q E hr h => ?_)
  · obtain ⟨a, a2, b, b2, rfl, _⟩ := h
    rfl
  · obtain ⟨a, a2, b, b2, rfl, ⟨dx, ha⟩, ⟨dx2, ha2⟩, q⟩ := h
    refine ⟨_, (pss_one (ps_ret (pe_fb G_set_with hr (by decide) (by rfl) (pa_cons (pe_op op_or (pe_fld (pv 0) rfl) (pe_fld (pv 1) rfl)) pa_nil)))), ?_⟩
    refine ⟨_, rfl, a, C, dx, _, _, rfl, ha, N.cl, N.nB, zfl_b b, ?_⟩
    refine ⟨_, rfl, a2, C, dx2, _, _, rfl, ha2, N.cl, N.nB, zfl_b b2, ?_⟩
    refine ⟨_, _, rfl, rfl, ?_⟩
    exact ⟨_, congrArg (fun z => [V.int z]) (or_nat b b2), q⟩
abbrev s_Z10 : Stmt := inClass (top 18) 10
theorem sc_Z10 : FnScope ["self", "other"] ["self", "other"] (defScope s_Z10) := ⟨rfl, rfl, rfl, by decide +kernel, rfl, by decide +kernel, by decide +kernel⟩
theorem ok_Z10 {f : Addr} {fd : FuncData} (F : Fun K "__sub__" "Sizes.__sub__" s_Z10 f fd) (N : Zc K C) (T : Bt mg) (G_set_with : FB P w K mg base "set_with" 6 ["bits"] (spSetWith C)) : FnOk P w K mg base CX0 7 f fd ["self", "other"] (spBin C diffN) := by
  refine F.ok sc_Z10 (fun vs H Q E h => ?_) (fun cdv A outer s H vs Q E hr h => ?_)
  · obtain ⟨a, a2, b, b2, rfl, _⟩ := h
    rfl
  · obtain ⟨a, a2, b, b2, rfl, ⟨dx, ha⟩, ⟨dx2, ha2⟩, q⟩ := h
    refine ⟨_, (pss_one (ps_ret (pe_fb G_set_with hr (by decide) (by rfl) (pa_cons (pe_op op_and (pe_fld (pv 0) rfl) (pe_un un_inv (pe_fld (pv 1) rfl))) pa_nil)))), ?_⟩
    refine ⟨_, rfl, a, C, dx, _, _, rfl, ha, N.cl, N.nB, zfl_b b, ?_⟩
    refine ⟨_, rfl, a2, C, dx2, _, _, rfl, ha2, N.cl, N.nB, zfl_b b2, ?_⟩
    refine ⟨_, rfl, _, _, rfl, rfl, ?_⟩
    exact ⟨_, congrArg (fun z => [V.int z]) (andNot_nat b b2), q⟩
abbrev s_Z11 : Stmt := inClass (top 18) 11
theorem sc_Z11 : FnScope ["self"] ["self"] (defScope s_Z11) := ⟨rfl, rfl, rfl, by decide +kernel, rfl, by decide +kernel, by decide +kernel⟩
theorem ok_Z11 {f : Addr} {fd : FuncData} (F : Fun K "__invert__" "Sizes.__invert__" s_Z11 f fd) (N : Zc K C) (T : Bt mg) (G_set_with : FB P w K mg base "set_with" 6 ["bits"] (spSetWith C)) (G_tail_bits : FB P w K mg base "tail_bits" 2 ["start"] spTailB) : FnOk P w K mg base CX0 7 f fd ["self"] (spInv C) := by
  refine F.ok sc_Z11 (fun vs H Q E h => ?_) (fun cdv A outer s H vs Q E hr h => ?_)
  · obtain ⟨a, b, rfl, _⟩ := h
    rfl
  · obtain ⟨a, b, rfl, ⟨dx, ha⟩, q⟩ := h
    refine ⟨_, (pss_one (ps_ret (pe_fb G_set_with hr (by decide) (by rfl) (pa_cons (pe_op op_and (pe_op op_or (pe_fb G_tail_bits hr (by decide) (by rfl) (pa_cons pe_int pa_nil)) (pe_fb G_tail_bits hr (by decide) (by rfl) (pa_cons pe_int pa_nil))) (pe_un un_inv (pe_fld (pv 0) rfl))) pa_nil)))), ?_⟩
    refine ⟨some 1, rfl, fun n e => by cases e; decide, fun H1 s1 => ?_⟩
    refine ⟨some 2, rfl, fun n e => by cases e; decide, fun H2 s2 => ?_⟩
    refine ⟨_, _, rfl, rfl, ?_⟩
    have s12 := s1.trans s2
    refine ⟨_, rfl, a, C, dx, _, _, rfl, s12 _ _ ha, N.cl, N.nB, zfl_b b, ?_⟩
    refine ⟨_, rfl, _, _, rfl, rfl, ?_⟩
    have e : Builtin.bitAnd (Builtin.bitOr ((tailO (some 1) : Nat) : Int) ((tailO (some 2) : Nat) : Int)) (Builtin.bitNot (b : Int)) = ((notN b : Nat) : Int) := by
      rw [or_nat, andNot_nat]
      rfl
    refine ⟨_, congrArg (fun z => [V.int z]) e, fun x H3 nx s3 h3 => ?_⟩
    refine q x H3 ?_ (s12.trans s3) h3
    cases e : H x with
    | none => rfl
    | some o => rw [s12 _ _ e] at nx; cases nx
end
end Sq
namespace Sq
open PySem L2 TL
section
variable {P : Program} {w : World} {K : PySem.W.Frag} {mg : Str → Option Value} {base : Heap}
variable {C : Addr}
/-- a number's text, as str and f'..' give it -/
def nS (n : Nat) : Str := toString (n : Int)
theorem nS_len : ∀ n : Nat, n < 203 → (nS n).length ≤ 3 := by decide +kernel
theorem n_log : ∀ n : Nat, n < 203 → ((n : Int)).natAbs.log2 < 1920 := by decide +kernel
def evS : Option Nat → List Str
  | none => []
  | some n => [("even from " : Str) ++ nS n]
def odS : Option Nat → List Str
  | none => []
  | some n => [("odd from " : Str) ++ nS n]
def partsS (b : Nat) : List Str := (listedN b).map nS ++ evS (tailN b 202) ++ odS (tailN b 201)
def showS (b : Nat) : Str := Txt.join ", " (if partsS b = [] then ["none"] else partsS b)
def spStr (C : Addr) : Sp := fun vs H Q _ => ∃ (a : Addr) (b : Nat), vs = [.ref a] ∧ SetAt C H a b ∧ b < 2 ^ 203 ∧ ∀ H', Same H H' → Q (.str (showS b)) H'
theorem listed_lt {b n : Nat} (h : n ∈ listedN b) : n < 203 := by
  unfold listedN at h
  exact List.mem_range.mp (List.mem_filter.mp h).1
theorem listed_len (b : Nat) : (listedN b).length ≤ 203 := by
  unfold listedN
  have := List.length_filter_le (fun i => b.testBit i && !(tailsN b).testBit i) (List.range 203)
  rw [List.length_range] at this
  exact this
theorem sum_le {c : Nat} : ∀ l : List Str, (∀ y ∈ l, y.length ≤ c) → (l.map (·.length)).sum ≤ c * l.length
  | [], _ => by simp
  | y :: l, h => by
    rw [List.map_cons, List.sum_cons, List.length_cons]
    have h1 := h y (List.mem_cons_self ..)
    have h2 := sum_le l fun z hz => h z (List.mem_cons_of_mem _ hz)
    rw [Nat.mul_add, Nat.mul_one]
    omega
theorem ev_len {s : Option Nat} (h : ∀ n, s = some n → n < 203) : ∀ y ∈ evS s, y.length ≤ 20 := by
  intro y hy
  cases s with
  | none => cases hy
  | some n =>
    rw [List.mem_singleton.mp hy, PySem.strLen_append]
    have := nS_len n (h n rfl)
    have e : ("even from " : Str).length = 10 := by decide +kernel
    omega
theorem od_len {s : Option Nat} (h : ∀ n, s = some n → n < 203) : ∀ y ∈ odS s, y.length ≤ 20 := by
  intro y hy
  cases s with
  | none => cases hy
  | some n =>
    rw [List.mem_singleton.mp hy, PySem.strLen_append]
    have := nS_len n (h n rfl)
    have e : ("odd from " : Str).length = 9 := by decide +kernel
    omega
theorem parts_len {b : Nat} : (partsS b).length ≤ 205 := by
  unfold partsS
  rw [List.length_append, List.length_append, List.length_map]
  have h1 := listed_len b
  have h2 : (evS (tailN b 202)).length ≤ 1 := by cases tailN b 202 <;> simp [evS]
  have h3 : (odS (tailN b 201)).length ≤ 1 := by cases tailN b 201 <;> simp [odS]
  omega
theorem parts_each {b : Nat} : ∀ y ∈ partsS b, y.length ≤ 20 := by
  intro y hy
  unfold partsS at hy
  rcases List.mem_append.mp hy with hy | hy
  · rcases List.mem_append.mp hy with hy | hy
    · obtain ⟨n, hn, rfl⟩ := List.mem_map.mp hy
      have := nS_len n (listed_lt hn)
      omega
    · exact ev_len (fun n e => by have := tail_le (by decide) e; omega) y hy
  · exact od_len (fun n e => by have := tail_le (by decide) e; omega) y hy
abbrev s_Z14 : Stmt := inClass (top 18) 14
theorem sc_Z14 : FnScope ["self", "parts", "size"] ["self"] (defScope s_Z14) := ⟨rfl, rfl, rfl, by decide +kernel, rfl, by decide +kernel, by decide +kernel⟩
theorem ok_Z14 {f : Addr} {fd : FuncData} (F : Fun K "__str__" "Sizes.__str__" s_Z14 f fd) (N : Zc K C) (T : Bt mg) {tE : Addr} (Z : ZK P w K mg base C tE) {pL gL : Addr} {dL : FuncData} (PL : PropOf K C "listed" pL gL) (GL : FnOk P w K mg base CX0 5 gL dL ["self"] (spListed C)) (BL : Binds K dL ["self"] []) : FnOk P w K mg base CX0 7 f fd ["self"] (spStr C) := by
  refine F.ok sc_Z14 (fun vs H Q E h => ?_) (fun cdv A outer s H vs Q E hr h => ?_)
  · obtain ⟨a, b, rfl, _⟩ := h
    rfl
  · obtain ⟨p1, g1, d1, P1, G1, B1⟩ := Z.pe
    obtain ⟨p2, g2, d2, P2, G2, B2⟩ := Z.po
    obtain ⟨a, b, rfl, hs, hb, q⟩ := h
    obtain ⟨dx, ha⟩ := id hs
    refine ⟨_, (pss_cons (ps_setLc (i := 1) (own := [("size", 2)]) (g := gName 2) (by rfl) sc_Z14.nd rfl rfl (by rfl) (pi_tup (pe_prop (pv 0) N.cl PL GL hr BL .nil pass0 rfl)) (blkOk_by (own := [("size", 2)]) (N := ["self", "parts", "size"]) (sc := defScope s_Z14) (by decide +kernel))
            (fun _ _ _ _ _ => (pg_name (i := 2) sc_Z14.nd rfl (by first | exact .inl rfl | exact .inr rfl))) (fun _ _ _ _ _ => pts_nil) (fun _ _ _ _ _ => (pe_callTy call_str_int (by rfl) T.str (by decide +kernel) (pa_cons (pv 2) pa_nil))))
        (pss_cons (ps_if (pt_cmpR op_notN (pe_prop (pv 0) N.cl P1 G1 (hr.mono (show 4 ≤ 6 by decide)) B1 .nil pass0 rfl) pe_non (nomark _))
        (pss_one (ps_expr (pe_bm PySem.F.plainAttrs_list PySem.F.slot_list_append PySem.F.type_list_append mt_append (pv 1) (pa_cons (pe_joined (.cons pe_str (.cons (pe_fmt (pe_prop (pv 0) N.cl P1 G1 (hr.mono (show 4 ≤ 6 by decide)) B1 .nil pass0 rfl)) .nil))) pa_nil))))
        pss_nil)
        (pss_cons (ps_if (pt_cmpR op_notN (pe_prop (pv 0) N.cl P2 G2 (hr.mono (show 4 ≤ 6 by decide)) B2 .nil pass0 rfl) pe_non (nomark _))
        (pss_one (ps_expr (pe_bm PySem.F.plainAttrs_list PySem.F.slot_list_append PySem.F.type_list_append mt_append (pv 1) (pa_cons (pe_joined (.cons pe_str (.cons (pe_fmt (pe_prop (pv 0) N.cl P2 G2 (hr.mono (show 4 ≤ 6 by decide)) B2 .nil pass0 rfl)) .nil))) pa_nil))))
        pss_nil)
        (pss_one (ps_ret (pe_join pe_str (pe_orT (pv 1) (pe_one (pe_lst (pa_cons pe_str pa_nil)))))))))), ?_⟩
    refine ⟨_, rfl, a, dx, _, rfl, ha, a, b, rfl, hs, hb, fun t H1 nt s1 ht => ?_⟩
    refine ⟨t, rfl, ⟨_, SqT.of ht⟩, fun D nD => ?_⟩
    have hS : SqT K H1 t (natsV (listedN b)) := SqT.of ht
    have pl := @parts_len b
    have pe := @parts_each b
    have two : 2000 ≤ sizeLine := by decide
    refine lc_tup (K := K) (a := t) (xs := natsV (listedN b)) (fun j H' => Same H1 H' ∧ H' D = some (.lst ((((listedN b).take j).map nS).map V.str))) ⟨same_new nD, upd_same⟩ (fun j H' _ h => hS.ext h.1) (fun j x H' hx h => ?_) (fun H' h => ?_)
    · obtain ⟨sm, hD⟩ := h
      unfold natsV at hx
      rw [List.getElem?_map] at hx
      cases hn : (listedN b)[j]? with
      | none => rw [hn] at hx; cases hx
      | some n =>
        rw [hn] at hx
        cases hx
        have hj : j < (listedN b).length := (List.getElem?_eq_some_iff.mp hn).1
        have hl := listed_len b
        refine ⟨rfl, ?_⟩
        refine ⟨_, rfl, (n : Int), rfl, n_log n (listed_lt (List.mem_of_getElem? hn)), _, hD, ?_, ?_, ?_⟩
        · rw [List.length_map, List.length_map, List.length_take]; omega
        · intro c o hx
          rw [upd_ne (fun e => by rw [e, nD] at hx; cases hx)]
          exact sm _ _ hx
        · rw [upd_same, List.take_add_one, hn]
          simp [nS]
    · obtain ⟨s2, hD⟩ := h
      have el : (natsV (listedN b)).length = (listedN b).length := by unfold natsV; rw [List.length_map]
      rw [el, List.take_length] at hD
      refine nm_seq (st_of (fun σ' H' => ∃ v2, σ' = [some (.ref a), some (.ref D), v2] ∧ Same H1 H' ∧ H' D = some (.lst (((listedN b).map nS ++ evS (tailN b 202)).map V.str))) (fun D' k => ?_) ?_)
      · refine if_ ?_
        refine ⟨_, rfl, a, dx, _, rfl, s2 _ _ (s1 _ _ ha), a, b, rfl, hs.ext (s1.trans s2), by omega, rfl, ?_⟩
        cases et : tailN b 202 with
        | none =>
          refine ⟨_, rfl, ?_⟩
          refine iteF ?_
          refine k _ _ ⟨_, rfl, s2, ?_⟩
          rw [hD]
          simp [evS, et]
        | some n =>
          have hn := tail_le (by decide) et
          refine ⟨_, rfl, ?_⟩
          refine iteT ?_
          refine ⟨_, rfl, .inl ⟨rfl, _, SqL.of hD⟩, ?_⟩
          have e0 : (Str.empty ++ ("even from " : Str)).length = 10 := by decide +kernel
          have e1 : Str.empty ++ ("even from " : Str) = ("even from " : Str) := Str.empty_append _
          refine ⟨("even from " : Str), rfl, by omega, ?_⟩
          refine ⟨_, rfl, a, dx, _, rfl, s2 _ _ (s1 _ _ ha), a, b, rfl, hs.ext (s1.trans s2), by omega, ?_⟩
          rw [et]
          have ln := nS_len n (by omega)
          refine .inr ⟨(n : Int), rfl, n_log n (by omega), nS n, rfl, ?_, ?_⟩
          · rw [PySem.strLen_append, e0]; omega
          rw [e1]
          have hl := listed_len b
          have hev : (evS (tailN b 202)).length ≤ 1 := by cases tailN b 202 <;> simp [evS]
          refine ⟨D, _, _, rfl, rfl, hD, ?_, ?_⟩
          · simp only [List.length_map, List.length_append]; omega
          refine k _ _ ⟨_, rfl, fun c o hc => ?_, ?_⟩
          · rw [upd_ne (fun e => by rw [e, nD] at hc; cases hc)]
            exact s2 _ _ hc
          · rw [upd_same]
            simp [evS, et]
      rintro _ H2 ⟨v2, rfl, s3, hD2⟩
      refine pr_seq (st_of (fun σ' H' => ∃ v2, σ' = [some (.ref a), some (.ref D), v2] ∧ Same H1 H' ∧ H' D = some (.lst ((partsS b).map V.str))) (fun D' k => ?_) ?_)
      · refine if_ ?_
        refine ⟨_, rfl, a, dx, _, rfl, s3 _ _ (s1 _ _ ha), a, b, rfl, hs.ext (s1.trans s3), by omega, rfl, ?_⟩
        cases et : tailN b 201 with
        | none =>
          refine ⟨_, rfl, ?_⟩
          refine iteF ?_
          refine k _ _ ⟨_, rfl, s3, ?_⟩
          rw [hD2]
          unfold partsS
          rw [et]
          simp [odS]
        | some n =>
          have hn := tail_le (by decide) et
          refine ⟨_, rfl, ?_⟩
          refine iteT ?_
          refine ⟨_, rfl, .inl ⟨rfl, _, SqL.of hD2⟩, ?_⟩
          have e0 : (Str.empty ++ ("odd from " : Str)).length = 9 := by decide +kernel
          have e1 : Str.empty ++ ("odd from " : Str) = ("odd from " : Str) := Str.empty_append _
          refine ⟨("odd from " : Str), rfl, by omega, ?_⟩
          refine ⟨_, rfl, a, dx, _, rfl, s3 _ _ (s1 _ _ ha), a, b, rfl, hs.ext (s1.trans s3), by omega, ?_⟩
          rw [et]
          have ln := nS_len n (by omega)
          refine .inr ⟨(n : Int), rfl, n_log n (by omega), nS n, rfl, ?_, ?_⟩
          · rw [PySem.strLen_append, e0]; omega
          rw [e1]
          have hl := listed_len b
          have hev : (evS (tailN b 202)).length ≤ 1 := by cases tailN b 202 <;> simp [evS]
          refine ⟨D, _, _, rfl, rfl, hD2, ?_, ?_⟩
          · simp only [List.length_map, List.length_append]; omega
          refine k _ _ ⟨_, rfl, fun c o hc => ?_, ?_⟩
          · rw [upd_ne (fun e => by rw [e, nD] at hc; cases hc)]
            exact s3 _ _ hc
          · rw [upd_same]
            unfold partsS
            rw [et]
            simp [odS]
      rintro _ H3 ⟨v3, rfl, s4, hD3⟩
      have sm := s1.trans s4
      by_cases hp : partsS b = []
      · refine ⟨⟨_, rfl⟩, _, rfl, false, .inl ⟨_, SqL.of hD3, by rw [hp]; rfl⟩, ?_⟩
        rw [if_neg Bool.false_ne_true]
        refine ⟨(by show 1 ≤ sizeLine; decide), fun p np => ?_⟩
        refine ⟨", ", p, ["none"], rfl, rfl, .inl (SqL.of upd_same), by decide +kernel, ?_⟩
        have z := q _ (sm.trans (same_new (o := .lst [V.str "none"]) np))
        unfold showS at z
        rw [if_pos hp] at z
        exact z
      · have hne : ((partsS b).map V.str).isEmpty = false := by
          cases e : partsS b with
          | nil => exact absurd e hp
          | cons x l => rfl
        refine ⟨⟨_, rfl⟩, _, rfl, true, .inl ⟨_, SqL.of hD3, by rw [hne]; rfl⟩, ?_⟩
        rw [if_pos rfl]
        refine ⟨", ", D, partsS b, rfl, rfl, .inl (SqL.of hD3), ?_, ?_⟩
        · have z := sum_le (c := 20) (partsS b) pe
          have e2 : (", " : Str).length = 2 := by decide +kernel
          rw [e2]
          omega
        have z := q _ sm
        unfold showS at z
        rw [if_neg hp] at z
        exact z
end
end Sq
namespace Sq
open PySem L2 PySem.Spec PyProof.Rows
/-! ### data that repr shows -/
def lim40 : Int := 10000000000000000000000000000000000000000
def F0 (d : PyData) : Prop := d.showable = true ∧ d.leavesShort 1921 = true ∧ d.hasDict = false
theorem log_small {i : Int} (h1 : -lim40 ≤ i) (h2 : i ≤ lim40) : i.natAbs.log2 < 1920 := by
  by_cases h0 : i.natAbs = 0
  · rw [h0]
    decide
  · rw [Nat.log2_lt h0]
    have h3 : i.natAbs ≤ 10000000000000000000000000000000000000000 := by
      unfold lim40 at h1 h2
      omega
    have h4 : (10000000000000000000000000000000000000000 : Nat) < 2 ^ 1920 := by decide +kernel
    omega
theorem f0_int {i : Int} (h1 : -lim40 ≤ i) (h2 : i ≤ lim40) : F0 (.int i) := by
  have h := log_small h1 h2
  refine ⟨?_, ?_, ?_⟩
  · simp only [PyData.showable]
    exact decide_eq_true h
  · simp only [PyData.leavesShort]
    exact decide_eq_true (PyProof.Rows.int_text_len_1921 h)
  · simp only [PyData.hasDict]
theorem f0_bl (b : Bool) : F0 (.bool b) := ⟨by simp only [PyData.showable], by simp only [PyData.leavesShort], by simp only [PyData.hasDict]⟩
theorem f0_non : F0 .none := ⟨by simp only [PyData.showable], by simp only [PyData.leavesShort], by simp only [PyData.hasDict]⟩
theorem f0_str (x : Str) (h : (x.cps.toList.all fun c => decide (c < 16 ^ 8)) = true) : F0 (.str x) := ⟨by simp only [PyData.showable], by simp only [PyData.leavesShort]; exact h, by simp only [PyData.hasDict]⟩
theorem f0_all : ∀ {ds : List PyData}, (∀ d ∈ ds, F0 d) → PyData.showableAll ds = true ∧ PyData.leavesShortAll 1921 ds = true ∧ PyData.hasDictAll ds = false
  | [], _ => ⟨by simp only [PyData.showableAll], by simp only [PyData.leavesShortAll], by simp only [PyData.hasDictAll]⟩
  | d :: ds, h => by
    obtain ⟨a1, a2, a3⟩ := h d (List.mem_cons_self ..)
    obtain ⟨b1, b2, b3⟩ := f0_all fun x hx => h x (List.mem_cons_of_mem _ hx)
    refine ⟨by simp only [PyData.showableAll, a1, b1, Bool.and_self], by simp only [PyData.leavesShortAll, a2, b2, Bool.and_self], by simp only [PyData.hasDictAll, a3, b3, Bool.or_self]⟩
theorem f0_tup {ds : List PyData} (h : ∀ d ∈ ds, F0 d) : F0 (.tuple ds) := by
  obtain ⟨b1, b2, b3⟩ := f0_all h
  exact ⟨by simp only [PyData.showable, b1], by simp only [PyData.leavesShort, b2], by simp only [PyData.hasDict, b3]⟩
theorem f0_lst {ds : List PyData} (h : ∀ d ∈ ds, F0 d) : F0 (.list ds) := by
  obtain ⟨b1, b2, b3⟩ := f0_all h
  exact ⟨by simp only [PyData.showable, b1], by simp only [PyData.leavesShort, b2], by simp only [PyData.hasDict, b3]⟩
theorem fits_of {d : PyData} (h1 : d.showable = true) (h2 : d.leavesShort 1921 = true) (h3 : d.bulk ≤ 100) (h4 : d.depth ≤ 20) : Fits d := by
  have h5 := PyData.shown_le_bulk 1921 (by decide) d h2
  have h6 : d.shown.length ≤ sizeLine := by
    rw [sizeLine_eq]
    omega
  refine ⟨h1, h4, h6, fun i e => ?_, fun x e => ?_⟩
  · subst e
    simp only [PyData.showable] at h1
    exact of_decide_eq_true h1
  · subst e
    exact h6
theorem fits0 {d : PyData} (h : F0 d) (h3 : d.bulk ≤ 100) (h4 : d.depth ≤ 20) : Fits d := fits_of h.1 h.2.1 h3 h4
theorem fits_dict : Fits (.dict []) := fits_of (by decide) (by decide) (by decide) (by decide)
theorem inI_out {i a b : Int} (h : i < a ∨ b < i) : inI (.int i) a b = false := by
  show (decide (a ≤ i) && decide (i ≤ b)) = false
  rcases h with h | h
  · rw [decide_eq_false (by omega : ¬ a ≤ i)]
    rfl
  · rw [decide_eq_false (by omega : ¬ i ≤ b), Bool.and_false]
theorem cb1 {n : Int} {x y : V} (h : inI x 0 (n - 1) = false) : cellB n (some [x, y]) = false := by
  show (inI x 0 (n - 1) && inI y 0 (n - 1)) = false
  rw [h]
  rfl
theorem cb2 {n : Int} {x y : V} (h : inI y 0 (n - 1) = false) : cellB n (some [x, y]) = false := by
  show (inI x 0 (n - 1) && inI y 0 (n - 1)) = false
  rw [h, Bool.and_false]
theorem kb1 {x y z : V} (h : inI x 0 1 = false) : kindB (some [x, y, z]) = false := by
  show (inI x 0 1 && (inI y 0 2 && inI z 0 3)) = false
  rw [h]
  rfl
theorem kb2 {x y z : V} (h : inI y 0 2 = false) : kindB (some [x, y, z]) = false := by
  show (inI x 0 1 && (inI y 0 2 && inI z 0 3)) = false
  rw [h, Bool.false_and, Bool.and_false]
theorem kb3 {x y z : V} (h : inI z 0 3 = false) : kindB (some [x, y, z]) = false := by
  show (inI x 0 1 && (inI y 0 2 && inI z 0 3)) = false
  rw [h, Bool.and_false, Bool.and_false]
theorem fmn {α : Type} {p : α → Prop} : ∀ x ∈ ([] : List α), p x := fun _ h => by cases h
theorem fmc {α : Type} {p : α → Prop} {a : α} {l : List α} (h : p a) (r : ∀ x ∈ l, p x) : ∀ x ∈ a :: l, p x := fun x hx => by
  rcases List.mem_cons.mp hx with e | hx
  · rw [e]
    exact h
  · exact r x hx
theorem new_at {H : Hp} {p : Addr} {o : HO} (h : H p = none) : Same H (upd H p o) ∧ upd H p o p = some o := ⟨same_new h, upd_same⟩
/-! ### what the lists of odd values promise -/
def spOddS (K : PySem.W.Frag) : Sp := fun vs H Q _ => ∃ (p : Addr) (g : Int), vs = [.ref p, .int g] ∧ PurlAt H p ∧ 1 ≤ g ∧ g ≤ big ∧ ∀ v d H', (∀ H2, Off p H' H2 → Pl K H2 v ∧ Sh K H2 v d) → Fits d → inI v 1 big = false → PurlAt H' p → Off p H H' → Q v H'
def spOddC (K : PySem.W.Frag) : Sp := fun vs H Q _ => ∃ (p : Addr) (n r c : Int), vs = [.ref p, .int n, .int r, .int c] ∧ PurlAt H p ∧ InN n (r, c) ∧ n ≤ big ∧ ∀ v d cc H', (∀ H2, Off p H' H2 → TupV K H2 v cc ∧ Sh K H2 v d) → Fits d → cellB n cc = false → PurlAt H' p → Off p H H' → Q v H'
def spOddK (K : PySem.W.Frag) : Sp := fun vs H Q _ => ∃ p : Addr, vs = [.ref p] ∧ PurlAt H p ∧ ∀ v d cc H', (∀ H2, Off p H' H2 → TupV K H2 v cc ∧ Sh K H2 v d) → Fits d → kindB cc = false → PurlAt H' p → Off p H H' → Q v H'
end Sq
namespace Sq
open PySem L2 TL PySem.Spec PyProof.Rows
theorem joinZ_mem (S : List Nat) (m : Nat) : ∀ ps : List (List Nat), (∀ p ∈ ps, p.length ≤ m) → (joinL S ps).length ≤ ps.length * (m + S.length) ∧ ∀ c ∈ joinL S ps, c ∈ S ∨ ∃ p ∈ ps, c ∈ p
  | [], _ => ⟨Nat.zero_le _, fun c hc => by cases hc⟩
  | [p], h => by
    refine ⟨?_, fun c hc => .inr ⟨p, List.mem_cons_self, hc⟩⟩
    have := h p List.mem_cons_self
    show p.length ≤ _
    rw [List.length_singleton]
    omega
  | p :: q :: r, h => by
    obtain ⟨h1, h2⟩ := joinZ_mem S m (q :: r) fun y hy => h y (List.mem_cons_of_mem _ hy)
    refine ⟨?_, fun c hc => ?_⟩
    · have h3 := h p List.mem_cons_self
      show (p ++ (S ++ joinL S (q :: r))).length ≤ _
      rw [List.length_append, List.length_append, show (p :: q :: r).length = (q :: r).length + 1 from rfl, Nat.succ_mul]
      omega
    · rcases List.mem_append.mp hc with z | z
      · exact .inr ⟨p, List.mem_cons_self, z⟩
      · rcases List.mem_append.mp z with z | z
        · exact .inl z
        · rcases h2 c z with y | ⟨y, y1, y2⟩
          · exact .inl y
          · exact .inr ⟨y, List.mem_cons_of_mem _ y1, y2⟩
theorem nS_low : ∀ n : Nat, n < 203 → ∀ c ∈ tl (nS n), c < 128 := by decide +kernel
theorem even_low : ∀ c ∈ tl ("even from " : Str), c < 128 := by decide +kernel
theorem odd_low : ∀ c ∈ tl ("odd from " : Str), c < 128 := by decide +kernel
theorem sep_low : ∀ c ∈ tl (", " : Str), c < 128 := by decide +kernel
theorem none_low : ∀ c ∈ tl ("none" : Str), c < 128 := by decide +kernel
theorem tl_app (x y : Str) : tl (x ++ y) = tl x ++ tl y := by
  simp [tl, Str.cps_append]
theorem parts_low {b : Nat} : ∀ y ∈ partsS b, ∀ c ∈ tl y, c < 128 := by
  intro y hy c hc
  unfold partsS at hy
  have fin : ∀ (p : Str) (n : Nat), (∀ c ∈ tl p, c < 128) → n < 203 → ∀ c ∈ tl (p ++ nS n), c < 128 := fun p n hp hn c hc => by
    rw [tl_app] at hc
    rcases List.mem_append.mp hc with z | z
    · exact hp c z
    · exact nS_low n hn c z
  rcases List.mem_append.mp hy with hy | hy
  · rcases List.mem_append.mp hy with hy | hy
    · obtain ⟨n, hn, rfl⟩ := List.mem_map.mp hy
      exact nS_low n (listed_lt hn) c hc
    · cases e : tailN b 202 with
      | none => rw [e] at hy; cases hy
      | some n =>
        rw [e] at hy
        have := tail_le (by decide) e
        rw [List.mem_singleton.mp hy] at hc
        exact fin _ n even_low (by omega) c hc
  · cases e : tailN b 201 with
    | none => rw [e] at hy; cases hy
    | some n =>
      rw [e] at hy
      have := tail_le (by decide) e
      rw [List.mem_singleton.mp hy] at hc
      exact fin _ n odd_low (by omega) c hc
theorem show_ok (b : Nat) : (showS b).cps.size ≤ 5000 ∧ ∀ c ∈ (showS b).cps.toList, c < 16 ^ 8 := by
  have g : ∀ ws : List Str, ws.length ≤ 205 → (∀ y ∈ ws, y.length ≤ 20) → (∀ y ∈ ws, ∀ c ∈ tl y, c < 128) → (Txt.join ", " ws).cps.size ≤ 5000 ∧ ∀ c ∈ (Txt.join ", " ws).cps.toList, c < 16 ^ 8 := by
    intro ws h1 h2 h3
    rw [join_eq]
    have e := tl_join ", " ws
    obtain ⟨a1, a2⟩ := joinZ_mem (tl ", ") 20 (ws.map tl) fun p hp => by
      obtain ⟨w, hw, rfl⟩ := List.mem_map.mp hp
      rw [← len_tl]
      exact h2 w hw
    have e2 : (tl (", " : Str)).length = 2 := by decide +kernel
    rw [List.length_map, e2] at a1
    refine ⟨?_, fun c hc => ?_⟩
    · show (Str.join ", " ws).length ≤ 5000
      rw [len_tl, e]
      omega
    · have hc2 : c ∈ tl (Str.join ", " ws) := hc
      rw [e] at hc2
      have : c < 128 := by
        rcases a2 c hc2 with z | ⟨p, hp, z⟩
        · exact sep_low c z
        · obtain ⟨w, hw, rfl⟩ := List.mem_map.mp hp
          exact h3 w hw c z
      omega
  unfold showS
  split
  · refine g _ (by simp) (fun y hy => ?_) (fun y hy => ?_)
    · rw [List.mem_singleton.mp hy]; decide +kernel
    · rw [List.mem_singleton.mp hy]; exact none_low
  · exact g _ parts_len parts_each parts_low
def dO : Option Nat → PyData
  | none => .none
  | some n => .int (n : Nat)
def dTold (b : Nat) : PyData := .list [.tuple ((listedN b).map fun n => .int (n : Nat)), dO (tailN b 202), dO (tailN b 201), dO (leastS b), .str (showS b)]
theorem dO_f {s : Option Nat} (h : ∀ n, s = some n → n < 203) : F0 (dO s) ∧ (dO s).bulk = 0 ∧ (dO s).depth ≤ 1 := by
  cases s with
  | none => exact ⟨f0_non, by simp only [dO, PyData.bulk], by simp only [dO, PyData.depth]; omega⟩
  | some n =>
    have := h n rfl
    exact ⟨f0_int (by unfold lim40; omega) (by unfold lim40; omega), by simp only [dO, PyData.bulk], by simp only [dO, PyData.depth]; omega⟩
theorem nums_b : ∀ l : List Nat, PyData.bulkAll (l.map fun n => .int (n : Nat)) = l.length ∧ PyData.depthAll (l.map fun n => .int (n : Nat)) ≤ 1
  | [] => ⟨by simp only [List.map_nil, PyData.bulkAll]; rfl, by simp only [List.map_nil, PyData.depthAll]; omega⟩
  | n :: l => by
    obtain ⟨h1, h2⟩ := nums_b l
    refine ⟨by simp only [List.map_cons, PyData.bulkAll, PyData.bulk, h1, List.length_cons]; omega, ?_⟩
    simp only [List.map_cons, PyData.depthAll, PyData.depth]
    omega
theorem least_lt {b n : Nat} (h : leastS b = some n) : n < 203 := by
  unfold leastS at h
  exact List.mem_range.mp (List.mem_filter.mp (List.mem_of_mem_head? h)).1
theorem told_fits (b : Nat) : (dTold b).showable = true ∧ (dTold b).hasDict = false ∧ (dTold b).depth ≤ 20 ∧ (dTold b).shown.length ≤ sizeLine := by
  obtain ⟨a1, a2, a3⟩ := dO_f (s := tailN b 202) fun n e => by have := tail_le (by decide) e; omega
  obtain ⟨b1, b2, b3⟩ := dO_f (s := tailN b 201) fun n e => by have := tail_le (by decide) e; omega
  obtain ⟨c1, c2, c3⟩ := dO_f (s := leastS b) fun n e => least_lt e
  obtain ⟨d1, d2⟩ := show_ok b
  have d3 := f0_str (showS b) (by rw [List.all_eq_true]; exact fun c hc => decide_eq_true (d2 c hc))
  obtain ⟨e1, e2⟩ := nums_b (listedN b)
  have e3 : F0 (.tuple ((listedN b).map fun n => .int (n : Nat))) := f0_tup fun d hd => by
    obtain ⟨n, hn, rfl⟩ := List.mem_map.mp hd
    have := listed_lt hn
    exact f0_int (by unfold lim40; omega) (by unfold lim40; omega)
  have f : F0 (dTold b) := f0_lst fun d hd => by
    simp only [List.mem_cons, List.not_mem_nil, or_false] at hd
    rcases hd with rfl | rfl | rfl | rfl | rfl
    · exact e3
    · exact a1
    · exact b1
    · exact c1
    · exact d3
  have hl := listed_len b
  have z := PyData.shown_le_bulk 1921 (by decide) (dTold b) f.2.1
  have bk : (dTold b).bulk ≤ 5300 := by
    simp only [dTold, PyData.bulk, PyData.bulkAll, e1, a2, b2, c2]
    omega
  refine ⟨f.1, f.2.2, ?_, ?_⟩
  · simp only [dTold, PyData.depth, PyData.depthAll]
    omega
  · rw [sizeLine_eq]
    omega
/-- what _law_told and _law_shape give -/
def BookAt (H : Hp) (D : Addr) (b : Nat) : Prop := ∃ t, H D = some (.lst [.ref t, natO (tailN b 202), natO (tailN b 201), natO (leastS b), .str (showS b)]) ∧ H t = some (.tup (natsV (listedN b)))
theorem BookAt.ext {H H' : Hp} {D : Addr} {b : Nat} (e : Same H H') (h : BookAt H D b) : BookAt H' D b := by
  obtain ⟨t, h1, h2⟩ := h
  exact ⟨t, e _ _ h1, e _ _ h2⟩
theorem dp_o {K : PySem.W.Frag} {H : Hp} (s : Option Nat) : Dp K H (natO s) (dO s) := by
  cases s with
  | none => exact .non
  | some n => exact .int _
theorem dp_nats {K : PySem.W.Frag} {H : Hp} : ∀ ns : List Nat, DpAll K H (natsV ns) (ns.map fun n => .int (n : Nat))
  | [] => .nil
  | n :: ns => .cons (.int _) (dp_nats ns)
theorem BookAt.dp {K : PySem.W.Frag} {H : Hp} {D : Addr} {b : Nat} (h : BookAt H D b) : Dp K H (.ref D) (dTold b) := by
  obtain ⟨t, h1, h2⟩ := h
  exact .lst (SqL.of h1) (.cons (.tup (SqT.of h2) (dp_nats _)) (.cons (dp_o _) (.cons (dp_o _) (.cons (dp_o _) (.cons (.str _) .nil)))))
end Sq
namespace Sq
open PySem L2 PySem.Spec PyProof.Rows
/-! ### str(o) by a class's own __str__ -/
section
variable {prog : Program} {w : World}
theorem meets_strO (a : Addr) : MeetsIn prog w (Builtin.«str.__new__» ⟨[.type "str", .ref a], []⟩)
    (fun A R s => wpAny (model prog w) A.in1 (Builtin.Str.strOf (.ref a)) (fun r s' => R (.ok (.ret r)) s') (fun e s' => R (.error e) s') s) :=
  MeetsIn.of_wp fun A R s h => by
    rw [PySem.str_new_tree (.ref a)]
    refine wpAny_bind (wpAny_pure ?_)
    refine wpAny_bind (wpAny_of_eq isSubtype_str_str ?_)
    exact wpAny_bind (wpAny_mono h (fun r s' h' => wpAny_pure ⟨_, rfl, h'⟩) fun _ _ e => e)
end
section
variable {X : Cx} {k : Nat} {f C : Addr} {sp : Sp}
theorem call_strO (hs : PySem.W.findIn X.K (.ref C) "__str__" = some (some (.ref f))) (hf : PySem.W.isFn X.K (.ref f) = true) (F : FnR X.prog X.w X.K X.mg X.base CX0 k f sp) (hr : Room (k + 2) X.A) :
    CallR X (.type "str") (fun xs H Q => ∃ a dx fs, xs = [.ref a] ∧ H a = some (.ins C dx fs) ∧ sp [.ref a] H (fun v H' => ∃ z, v = .str z ∧ Q (.str z) H') E0) := by
  intro pins s σ H xs us Q I r h
  obtain ⟨a, dx, fs, rfl, ha, q⟩ := h
  obtain ⟨u, rfl, r1⟩ := vals1 r
  cases r1
  obtain ⟨mA, J, _⟩ := ins_get I.hok ha
  obtain ⟨od, J, _⟩ := J.look
  have hu : X.A.in1.in1.units < cLine := hr.in1.in1.units0
  refine callType_newIn PySem.F.called_str (by decide) (PySem.F.typeCall_str_1 _) (PySem.F.newCall_str_1 _) (fun obj => PySem.F.args_object_init_2 obj _) PySem.F.entry_str_new (meets_strO a) ?_
  show wpAny (model X.prog X.w) X.A.in1.in1 (Builtin.Str.strOf (.ref a)) _ _ s
  unfold Builtin.Str.strOf
  refine wpAny_bind (wpAny_cRoomFor hu ?_)
  refine wpAny_bind (PySem.W.special_fn I.kIn J hs (beq_iff_eq.mp hf) (wpAny_mono (run_below F hr.in1.in1 rfl I (rel1 a) q) (fun v s' hv => ?_) fun _ _ z => z))
  obtain ⟨y, H', I', ry, z, ey, q'⟩ := hv
  subst ey
  obtain ⟨t, rfl⟩ := ry
  refine wpAny_bind (wpAny_pure ?_)
  exact wpAny_pure ⟨PySem.typeIs_str _ _ _, ⟨.str z, H', I', ⟨_, rfl⟩, q'⟩⟩
end
end Sq
namespace Sq
open PySem L2 PySem.Spec PyProof.Rows
/-- xs != [], whatever xs holds -/
def rNeNil (K : PySem.W.Frag) : R2 := fun x y H Q => ∃ (a b : Addr) (xs : List V), x = .ref a ∧ y = .ref b ∧ SqL K H a xs ∧ SqL K H b [] ∧ Q (.bl (!decide (xs.length = 0))) H
theorem op_neNil {X : Cx} {k : Nat} (hr : Room k X.A) : OpR X (compareOp .NotEq) (rNeNil X.K) := by
  intro pins s σ H x y v u Q I rx ry h
  obtain ⟨a, b, xs, rfl, rfl, ha, hb, q⟩ := h
  cases rx
  cases ry
  obtain ⟨us, r1, p1, _⟩ := I.list ha
  obtain ⟨ws, r2, p2, _⟩ := I.list hb
  cases r2
  show wpAny (model X.prog X.w) X.A (richCompare .NotEq (.ref a) (.ref b)) (EP X pins σ Q) X.xe s
  by_cases hx : xs = []
  · subst hx
    cases r1
    have q : Q (.bl false) H := q
    exact SeqAt.RcNeAt.lists (e := fun _ => true) p1.isList p2.isList rfl hr.units0 (fun j h1 _ => absurd h1 (Nat.not_lt_zero j)) _ _ _ _ ⟨.bl false, H, I, rfl, q⟩
  · have hz : xs.length ≠ 0 := fun e => hx (List.length_eq_zero_iff.mp e)
    rw [decide_eq_false hz] at q
    refine SeqAt.RcNeAt.lists_lengths p1.isList p2.isList ?_ hr.units0 _ _ _ _ ⟨.bl true, H, I, rfl, q⟩
    rw [List.size_toArray, ← r1.length]
    simpa using hx
end Sq
namespace Sq
open PySem L2 TL
section
variable {P : Program} {w : World} {K : PySem.W.Frag} {mg : Str → Option Value} {base : Heap}
/-- all that the law asks of the class Sizes -/
structure ZX (P : Program) (w : World) (K : PySem.W.Frag) (mg : Str → Option Value) (base : Heap) (C tE : Addr) : Prop where
  z : ZK P w K mg base C tE
  pl : ∃ p g d, PropOf K C "listed" p g ∧ FnOk P w K mg base CX0 5 g d ["self"] (spListed C) ∧ Binds K d ["self"] []
  pm : ∃ p g d, PropOf K C "least" p g ∧ FnOk P w K mg base CX0 2 g d ["self"] (spZLeast C) ∧ Binds K d ["self"] []
  st : ∃ f, PySem.W.findIn K (.ref C) "__str__" = some (some (.ref f)) ∧ PySem.W.isFn K (.ref f) = true ∧ FnR P w K mg base CX0 7 f (spStr C)
  bo : ∃ f, PySem.W.findIn K (.ref C) "__bool__" = some (some (.ref f)) ∧ PySem.W.isFn K (.ref f) = true ∧ FnR P w K mg base CX0 1 f (spZBool C)
def spTold (C : Addr) : Sp := fun vs H Q _ => ∃ (a : Addr) (b : Nat), vs = [.ref a] ∧ SetAt C H a b ∧ b < 2 ^ 203 ∧ ∀ D H', H D = none → Same H H' → BookAt H' D b → Q (.ref D) H'
def spHasL (K : PySem.W.Frag) : Sp := fun vs H Q _ => ∃ (a t : Addr) (ns : List Nat) (e o : Option Nat) (n : Nat), vs = [.ref a, .ref t, .int (n : Nat)] ∧ SqL K H a (natsV ns) ∧ SqL K H t [natO e, natO o] ∧ Q (.bl (decide (n ∈ ns) || inTail (if n % 2 = 0 then e else o) n)) H
/-- the law's own description of a set -/
def DescAt (K : PySem.W.Frag) (H : Hp) (a t : Addr) (ns : List Nat) (e o : Option Nat) : Prop := SqL K H a (natsV ns) ∧ SqL K H t [natO e, natO o] ∧ LsOk ns ∧ TlOk 0 e ∧ TlOk 1 o
theorem DescAt.ext {K : PySem.W.Frag} {H H' : Hp} {a t : Addr} {ns : List Nat} {e o : Option Nat} (s : Same H H') (h : DescAt K H a t ns e o) : DescAt K H' a t ns e o := ⟨h.1.ext s, h.2.1.ext s, h.2.2⟩
def spTruths (K : PySem.W.Frag) : Sp := fun vs H Q _ => ∃ (a t : Addr) (ns : List Nat) (e o : Option Nat), vs = [.ref a, .ref t] ∧ DescAt K H a t ns e o ∧ ∀ D H', H D = none → Same H H' → H' D = some (.lst (truthsV (madeN ns e o))) → Q (.ref D) H'
def spMadeZ (K : PySem.W.Frag) (C : Addr) : Sp := fun vs H Q _ => ∃ (a t : Addr) (ns : List Nat) (e o : Option Nat), vs = [.ref a, .ref t] ∧ DescAt K H a t ns e o ∧ ∀ x H', H x = none → Same H H' → SetAt C H' x (madeN ns e o) → Q (.ref x) H'
theorem flat_nats : ∀ ns : List Nat, (natsV ns).all flatV = true
  | [] => rfl
  | n :: ns => by
    show (flatV (.int (n : Nat)) && (natsV ns).all flatV) = true
    rw [flat_nats ns]
    rfl
abbrev s__law_told : Stmt := top 29
theorem sc__law_told : FnScope ["_law_box"] ["_law_box"] (defScope s__law_told) := ⟨rfl, rfl, rfl, by decide +kernel, rfl, by decide +kernel, by decide +kernel⟩
theorem ok__law_told {f C tE : Addr} {fd : FuncData} (F : Fun K "_law_told" "_law_told" s__law_told f fd) (T : Bt mg) (X : ZX P w K mg base C tE) : FnOk P w K mg base CX0 10 f fd ["_law_box"] (spTold C) := by
  refine F.ok sc__law_told (fun vs H Q E h => ?_) (fun cdv A outer s H vs Q E hr h => ?_)
  · obtain ⟨a, b, rfl, _⟩ := h
    rfl
  · obtain ⟨p1, g1, d1, P1, G1, B1⟩ := X.z.pe
    obtain ⟨p2, g2, d2, P2, G2, B2⟩ := X.z.po
    obtain ⟨p3, g3, d3, P3, G3, B3⟩ := X.pl
    obtain ⟨p4, g4, d4, P4, G4, B4⟩ := X.pm
    obtain ⟨f5, h5, i5, F5⟩ := X.st
    have N := X.z.zc
    obtain ⟨a, b, rfl, hs, hb, q⟩ := h
    obtain ⟨dx, ha⟩ := id hs
    refine ⟨_, (pss_one (ps_ret (pe_lst (pa_cons (pe_prop (pv 0) N.cl P3 G3 (hr.mono (show 6 ≤ 9 by decide)) B3 .nil pass0 rfl) (pa_cons (pe_prop (pv 0) N.cl P1 G1 (hr.mono (show 4 ≤ 9 by decide)) B1 .nil pass0 rfl) (pa_cons (pe_prop (pv 0) N.cl P2 G2 (hr.mono (show 4 ≤ 9 by decide)) B2 .nil pass0 rfl) (pa_cons (pe_prop (pv 0) N.cl P4 G4 (hr.mono (show 3 ≤ 9 by decide)) B4 .nil pass0 rfl) (pa_cons (pe_callTy (call_strO h5 i5 F5 hr) (by rfl) T.str (by decide +kernel) (pa_cons (pv 0) pa_nil)) pa_nil)))))))), ?_⟩
    refine ⟨_, rfl, a, dx, _, rfl, ha, a, b, rfl, hs, hb, fun t H1 nt s1 ht => ?_⟩
    refine ⟨_, rfl, a, dx, _, rfl, s1 _ _ ha, a, b, rfl, hs.ext s1, by omega, ?_⟩
    refine ⟨_, rfl, a, dx, _, rfl, s1 _ _ ha, a, b, rfl, hs.ext s1, by omega, ?_⟩
    refine ⟨_, rfl, a, dx, _, rfl, s1 _ _ ha, a, b, rfl, hs.ext s1, hb, ?_⟩
    refine ⟨_, rfl, a, dx, _, rfl, s1 _ _ ha, a, b, rfl, hs.ext s1, hb, fun H2 s2 => ⟨_, rfl, ?_⟩⟩
    refine ⟨by show 5 ≤ sizeLine; decide, fun D nD => ?_⟩
    have s3 := same_new (o := .lst [V.ref t, natO (tailN b 202), natO (tailN b 201), natO (leastS b), .str (showS b)]) nD
    refine q D _ ?_ ((s1.trans s2).trans s3) ⟨t, upd_same, s3 _ _ (s2 _ _ ht)⟩
    cases e : H D with
    | none => rfl
    | some o => rw [s2 _ _ (s1 _ _ e)] at nD; cases nD
abbrev s__law_has : Stmt := top 27
theorem sc__law_has : FnScope ["_law_chosen", "_law_tails", "_law_size", "_law_begin"] ["_law_chosen", "_law_tails", "_law_size"] (defScope s__law_has) := ⟨rfl, rfl, rfl, by decide +kernel, rfl, by decide +kernel, by decide +kernel⟩
theorem ok__law_has {f : Addr} {fd : FuncData} (F : Fun K "_law_has" "_law_has" s__law_has f fd) (T : Bt mg)  : FnOk P w K mg base CX0 1 f fd ["_law_chosen", "_law_tails", "_law_size"] (spHasL K) := by
  refine F.ok sc__law_has (fun vs H Q E h => ?_) (fun cdv A outer s H vs Q E hr h => ?_)
  · obtain ⟨a, t, ns, e, o, n, rfl, _⟩ := h
    rfl
  · obtain ⟨a, t, ns, e, o, n, rfl, hS, hT, q⟩ := h
    refine ⟨_, (pss_cons (ps_set (i := 3) sc__law_has.nd rfl (by first | exact .inl rfl | exact .inr rfl) (pe_ix ix_list (pv 1) (pe_op op_mod (pe_callTy call_int1 (by rfl) T.int (by decide +kernel) (pa_cons (pv 2) pa_nil)) pe_int) (fun _ _ => rfl)))
        (pss_one (ps_ret (pe_or (pe_cmpR op_in_seq (pv 2) (pv 0) (by with_unfolding_all rfl))
            (pe_one (pe_and (pe_cmpR op_notN (pv 3) pe_non (nomark _))
            (pe_one (pe_cmpR op_le (pv 3) (pv 2) (nomark _))))))))), ?_⟩
    have hx : atI [natO e, natO o] ((n : Int) % 2) = some (natO (if n % 2 = 0 then e else o)) := by
      rw [show (n : Int) % 2 = ((n % 2 : Nat) : Int) by omega]
      refine atI_nat ?_
      rcases (show n % 2 = 0 ∨ n % 2 = 1 by omega) with h | h
      · rw [h]; rfl
      · rw [h]; rfl
    refine ⟨_, rfl, _, rfl, .inl ⟨_, rfl, _, _, rfl, rfl, (by show (0 : Int) < 2; decide), t, _, _, _, rfl, rfl, hT, hx, ?_⟩⟩
    refine ⟨_, rfl, _, rfl, a, natsV ns, rfl, .inl hS, rfl, flat_nats ns, ?_⟩
    rw [in_nats]
    refine ⟨_, rfl, ?_⟩
    by_cases hn : n ∈ ns
    · have q : Q (V.bl true) H := by simpa [hn] using q
      exact ite2 (fun _ => q) (fun z => absurd hn (of_decide_eq_false (by simpa using z)))
    · rw [decide_eq_false hn] at q ⊢
      refine iteF ?_
      cases hb : (if n % 2 = 0 then e else o) with
      | none =>
        rw [hb] at q
        refine ⟨_, rfl, rfl, _, rfl, ?_⟩
        exact iteF q
      | some m =>
        rw [hb] at q
        refine ⟨_, rfl, rfl, _, rfl, ?_⟩
        refine iteT ?_
        refine ⟨_, rfl, _, rfl, _, _, rfl, rfl, ?_⟩
        have e1 : decide ((m : Int) ≤ (n : Int)) = decide (m ≤ n) := by
          by_cases h : m ≤ n
          · rw [decide_eq_true h, decide_eq_true (by omega)]
          · rw [decide_eq_false h, decide_eq_false (by omega)]
        show Q (V.bl (decide ((m : Int) ≤ (n : Int)))) H
        rw [e1]
        exact q
abbrev s__law_truths : Stmt := top 33
theorem sc__law_truths : FnScope ["_law_chosen", "_law_tails", "_law_size"] ["_law_chosen", "_law_tails"] (defScope s__law_truths) := ⟨rfl, rfl, rfl, by decide +kernel, rfl, by decide +kernel, by decide +kernel⟩
theorem ok__law_truths {f : Addr} {fd : FuncData} (F : Fun K "_law_truths" "_law_truths" s__law_truths f fd) (T : Bt mg) (G__law_has : FB P w K mg base "_law_has" 1 ["_law_chosen", "_law_tails", "_law_size"] (spHasL K)) : FnOk P w K mg base CX0 2 f fd ["_law_chosen", "_law_tails"] (spTruths K) := by
  refine F.ok sc__law_truths (fun vs H Q E h => ?_) (fun cdv A outer s H vs Q E hr h => ?_)
  · obtain ⟨a, t, ns, e, o, rfl, _⟩ := h
    rfl
  · obtain ⟨a, t, ns, e, o, rfl, hd, q⟩ := h
    refine ⟨_, (pss_one (ps_ret (pe_lc (own := [("_law_size", 2)]) (g := gName 2) (by rfl) sc__law_truths.nd (pi_range2 (by rfl) T.range (pa_cons pe_int (pa_cons pe_int pa_nil))) (blkOk_by (own := [("_law_size", 2)]) (N := ["_law_chosen", "_law_tails", "_law_size"]) (sc := defScope s__law_truths) (by decide +kernel))
            (fun _ _ _ _ _ => (pg_name (i := 2) sc__law_truths.nd rfl (by first | exact .inl rfl | exact .inr rfl))) (fun _ _ _ _ _ => pts_nil) (fun _ _ _ _ _ => (pe_fb G__law_has hr (by decide) (by rfl) (pa_cons (pv 0) (pa_cons (pv 1) (pa_cons (pv 2) pa_nil)))))))), ?_⟩
    refine ⟨1, 205, rfl, ⟨by decide, by decide, by decide, by decide⟩, fun D nD => ?_⟩
    refine lc_range (lo := 1) (n := 204) (fun j H' => Same H H' ∧ H' D = some (.lst (((List.range' 1 j).map (hasN (madeN ns e o))).map V.bl))) ⟨same_new nD, upd_same⟩ (fun j H' hj h => ?_) (fun H' h => ?_)
    · obtain ⟨sm, hD⟩ := h
      refine ⟨rfl, ?_⟩
      have hd' := hd.ext sm
      refine ⟨_, rfl, _, rfl, _, rfl, a, t, ns, e, o, 1 + j, rfl, hd'.1, hd'.2.1, ?_⟩
      refine ⟨_, hD, ?_, ?_, ?_⟩
      · rw [List.length_map, List.length_map, List.length_range', sizeLine_eq]; omega
      · intro c x hx
        rw [upd_ne (fun z => by rw [z, nD] at hx; cases hx)]
        exact sm _ _ hx
      · rw [upd_same, List.range'_1_concat, List.map_append, List.map_append, ← has_made hd.2.2.1 hd.2.2.2.1 hd.2.2.2.2 (by omega)]
        rfl
    · obtain ⟨sm, hD⟩ := h
      exact q D H' nD sm hD
abbrev s__law_made : Stmt := top 30
theorem sc__law_made : FnScope ["_law_chosen", "_law_tails"] ["_law_chosen", "_law_tails"] (defScope s__law_made) := ⟨rfl, rfl, rfl, by decide +kernel, rfl, by decide +kernel, by decide +kernel⟩
theorem ok__law_made {f C tE : Addr} {fd : FuncData} (F : Fun K "_law_made" "_law_made" s__law_made f fd) (T : Bt mg) (X : ZX P w K mg base C tE) : FnOk P w K mg base CX0 6 f fd ["_law_chosen", "_law_tails"] (spMadeZ K C) := by
  refine F.ok sc__law_made (fun vs H Q E h => ?_) (fun cdv A outer s H vs Q E hr h => ?_)
  · obtain ⟨a, t, ns, e, o, rfl, _⟩ := h
    rfl
  · obtain ⟨fi, fd0, M, F0, FZ⟩ := X.z.mks
    obtain ⟨ds1, hv1, bb1⟩ := bz1 FZ
    obtain ⟨ds2, hv2, bb2⟩ := bz2 FZ
    obtain ⟨iO, vO, kO⟩ := bzO FZ
    obtain ⟨iE, vE, kE⟩ := bzE FZ
    obtain ⟨iB, vB, kB⟩ := bzB FZ
    obtain ⟨a, t, ns, e, o, rfl, hd, q⟩ := h
    refine ⟨_, (pss_cons (ps_if (pt_cmpR (op_eqD hr.units) (pv 1) (pe_lst (pa_cons pe_non (pa_cons pe_non pa_nil))) (nomark _))
        (pss_one (ps_ret (pe_ifExp (pt_cmpR (op_neNil hr) (pv 0) (pe_lst pa_nil) (nomark _)) (pe_make M F0 hr (by rfl) X.z.mC bb2 hv2 pass0 (pa_cons (pe_callTy call_tuple_of (by rfl) T.tuple (by decide +kernel) (pa_cons (pv 0) pa_nil)) pa_nil)) (pe_make0 M F0 hr (by rfl) X.z.mC bb1 hv1 pass0))))
        pss_nil)
        (pss_cons (ps_if (pt_cmpR op_isN (pe_ix ix_list (pv 1) pe_int (fun _ _ => rfl)) pe_non (nomark _))
        (pss_one (ps_ret (pe_makeK M F0 hr (by rfl) X.z.mC kO pass0 (pa_cons (pe_callTy call_tuple_of (by rfl) T.tuple (by decide +kernel) (pa_cons (pv 0) pa_nil)) pa_nil) (pk_cons (pe_ix ix_list (pv 1) pe_int (fun _ _ => rfl)) pk_nil))))
        pss_nil)
        (pss_cons (ps_if (pt_cmpR op_isN (pe_ix ix_list (pv 1) pe_int (fun _ _ => rfl)) pe_non (nomark _))
        (pss_one (ps_ret (pe_makeK M F0 hr (by rfl) X.z.mC kE pass0 (pa_cons (pe_callTy call_tuple_of (by rfl) T.tuple (by decide +kernel) (pa_cons (pv 0) pa_nil)) pa_nil) (pk_cons (pe_ix ix_list (pv 1) pe_int (fun _ _ => rfl)) pk_nil))))
        pss_nil)
        (pss_one (ps_ret (pe_makeK M F0 hr (by rfl) X.z.mC kB pass0 (pa_cons (pe_callTy call_tuple_of (by rfl) T.tuple (by decide +kernel) (pa_cons (pv 0) pa_nil)) pa_nil) (pk_cons (pe_ix ix_list (pv 1) pe_int (fun _ _ => rfl)) (pk_cons (pe_ix ix_list (pv 1) pe_int (fun _ _ => rfl)) pk_nil)))))))), ?_⟩
    obtain ⟨hS, hT, hl, he, ho⟩ := hd
    refine ⟨_, rfl, (by show 2 ≤ sizeLine; decide), fun p np => ?_⟩
    have s1 := same_new (o := .lst [V.non, V.non]) np
    refine ⟨.list [dO e, dO o], .list [.none, .none], .lst (hT.ext s1) (.cons (dp_o e) (.cons (dp_o o) .nil)), .lst (SqL.of upd_same) (.cons .non (.cons .non .nil)), (by cases e <;> cases o <;> rfl), rfl, ?_⟩
    have fin : ∀ (H1 : Hp), Same H H1 → ∀ (tt : Addr), SqT K H1 tt (natsV ns) → ∀ x dx, H1 x = none → H1 dx = none → dx ≠ x →
        spZInit K C [.ref x, .ref tt, natO e, natO o] (upd (upd H1 dx (.own x)) x (.ins C dx [])) (fun v H3 => v = .non ∧ Q (.ref x) H3) E0 := by
      intro H1 sH tt hTt x dx nx nd hne
      have s2 : Same H1 (upd (upd H1 dx (.own x)) x (.ins C dx [])) := fun c y hc => by
        rw [upd_ne (fun z => by rw [z, nx] at hc; cases hc), upd_ne (fun z => by rw [z, nd] at hc; cases hc)]
        exact hc
      refine ⟨x, dx, tt, ns, e, o, rfl, upd_same, hTt.ext s2, hl, he, ho, fun H3 s3 => ⟨rfl, ?_⟩⟩
      have nxH : H x = none := by
        cases z : H x with
        | none => rfl
        | some y => rw [sH _ _ z] at nx; cases nx
      refine q x _ nxH (fun c y hc => ?_) ⟨dx, upd_same⟩
      rw [upd_ne (fun z => by rw [z, nxH] at hc; cases hc)]
      exact s3 _ _ (s2 _ _ (sH _ _ hc))
    have tup : ∀ (H1 : Hp), Same H H1 → ∀ l, H1 l = none → Same H (upd H1 l (.tup (natsV ns))) ∧ SqT K (upd H1 l (.tup (natsV ns))) l (natsV ns) := fun H1 sH l nl => ⟨sH.trans (same_new nl), SqT.of upd_same⟩
    cases e with
    | none =>
      cases o with
      | none =>
        refine ⟨_, rfl, ?_⟩
        refine iteT ?_
        refine ⟨_, rfl, (by show 0 ≤ sizeLine; decide), fun p2 np2 => ?_⟩
        have s2 := s1.trans (same_new (o := .lst []) np2)
        refine ⟨a, p2, natsV ns, rfl, rfl, hS.ext s2, SqL.of upd_same, _, rfl, ?_⟩
        by_cases h0 : ns = []
        · have e0 : decide ((natsV ns).length = 0) = true := by rw [h0]; rfl
          rw [e0]
          refine iteF ?_
          intro x dx nx nd hne
          exact fin _ s2 tE (by rw [h0]; exact X.z.e0 _) x dx nx nd hne
        · have e0 : decide ((natsV ns).length = 0) = false := by
            refine decide_eq_false fun z => h0 ?_
            unfold natsV at z
            rw [List.length_map] at z
            exact List.eq_nil_of_length_eq_zero z
          rw [e0]
          refine iteT ?_
          refine ⟨_, rfl, a, _, rfl, .inl ⟨hS.ext s2, fun l nl => ?_⟩⟩
          intro x dx nx nd hne
          exact fin _ (tup _ s2 l nl).1 l (tup _ s2 l nl).2 x dx nx nd hne
      | some o =>
        refine ⟨_, rfl, ?_⟩
        refine iteF ?_
        refine ⟨_, rfl, t, _, 0, _, rfl, rfl, hT.ext s1, rfl, rfl, _, rfl, ?_⟩
        refine iteT ?_
        refine ⟨_, rfl, a, _, rfl, .inl ⟨hS.ext s1, fun l nl => ?_⟩⟩
        refine ⟨_, rfl, t, _, 1, _, rfl, rfl, (hT.ext (tup _ s1 l nl).1), rfl, rfl, rfl, ?_⟩
        intro x dx nx nd hne
        exact fin _ (tup _ s1 l nl).1 l (tup _ s1 l nl).2 x dx nx nd hne
    | some e =>
      have er : ∀ z : Option Nat, PyData.eqv (.list [dO (some e), dO z]) (.list [.none, .none]) = false := fun z => by cases z <;> rfl
      rw [er]
      refine ⟨_, rfl, ?_⟩
      refine iteF ?_
      refine ⟨_, rfl, t, _, 0, _, rfl, rfl, hT.ext s1, rfl, rfl, _, rfl, ?_⟩
      refine iteF ?_
      refine ⟨_, rfl, t, _, 1, _, rfl, rfl, hT.ext s1, rfl, ?_⟩
      cases o with
      | none =>
        refine ⟨rfl, _, rfl, ?_⟩
        refine iteT ?_
        refine ⟨_, rfl, a, _, rfl, .inl ⟨hS.ext s1, fun l nl => ?_⟩⟩
        refine ⟨_, rfl, t, _, 0, _, rfl, rfl, (hT.ext (tup _ s1 l nl).1), rfl, rfl, rfl, ?_⟩
        intro x dx nx nd hne
        exact fin _ (tup _ s1 l nl).1 l (tup _ s1 l nl).2 x dx nx nd hne
      | some o =>
        refine ⟨rfl, _, rfl, ?_⟩
        refine iteF ?_
        refine ⟨_, rfl, a, _, rfl, .inl ⟨hS.ext s1, fun l nl => ?_⟩⟩
        refine ⟨_, rfl, t, _, 1, _, rfl, rfl, (hT.ext (tup _ s1 l nl).1), rfl, ?_⟩
        refine ⟨_, rfl, t, _, 0, _, rfl, rfl, (hT.ext (tup _ s1 l nl).1), rfl, rfl, rfl, ?_⟩
        intro x dx nx nd hne
        exact fin _ (tup _ s1 l nl).1 l (tup _ s1 l nl).2 x dx nx nd hne
end
end Sq
namespace Sq
open PySem L2 TL
section
variable {P : Program} {w : World} {K : PySem.W.Frag} {mg : Str → Option Value} {base : Heap}
def spListedL : Sp := fun vs H Q _ => ∃ p : Addr, vs = [.ref p] ∧ PurlAt H p ∧ ∀ D ns H', H D = none → PurlAt H' p → Off p H H' → H' D = some (.lst (natsV ns)) → LsOk ns → Q (.ref D) H'
def spTailL (K : PySem.W.Frag) : Sp := fun vs H Q _ => ∃ (p a : Addr) (ns : List Nat) (r : Nat), vs = [.ref p, .ref a, .int (r : Nat)] ∧ PurlAt H p ∧ H a = some (.lst (natsV ns)) ∧ a ≠ p ∧ LsOk ns ∧ r < 2 ∧ ∀ s H', PurlAt H' p → Off p H H' → TlOk r s → Q (natO s) H'
abbrev s__law_purl : Stmt := top 34
theorem sc__law_purl : FnScope ["_law_script", "_law_spot", "_law_mixed", "_law_cell", "_law_own"] ["_law_script", "_law_spot"] (defScope s__law_purl) := ⟨rfl, rfl, rfl, by decide +kernel, rfl, by decide +kernel, by decide +kernel⟩
theorem ok__law_purl {f : Addr} {fd : FuncData} (F : Fun K "_law_purl" "_law_purl" s__law_purl f fd) (T : Bt mg)  : FnOk P w K mg base CX0 1 f fd ["_law_script", "_law_spot"] (spPurl K) := by
  refine F.ok sc__law_purl (fun vs H Q E h => ?_) (fun cdv A outer s H vs Q E hr h => ?_)
  · obtain ⟨a, ns, k, rfl, _⟩ := h
    rfl
  · obtain ⟨a, ns, k, rfl, hS, hl, k1, q⟩ := h
    refine ⟨_, (pss_cons (ps_set (i := 2) sc__law_purl.nd rfl (by first | exact .inl rfl | exact .inr rfl) (pe_op op_add pe_int (pe_op op_mul pe_int (pv 1))))
        (pss_cons (ps_for PassesOwn.never rfl (pi_list (pe_op op_cat (pe_slice sl_list (pv 0) po_none (po_some pe_int)) (pe_slice sl_list (pv 0) (po_some (pv 1)) (po_some (pe_op op_add (pv 1) pe_int))))) (pg_name (i := 3) sc__law_purl.nd rfl (by first | exact .inl rfl | exact .inr rfl))
        (pss_one (ps_set (i := 2) sc__law_purl.nd rfl (by first | exact .inl rfl | exact .inr rfl) (pe_op op_mod (pe_callTy call_int1 (by rfl) T.int (by decide +kernel) (pa_cons (pe_op op_add (pe_op op_add (pe_op op_mul (pv 2) pe_int) (pv 3)) pe_int) pa_nil)) pe_int))))
        (pss_cons (ps_set (i := 4) sc__law_purl.nd rfl (by first | exact .inl rfl | exact .inr rfl) (pe_ifExp (pt_cmpR op_lt (pv 1) (pe_callB call_len_seq (by rfl) T.len PySem.boot_len (pa_cons (pv 0) pa_nil)) (nomark _)) (pe_ix ix_list (pv 0) (pv 1) (fun _ _ => rfl)) pe_int))
        (pss_one (ps_ret (pe_lst (pa_cons (pv 2) (pa_cons (pe_ifExp (pt_cmpR op_ge (pe_callB call_abs (by rfl) T.abs (by decide +kernel) (pa_cons (pv 4) pa_nil)) (pe_op op_pow pe_int pe_int) (nomark _)) (pe_callB call_abs (by rfl) T.abs (by decide +kernel) (pa_cons (pv 4) pa_nil)) pe_int) pa_nil)))))))), ?_⟩
    refine ⟨_, rfl, _, _, rfl, rfl, .inl ⟨by decide, by decide⟩, _, _, rfl, rfl, ?_⟩
    refine ⟨_, rfl, _, rfl, a, _, rfl, hS, fun p np => ?_⟩
    have s1 := same_new (o := .lst (cutV (ns.map V.int) none (some 2))) np
    refine ⟨_, rfl, _, rfl, _, rfl, _, rfl, _, _, rfl, rfl, _, rfl, a, _, rfl, hS.ext s1, fun p2 np2 => ?_⟩
    have s2 := same_new (o := .lst (cutV (ns.map V.int) (some (k : Int)) (some ((k : Int) + 1)))) np2
    refine ⟨p, p2, _, _, rfl, rfl, s2 _ _ upd_same, upd_same, ?_, fun p3 np3 => ?_⟩
    · have h1 := cutV_length (ns.map V.int) none (some 2)
      have h2 := cutV_length (ns.map V.int) (some (k : Int)) (some ((k : Int) + 1))
      rw [List.length_map] at h1 h2
      have h3 : (126 : Nat) ≤ sizeLine := by decide
      omega
    have s3 := same_new (o := .lst (cutV (ns.map V.int) none (some 2) ++ cutV (ns.map V.int) (some (k : Int)) (some ((k : Int) + 1)))) np3
    have sm := (s1.trans s2).trans s3
    have allI : ∀ x ∈ cutV (ns.map V.int) none (some 2) ++ cutV (ns.map V.int) (some (k : Int)) (some ((k : Int) + 1)), ∃ i, x = V.int i := fun x hx => by
      have h0 : x ∈ ns.map V.int := by
        rcases List.mem_append.mp hx with hx | hx
        · unfold cutV at hx
          exact List.mem_of_mem_drop (List.mem_of_mem_take hx)
        · unfold cutV at hx
          exact List.mem_of_mem_drop (List.mem_of_mem_take hx)
      obtain ⟨i, _, e⟩ := List.mem_map.mp h0
      exact ⟨i, e.symm⟩
    refine ⟨p3, rfl, ⟨_, SqL.of upd_same⟩, ?_⟩
    refine for_list (K := K) (a := p3) (xs := cutV (ns.map V.int) none (some 2) ++ cutV (ns.map V.int) (some (k : Int)) (some ((k : Int) + 1))) (fun _ σ H' => (∃ m v v2, σ = [some (.ref a), some (.int (k : Int)), some (.int m), v, v2]) ∧ Same H H' ∧ H' p3 = some (.lst (cutV (ns.map V.int) none (some 2) ++ cutV (ns.map V.int) (some (k : Int)) (some ((k : Int) + 1)))))
      ⟨⟨_, _, _, rfl⟩, sm, upd_same⟩ (fun i σ H' _ h => SqL.of h.2.2) (fun i x σ H' hx h => ?_) (fun σ H' h => ?_)
    · obtain ⟨⟨m, v, v2, rfl⟩, sh, hp3⟩ := h
      obtain ⟨z, rfl⟩ := allI x (List.mem_of_getElem? hx)
      refine ⟨_, rfl, _, _, rfl, rfl, .inr ⟨by decide, by decide⟩, _, rfl, _, _, rfl, rfl, _, _, rfl, rfl, .inl ⟨_, rfl, _, _, rfl, rfl, (by show (0 : Int) < 2147483629; decide), ?_⟩⟩
      exact ⟨⟨_, _, _, rfl⟩, sh, hp3⟩
    · obtain ⟨⟨m, v, v2, rfl⟩, sh, hp3⟩ := h
      have fin : ∀ n : Int, ∀ p, H' p = none → Q (.ref p) (upd H' p (.lst [.int m, .int n])) := fun n p np => q _ _ (by
        cases e : H p with
        | none => rfl
        | some o => rw [sh _ _ e] at np; cases np) ⟨m, n, upd_same⟩ (sh.trans (same_new np))
      have last : ∀ j : Int, (∃ i, V.int j = V.int i ∧ ∃ i' j', V.int (if i < 0 then -i else i) = V.int i' ∧ V.int ((10 : Int) ^ (18 : Int).toNat) = V.int j' ∧ True) := fun j => ⟨_, rfl, _, _, rfl, rfl, trivial⟩
      have own : ∀ j : Int, tLst (tCons (tVar 2) (tCons (tIf (tTest (tOp (rI0 fun i j => .bl (decide (j ≤ i))) (tCB (fun xs H Q => ∃ i, xs = [.int i] ∧ Q (.int (if i < 0 then -i else i)) H) (tCons (tVar 4) tNil)) (tOp (rI CPow fun i j => .int (i ^ j.toNat)) (tC (.int 10)) (tC (.int 18)))))
          (tCB (fun xs H Q => ∃ i, xs = [.int i] ∧ Q (.int (if i < 0 then -i else i)) H) (tCons (tVar 4) tNil)) (tC (.int 0))) tNil)) [some (.ref a), some (.int (k : Int)), some (.int m), v, some (.int j)] H' Q := fun j => by
        refine ⟨_, rfl, _, rfl, _, rfl, _, _, rfl, rfl, ⟨by decide, by decide, by decide⟩, _, _, rfl, rfl, _, rfl, ?_⟩
        refine ite2 (fun _ => ?_) (fun _ => ?_)
        · exact ⟨_, rfl, _, rfl, (by show 2 ≤ sizeLine; decide), fun p np => fin _ p np⟩
        · exact ⟨(by show 2 ≤ sizeLine; decide), fun p np => fin _ p np⟩
      refine ⟨_, rfl, _, rfl, a, _, rfl, .inl (hS.ext sh), _, _, rfl, rfl, _, rfl, ?_⟩
      rw [List.length_map]
      refine ite2 (fun hk => ?_) (fun hk => ?_)
      · have hlt : k < ns.length := Int.ofNat_lt.mp (of_decide_eq_true hk)
        refine ⟨_, rfl, _, rfl, a, _, _, _, rfl, rfl, hS.ext sh, atI_nat (by rw [List.getElem?_map, List.getElem?_eq_getElem hlt]; rfl), ?_⟩
        exact own _
      · exact own _
abbrev s__law_dig : Stmt := top 26
theorem sc__law_dig : FnScope ["_law_purl_here", "_law_many", "_law_digit"] ["_law_purl_here", "_law_many"] (defScope s__law_dig) := ⟨rfl, rfl, rfl, by decide +kernel, rfl, by decide +kernel, by decide +kernel⟩
theorem ok__law_dig {f : Addr} {fd : FuncData} (F : Fun K "_law_dig" "_law_dig" s__law_dig f fd) (T : Bt mg)  : FnOk P w K mg base CX0 1 f fd ["_law_purl_here", "_law_many"] spDig := by
  refine F.ok sc__law_dig (fun vs H Q E h => ?_) (fun cdv A outer s H vs Q E hr h => ?_)
  · obtain ⟨p, k, rfl, _⟩ := h
    rfl
  · obtain ⟨p, k, rfl, ⟨m, d, hp⟩, k0, k1, q⟩ := h
    refine ⟨_, (pss_cons (ps_if (pt_cmpR op_gt (pe_ix ix_list (pv 0) pe_int (fun _ _ => rfl)) pe_int (nomark _))
        (pss_cons (ps_asg (pe_callB call_divmod (by rfl) T.divmod (by decide +kernel) (pa_cons (pe_ix ix_list (pv 0) pe_int (fun _ _ => rfl)) (pa_cons (pv 1) pa_nil))) (pg_tup (by rfl) (pgs_cons (pg_sub (pv 0) pe_int set_list) (pgs_cons (pg_name (i := 2) sc__law_dig.nd rfl (by first | exact .inl rfl | exact .inr rfl)) pgs_nil))))
        (pss_one (ps_ret (pv 2))))
        pss_nil)
        (pss_cons (ps_asg (pe_op op_mod (pe_callTy call_int1 (by rfl) T.int (by decide +kernel) (pa_cons (pe_op op_add (pe_op op_mul (pe_ix ix_list (pv 0) pe_int (fun _ _ => rfl)) pe_int) pe_int) pa_nil)) pe_int) (pg_sub (pv 0) pe_int set_list))
        (pss_one (ps_ret (pe_op op_mod (pe_callTy call_int1 (by rfl) T.int (by decide +kernel) (pa_cons (pe_op op_fdiv (pe_ix ix_list (pv 0) pe_int (fun _ _ => rfl)) pe_int) pa_nil)) (pv 1)))))), ?_⟩
    refine ⟨_, rfl, p, _, 1, _, rfl, rfl, SqL.of hp, rfl, _, _, rfl, rfl, _, rfl, ?_⟩
    refine ite2 (fun hd => ?_) (fun hd => ?_)
    · refine ⟨_, rfl, p, _, 1, _, rfl, rfl, SqL.of hp, rfl, _, rfl, d, k, rfl, ⟨k0, k1⟩, fun t nt => ?_⟩
      have ntp : p ≠ t := fun e => by
        rw [← e, hp] at nt
        cases nt
      refine ⟨t, _, rfl, SqT.of upd_same, rfl, _, _, rfl, _, rfl, p, _, 1, 1, rfl, rfl, (by rw [upd_ne ntp]; exact hp), rfl, _, _, rfl, rfl, _, rfl, ?_⟩
      refine q _ _ (Int.emod_nonneg _ (by omega)) (Int.emod_lt_of_pos _ k0) ⟨_, _, upd_same⟩ fun b o hb e => ?_
      have nbt : b ≠ t := fun z => by
        rw [← z, e] at nt
        cases nt
      rw [upd_ne hb, upd_ne nbt]
      exact e
    · refine ⟨_, rfl, p, _, 0, _, rfl, rfl, SqL.of hp, rfl, _, _, rfl, rfl, .inr ⟨by decide, by decide⟩, _, _, rfl, rfl, .inl ⟨_, rfl, _, _, rfl, rfl, (by show (0 : Int) < 2147483629; decide), ?_⟩⟩
      refine ⟨_, rfl, p, _, 0, 0, rfl, rfl, hp, rfl, ?_⟩
      refine ⟨_, rfl, p, _, 0, _, rfl, rfl, SqL.of upd_same, rfl, _, _, rfl, rfl, ⟨by decide, by decide⟩, .inl ⟨_, rfl, _, rfl, _, _, rfl, rfl, k0, ?_⟩⟩
      exact q _ _ (Int.emod_nonneg _ (by omega)) (Int.emod_lt_of_pos _ k0) ⟨_, _, upd_same⟩ fun b o hb e => by rw [upd_ne hb]; exact e
abbrev s__law_listed : Stmt := top 31
theorem sc__law_listed : FnScope ["_law_purl_here", "_law_wide", "_law_found", "_law_at", "_law_k"] ["_law_purl_here"] (defScope s__law_listed) := ⟨rfl, rfl, rfl, by decide +kernel, rfl, by decide +kernel, by decide +kernel⟩
theorem ok__law_listed {f : Addr} {fd : FuncData} (F : Fun K "_law_listed" "_law_listed" s__law_listed f fd) (T : Bt mg) (G__law_dig : FB P w K mg base "_law_dig" 1 ["_law_purl_here", "_law_many"] spDig) : FnOk P w K mg base CX0 2 f fd ["_law_purl_here"] spListedL := by
  refine F.ok sc__law_listed (fun vs H Q E h => ?_) (fun cdv A outer s H vs Q E hr h => ?_)
  · obtain ⟨p, rfl, _⟩ := h
    rfl
  · obtain ⟨p, rfl, hp, q⟩ := h
    refine ⟨_, (pss_cons (ps_par3 (i := 1) (j := 2) (l := 3) (by rfl) sc__law_listed.nd rfl rfl rfl (by decide) (by decide) (by decide) rfl rfl rfl (pa_cons (pe_ix ix_list (pe_lst (pa_cons pe_int (pa_cons pe_int (pa_cons pe_int (pa_cons pe_int (pa_cons pe_int pa_nil)))))) (pe_fb G__law_dig hr (by decide) (by rfl) (pa_cons (pv 0) (pa_cons pe_int pa_nil))) (fun _ _ => rfl)) (pa_cons (pe_lst pa_nil) (pa_cons (pe_fb G__law_dig hr (by decide) (by rfl) (pa_cons (pv 0) (pa_cons pe_int pa_nil))) pa_nil))) (by rfl))
        (pss_cons (ps_for PassesOwn.never rfl (pi_range1 (by rfl) T.range (pa_cons (pe_fb G__law_dig hr (by decide) (by rfl) (pa_cons (pv 0) (pa_cons pe_int pa_nil))) pa_nil)) (pg_name (i := 4) sc__law_listed.nd rfl (by first | exact .inl rfl | exact .inr rfl))
        (pss_cons (ps_set (i := 3) sc__law_listed.nd rfl (by first | exact .inl rfl | exact .inr rfl) (pe_op op_add (pe_op op_add (pv 3) pe_int) (pe_fb G__law_dig hr (by decide) (by rfl) (pa_cons (pv 0) (pa_cons (pv 1) pa_nil)))))
        (pss_one (ps_if (pt_cmpR op_le (pv 3) pe_int (nomark _))
        (pss_one (ps_expr (pe_bm PySem.F.plainAttrs_list PySem.F.slot_list_append PySem.F.type_list_append mt_append (pv 2) (pa_cons (pv 3) pa_nil))))
        pss_nil))))
        (pss_one (ps_ret (pv 2))))), ?_⟩
    refine ⟨by show 5 ≤ sizeLine; decide, fun l nl => ?_⟩
    have s1 := same_new (o := .lst [V.int 1, .int 2, .int 3, .int 9, .int 40]) nl
    have hlp : l ≠ p := fun e => by obtain ⟨m, d, z⟩ := hp; rw [e, z] at nl; cases nl
    refine ⟨_, rfl, p, 5, rfl, hp.same s1, by decide, by decide, fun w H1 w0 w1 hp1 o1 => ?_⟩
    have hwd : ∃ wd : Nat, atI [V.int 1, .int 2, .int 3, .int 9, .int 40] w = some (.int (wd : Nat)) ∧ 0 < wd ∧ wd ≤ 40 := by
      rcases (show w = 0 ∨ w = 1 ∨ w = 2 ∨ w = 3 ∨ w = 4 by omega) with h | h | h | h | h <;> subst h
      · exact ⟨1, rfl, by decide, by decide⟩
      · exact ⟨2, rfl, by decide, by decide⟩
      · exact ⟨3, rfl, by decide, by decide⟩
      · exact ⟨9, rfl, by decide, by decide⟩
      · exact ⟨40, rfl, by decide, by decide⟩
    obtain ⟨wd, ew, wd0, wd1⟩ := hwd
    refine ⟨l, _, w, _, rfl, rfl, SqL.of (o1 l _ hlp upd_same), ew, ?_⟩
    refine ⟨Nat.zero_le _, fun D nD => ?_⟩
    have s2 : Same H1 (upd H1 D (.lst [])) := same_new nD
    have hDp : D ≠ p := fun e => by obtain ⟨m, d, z⟩ := hp1; rw [e, z] at nD; cases nD
    have oo : Off p H H1 := (Same.off s1).trans o1
    have nDH : H D = none := by
      cases z : H D with
      | none => rfl
      | some y => rw [oo _ _ hDp z] at nD; cases nD
    refine ⟨_, rfl, p, 8, rfl, hp1.same s2, by decide, by decide, fun at0 H2 a0 a1 hp2 o2 => ?_⟩
    refine ⟨_, _, _, rfl, ?_⟩
    refine ⟨_, rfl, p, 61, rfl, hp2, by decide, by decide, fun m H3 m0 m1 hp3 o3 => ?_⟩
    have hD3 : H3 D = some (.lst []) := o3 _ _ hDp (o2 _ _ hDp upd_same)
    have o03 : Off p H H3 := ((oo.trans (Same.off s2)).trans o2).trans o3
    refine ⟨m, rfl, by omega, by omega, ?_⟩
    refine for_range (n := m.toNat) (fun i σ H' => ∃ (at' : Nat) (ns : List Nat) (v4 : Option V), σ = [some (.ref p), some (.int (wd : Nat)), some (.ref D), some (.int (at' : Nat)), v4] ∧ PurlAt H' p ∧ Off p H H' ∧ H' D = some (.lst (natsV ns)) ∧ LsOk ns ∧ (∀ n ∈ ns, n ≤ at') ∧ ns.length ≤ i)
      ⟨at0.toNat, [], none, ?_, hp3, o03, hD3, ls_nil, (fun _ h => by cases h), Nat.le_refl _⟩ (fun i σ H' hi h => ?_) (fun σ H' h => ?_)
    · show [some (V.ref p), some (V.int (wd : Nat)), some (V.ref D), some (V.int at0), none] = _
      rw [Int.toNat_of_nonneg a0]
    · obtain ⟨at', ns, v4, rfl, hp', o', hD', hl', hle, hlen⟩ := h
      refine ⟨_, rfl, _, _, rfl, rfl, _, rfl, _, rfl, p, (wd : Int), rfl, hp', by omega, by omega, fun u H4 u0 u1 hp4 o4 => ?_⟩
      refine ⟨_, _, rfl, rfl, ?_⟩
      have ea : (at' : Int) + 1 + u = ((at' + 1 + u.toNat : Nat) : Int) := by omega
      generalize hat : at' + 1 + u.toNat = a2 at ea
      change gName 3 (V.int ((at' : Int) + 1 + u)) _ _ _
      rw [ea]
      refine nm_one (if_ ?_)
      have hD4 : H4 D = some (.lst (natsV ns)) := o4 _ _ hDp hD'
      refine ⟨_, rfl, _, _, rfl, rfl, decide ((a2 : Int) ≤ 200), rfl, ?_⟩
      by_cases h2 : a2 ≤ 200
      · rw [decide_eq_true (show (a2 : Int) ≤ 200 by omega)]
        refine iteT ?_
        refine ⟨_, rfl, .inl ⟨rfl, _, SqL.of hD4⟩, _, rfl, D, _, _, rfl, rfl, hD4, ?_, ?_⟩
        · unfold natsV
          rw [List.length_map, sizeLine_eq]
          omega
        refine ⟨a2, ns ++ [a2], _, rfl, ?_, ?_, ?_, ⟨fun n hn => ?_, ?_⟩, fun n hn => ?_, ?_⟩
        · obtain ⟨x, d, z⟩ := hp4
          exact ⟨x, d, by rw [upd_ne (Ne.symm hDp)]; exact z⟩
        · intro c y hc z
          rw [upd_ne (fun e => by rw [e, nDH] at z; cases z)]
          exact (o'.trans o4) c y hc z
        · rw [upd_same]
          unfold natsV
          rw [List.map_append]
          rfl
        · rcases List.mem_append.mp hn with h | h
          · exact hl'.1 n h
          · rw [List.mem_singleton.mp h]; omega
        · rw [List.pairwise_append]
          refine ⟨hl'.2, List.pairwise_singleton _ _, fun x hx y hy => ?_⟩
          rw [List.mem_singleton.mp hy]
          have := hle x hx
          omega
        · rcases List.mem_append.mp hn with h | h
          · have := hle n h; omega
          · have := List.mem_singleton.mp h; omega
        · rw [List.length_append, List.length_singleton]; omega
      · rw [decide_eq_false (show ¬ (a2 : Int) ≤ 200 by omega)]
        refine iteF ?_
        exact ⟨a2, ns, _, rfl, hp4, o'.trans o4, hD4, hl', fun n hn => by have := hle n hn; omega, by omega⟩
    · obtain ⟨at', ns, v4, rfl, hp', o', hD', hl', hle, hlen⟩ := h
      exact ⟨_, rfl, q D ns H' nDH hp' o' hD' hl'⟩
abbrev s__law_tail : Stmt := top 32
theorem sc__law_tail : FnScope ["_law_purl_here", "_law_chosen", "_law_rest", "_law_way", "_law_last", "_law_begin"] ["_law_purl_here", "_law_chosen", "_law_rest"] (defScope s__law_tail) := ⟨rfl, rfl, rfl, by decide +kernel, rfl, by decide +kernel, by decide +kernel⟩
theorem ok__law_tail {f : Addr} {fd : FuncData} (F : Fun K "_law_tail" "_law_tail" s__law_tail f fd) (T : Bt mg) (G__law_dig : FB P w K mg base "_law_dig" 1 ["_law_purl_here", "_law_many"] spDig) : FnOk P w K mg base CX0 2 f fd ["_law_purl_here", "_law_chosen", "_law_rest"] (spTailL K) := by
  refine F.ok sc__law_tail (fun vs H Q E h => ?_) (fun cdv A outer s H vs Q E hr h => ?_)
  · obtain ⟨p, a, ns, r, rfl, _⟩ := h
    rfl
  · obtain ⟨p, a, ns, r, rfl, hp, hS, hne, hl, hr2, q⟩ := h
    refine ⟨_, (pss_cons (ps_par (i := 3) (j := 4) (by rfl) sc__law_tail.nd rfl rfl (by decide) rfl rfl (pa_cons (pe_fb G__law_dig hr (by decide) (by rfl) (pa_cons (pv 0) (pa_cons pe_int pa_nil))) (pa_cons (pe_ifExp (pt_cmpR (op_neNil hr) (pv 1) (pe_lst pa_nil) (nomark _)) (pe_ix ix_list (pv 1) (pe_un un_neg pe_int) (fun _ _ => rfl)) pe_int) pa_nil)) (by rfl))
        (pss_cons (ps_set (i := 5) sc__law_tail.nd rfl (by first | exact .inl rfl | exact .inr rfl) (pe_op op_add (pe_op op_add (pv 4) pe_int) (pe_op op_mod (pe_callTy call_int1 (by rfl) T.int (by decide +kernel) (pa_cons (pe_op op_add (pe_op op_add (pv 4) pe_int) (pv 2)) pa_nil)) pe_int)))
        (pss_cons (ps_if (PW.pt (pw_or (pt_cmpR op_eq (pv 3) pe_int (nomark _)) (pw_or1 (pt_cmpR op_gt (pv 5) pe_int (nomark _)))))
        (pss_one (ps_ret pe_non))
        pss_nil)
        (pss_one (ps_ret (pe_ifExp (pt_cmpR op_eq (pv 3) pe_int (nomark _)) (pv 5) (pe_op op_add (pe_op op_sub pe_int (pv 2)) (pe_op op_mul pe_int (pe_fb G__law_dig hr (by decide) (by rfl) (pa_cons (pv 0) (pa_cons pe_int pa_nil))))))))))), ?_⟩
    refine ⟨_, rfl, p, 4, rfl, hp, by decide, by decide, fun w H1 w0 w1 hp1 o1 => ?_⟩
    refine gen_of (t := tIf _ _ _) (fun x H' => ∃ z : Nat, x = .int (z : Nat) ∧ z ≤ 200 ∧ PurlAt H' p ∧ Off p H H') (fun Q' k => ?_) ?_
    · refine ⟨_, rfl, (by show 0 ≤ sizeLine; decide), fun p2 np2 => ?_⟩
      have s2 : Same H1 (upd H1 p2 (.lst [])) := same_new np2
      have ha2 := s2 _ _ (o1 a _ hne hS)
      refine ⟨a, p2, natsV ns, rfl, rfl, SqL.of ha2, SqL.of upd_same, _, rfl, ?_⟩
      have hp2 := hp1.same s2
      have o2 : Off p H (upd H1 p2 (.lst [])) := o1.trans (Same.off s2)
      rcases List.eq_nil_or_concat ns with e | ⟨ms, m, e⟩
      · have e0 : decide ((natsV ns).length = 0) = true := by rw [e]; rfl
        rw [e0]
        refine iteF ?_
        exact k _ _ ⟨0, rfl, by decide, hp2, o2⟩
      · rw [List.concat_eq_append] at e
        have e1 : natsV ns = natsV ms ++ [.int (m : Nat)] := by rw [e]; unfold natsV; rw [List.map_append]; rfl
        have e0 : decide ((natsV ns).length = 0) = false := by rw [e1]; simp
        rw [e0]
        refine iteT ?_
        refine ⟨_, rfl, _, rfl, a, _, -1, _, rfl, rfl, SqL.of ha2, by rw [e1]; exact atI_last _ _, ?_⟩
        exact k _ _ ⟨m, rfl, (hl.1 m (by rw [e]; simp)).2, hp2, o2⟩
    rintro _ H2 ⟨z, rfl, hz, hp2, o2⟩
    refine ⟨_, _, rfl, ?_⟩
    refine ⟨_, rfl, _, _, rfl, rfl, _, rfl, _, _, rfl, rfl, _, rfl, _, _, rfl, rfl, .inl ⟨_, rfl, _, _, rfl, rfl, (by show (0 : Int) < 2; decide), _, _, rfl, rfl, ?_⟩⟩
    have eb : (z : Int) + 1 + ((z : Int) + 1 + (r : Int)) % 2 = ((z + 1 + (z + 1 + r) % 2 : Nat) : Int) := by omega
    generalize hbg : z + 1 + (z + 1 + r) % 2 = bg at eb
    change gName 5 (V.int ((z : Int) + 1 + ((z : Int) + 1 + (r : Int)) % 2)) _ _ _
    rw [eb]
    refine nm_seq (if_ ?_)
    refine ⟨_, rfl, rfl, _, rfl, ?_⟩
    by_cases hw0 : w = 0
    · rw [show decide (V.int w = V.int 0) = true from decide_eq_true (by rw [hw0])]
      refine iteT ?_
      refine iteT ?_
      exact q none _ hp2 o2 fun _ h => by cases h
    · rw [show decide (V.int w = V.int 0) = false from decide_eq_false (fun z => hw0 (V.int.inj z))]
      refine iteF ?_
      refine ⟨_, rfl, _, _, rfl, rfl, decide ((200 : Int) < (bg : Int)), rfl, ?_⟩
      by_cases h2 : 200 < bg
      · rw [decide_eq_true (show (200 : Int) < (bg : Int) by omega)]
        refine iteT ?_
        exact q none _ hp2 o2 fun _ h => by cases h
      · rw [decide_eq_false (show ¬ (200 : Int) < (bg : Int) by omega)]
        refine iteF ?_
        refine ⟨_, rfl, rfl, _, rfl, ?_⟩
        by_cases hw1 : w = 1
        · rw [show decide (V.int w = V.int 1) = true from decide_eq_true (by rw [hw1])]
          refine iteT ?_
          refine ⟨_, rfl, q (some bg) _ hp2 o2 fun n h => ?_⟩
          cases h
          omega
        · rw [show decide (V.int w = V.int 1) = false from decide_eq_false (fun z => hw1 (V.int.inj z))]
          refine iteF ?_
          refine ⟨_, rfl, _, _, rfl, rfl, _, rfl, p, 100, rfl, hp2, by decide, by decide, fun u H3 u0 u1 hp3 o3 => ?_⟩
          refine ⟨_, _, rfl, rfl, .inl ⟨by decide, by decide⟩, _, _, rfl, rfl, ?_⟩
          have es : (2 : Int) - (r : Int) + 2 * u = ((2 - r + 2 * u.toNat : Nat) : Int) := by omega
          show Q (V.int ((2 : Int) - (r : Int) + 2 * u)) H3
          rw [es]
          refine q (some (2 - r + 2 * u.toNat)) H3 hp3 (o2.trans o3) fun n h => ?_
          cases h
          omega
end
end Sq
namespace Sq
open PySem L2 TL
section
variable {P : Program} {w : World} {K : PySem.W.Frag} {mg : Str → Option Value} {base : Heap}
def spShape (K : PySem.W.Frag) : Sp := fun vs H Q _ => ∃ (a : Addr) (b : Nat), vs = [.ref a] ∧ SqL K H a (truthsV b) ∧ SB b ∧ ∀ D H', H D = none → Same H H' → BookAt H' D b → Q (.ref D) H'
theorem tr_at {b k : Nat} (h : k < 204) : atI (truthsV b) (k : Int) = some (.bl (hasN b (k + 1))) := by
  refine atI_nat ?_
  unfold truthsV
  rw [List.getElem?_map, truths_at h]
  rfl
theorem tr_len (b : Nat) : (truthsV b).length = 204 := by unfold truthsV; rw [List.length_map, truths_len]
theorem two_at (e o : Option Nat) (n : Nat) : atI [natO e, natO o] ((n : Int) % 2) = some (natO (if n % 2 = 0 then e else o)) := by
  rw [show (n : Int) % 2 = ((n % 2 : Nat) : Int) by omega]
  refine atI_nat ?_
  rcases (show n % 2 = 0 ∨ n % 2 = 1 by omega) with h | h
  · rw [h]; rfl
  · rw [h]; rfl
theorem cut_head : ∀ l : List Nat, atI (cutV (natsV l) none (some 1) ++ [V.non]) 0 = some (natO l.head?)
  | [] => rfl
  | n :: l => by
    have e : cutV (natsV (n :: l)) none (some 1) = [.int (n : Nat)] := by
      simp [cutV, HT.sIx, natsV]
    rw [e]
    rfl
theorem rg_down : Builtin.Range.small 204 0 (-1) = true ∧ Builtin.Range.rangeSize 204 0 (-1) = ((204 : Nat) : Int) := by decide +kernel
abbrev s__law_shape : Stmt := top 28
theorem sc__law_shape : FnScope ["_law_truths_here", "_law_many", "_law_ends", "_law_size", "_law_some", "_law_words", "_law_rest", "_law_least"] ["_law_truths_here"] (defScope s__law_shape) := ⟨rfl, rfl, rfl, by decide +kernel, rfl, by decide +kernel, by decide +kernel⟩
theorem ok__law_shape {f : Addr} {fd : FuncData} (F : Fun K "_law_shape" "_law_shape" s__law_shape f fd) (T : Bt mg) (G__law_has : FB P w K mg base "_law_has" 1 ["_law_chosen", "_law_tails", "_law_size"] (spHasL K)) : FnOk P w K mg base CX0 2 f fd ["_law_truths_here"] (spShape K) := by
  refine F.ok sc__law_shape (fun vs H Q E h => ?_) (fun cdv A outer s H vs Q E hr h => ?_)
  · obtain ⟨a, b, rfl, _⟩ := h
    rfl
  · obtain ⟨a, b, rfl, hS, hb, q⟩ := h
    refine ⟨_, (pss_cons (ps_asg (pe_tup (pa_cons (pe_callB call_len_seq (by rfl) T.len PySem.boot_len (pa_cons (pv 0) pa_nil)) (pa_cons (pe_lst (pa_cons pe_non (pa_cons pe_non pa_nil))) pa_nil))) (pg_tup (by rfl) (pgs_cons (pg_name (i := 1) sc__law_shape.nd rfl (by first | exact .inl rfl | exact .inr rfl)) (pgs_cons (pg_name (i := 2) sc__law_shape.nd rfl (by first | exact .inl rfl | exact .inr rfl)) pgs_nil))))
        (pss_cons (ps_for PassesOwn.never rfl (pi_range3 (by rfl) T.range (pa_cons (pv 1) (pa_cons pe_int (pa_cons (pe_un un_neg pe_int) pa_nil)))) (pg_name (i := 3) sc__law_shape.nd rfl (by first | exact .inl rfl | exact .inr rfl))
        (pss_one (ps_if (PW.pt (pw_and (pt_val (pe_ix (show IxR _ (rIxL K) from ix_list) (pv 0) (pe_op op_sub (pv 3) pe_int) (fun _ _ => rfl))) (pw_and1 (pt_cmpR op_in_seq (pe_ix (show IxR _ (rIxL K) from ix_list) (pv 2) (pe_op op_mod (pe_callTy call_int1 (by rfl) T.int (by decide +kernel) (pa_cons (pv 3) pa_nil)) pe_int) (fun _ _ => rfl)) (pe_lst (pa_cons pe_non (pa_cons (pe_op op_add (pv 3) pe_int) pa_nil))) (by with_unfolding_all rfl)))))
        (pss_one (ps_if (PW.pt (pw_or (pt_cmpR op_notN (pe_ix (show IxR _ (rIxL K) from ix_list) (pv 2) (pe_op op_mod (pe_callTy call_int1 (by rfl) T.int (by decide +kernel) (pa_cons (pv 3) pa_nil)) pe_int) (fun _ _ => rfl)) pe_non (nomark _)) (pw_or1 (pt_cmpR op_gt (pv 3) (pe_op op_sub (pv 1) pe_int) (nomark _)))))
        (pss_one (ps_asg (pv 3) (pg_sub (pv 2) (pe_op op_mod (pe_callTy call_int1 (by rfl) T.int (by decide +kernel) (pa_cons (pv 3) pa_nil)) pe_int) set_list)))
        pss_nil))
        pss_nil)))
        (pss_cons (ps_setLc (i := 4) (own := [("_law_size", 3)]) (g := gName 3) (by rfl) sc__law_shape.nd rfl rfl (by rfl) (pi_range2 (by rfl) T.range (pa_cons pe_int (pa_cons (pe_op op_add (pv 1) pe_int) pa_nil))) (blkOk_by (own := [("_law_size", 3)]) (N := ["_law_truths_here", "_law_many", "_law_ends", "_law_size", "_law_some", "_law_words", "_law_rest", "_law_least"]) (sc := defScope s__law_shape) (by decide +kernel))
            (fun _ _ _ _ _ => (pg_name (i := 3) sc__law_shape.nd rfl (by first | exact .inl rfl | exact .inr rfl))) (fun _ _ _ _ _ => (pts_one (PW.pt (pw_and (pt_val (pe_ix (show IxR _ (rIxL K) from ix_list) (pv 0) (pe_op op_sub (pv 3) pe_int) (fun _ _ => rfl))) (pw_and1 (pt_not (pt_val (pe_fb G__law_has hr (by decide) (by rfl) (pa_cons (pe_lst pa_nil) (pa_cons (pv 2) (pa_cons (pv 3) pa_nil))))))))))) (fun _ _ _ _ _ => (pv 3)))
        (pss_cons (ps_setLc (i := 5) (own := [("_law_size", 3)]) (g := gName 3) (by rfl) sc__law_shape.nd rfl rfl (by rfl) (pi_list (pv 4)) (blkOk_by (own := [("_law_size", 3)]) (N := ["_law_truths_here", "_law_many", "_law_ends", "_law_size", "_law_some", "_law_words", "_law_rest", "_law_least"]) (sc := defScope s__law_shape) (by decide +kernel))
            (fun _ _ _ _ _ => (pg_name (i := 3) sc__law_shape.nd rfl (by first | exact .inl rfl | exact .inr rfl))) (fun _ _ _ _ _ => pts_nil) (fun _ _ _ _ _ => (pe_callTy call_str_int (by rfl) T.str (by decide +kernel) (pa_cons (pv 3) pa_nil))))
        (pss_cons (ps_for PassesOwn.never rfl (pi_range1 (by rfl) T.range (pa_cons pe_int pa_nil)) (pg_name (i := 6) sc__law_shape.nd rfl (by first | exact .inl rfl | exact .inr rfl))
        (pss_one (ps_if (pt_cmpR op_notN (pe_ix (show IxR _ (rIxL K) from ix_list) (pv 2) (pv 6) (fun _ _ => rfl)) pe_non (nomark _))
        (pss_one (ps_expr (pe_bm PySem.F.plainAttrs_list PySem.F.slot_list_append PySem.F.type_list_append mt_append (pv 5) (pa_cons (pe_op op_add_str (pe_op op_add_str (pe_ix (show IxR _ (rIxL K) from ix_list) (pe_lst (pa_cons pe_str (pa_cons pe_str pa_nil))) (pv 6) (fun _ _ => rfl)) pe_str) (pe_callTy call_str_int (by rfl) T.str (by decide +kernel) (pa_cons (pe_ix (show IxR _ (rIxL K) from ix_list) (pv 2) (pv 6) (fun _ _ => rfl)) pa_nil))) pa_nil))))
        pss_nil)))
        (pss_cons (ps_set (i := 7) sc__law_shape.nd rfl (by first | exact .inl rfl | exact .inr rfl) (pe_op op_cat (pe_slice sl_list (pe_lc (own := [("_law_size", 3)]) (g := gName 3) (by rfl) sc__law_shape.nd (pi_range2 (by rfl) T.range (pa_cons pe_int (pa_cons (pe_op op_add (pv 1) pe_int) pa_nil))) (blkOk_by (own := [("_law_size", 3)]) (N := ["_law_truths_here", "_law_many", "_law_ends", "_law_size", "_law_some", "_law_words", "_law_rest", "_law_least"]) (sc := defScope s__law_shape) (by decide +kernel))
            (fun _ _ _ _ _ => (pg_name (i := 3) sc__law_shape.nd rfl (by first | exact .inl rfl | exact .inr rfl))) (fun _ _ _ _ _ => (pts_one (pt_val (pe_ix (show IxR _ (rIxL K) from ix_list) (pv 0) (pe_op op_sub (pv 3) pe_int) (fun _ _ => rfl))))) (fun _ _ _ _ _ => (pv 3))) po_none (po_some pe_int)) (pe_lst (pa_cons pe_non pa_nil))))
        (pss_one (ps_ret (pe_lst (pa_cons (pe_callTy call_tuple_of (by rfl) T.tuple (by decide +kernel) (pa_cons (pv 4) pa_nil)) (pa_cons (pe_ix (show IxR _ (rIxL K) from ix_list) (pv 2) pe_int (fun _ _ => rfl)) (pa_cons (pe_ix (show IxR _ (rIxL K) from ix_list) (pv 2) pe_int (fun _ _ => rfl)) (pa_cons (pe_ix (show IxR _ (rIxL K) from ix_list) (pv 7) pe_int (fun _ _ => rfl)) (pa_cons (pe_ifExp (pt_cmpR (op_neNil hr) (pv 5) (pe_lst pa_nil) (nomark _)) (pe_join pe_str (pv 5)) pe_str) pa_nil)))))))))))))), ?_⟩
    refine ⟨_, rfl, a, _, rfl, .inl hS, ?_⟩
    rw [tr_len]
    refine ⟨by show 2 ≤ sizeLine; decide, fun Ee nE => ?_⟩
    have s1 : Same H (upd H Ee (.lst [V.non, .non])) := same_new nE
    refine ⟨by show 2 ≤ sizeLine; decide, fun tp ntp => ?_⟩
    have hEt : Ee ≠ tp := fun e => by rw [← e, upd_same] at ntp; cases ntp
    refine ⟨tp, _, rfl, SqT.of upd_same, rfl, _, _, rfl, _, _, rfl, rfl, ?_⟩
    have s2 := s1.trans (same_new (o := .tup [V.int 204, .ref Ee]) ntp)
    refine ⟨_, rfl, _, rfl, 204, 0, -1, 204, rfl, ⟨by decide, by decide, rg_down.1, rg_down.2⟩, ?_⟩
    refine for_rangeC (lo := 204) (c := -1) (n := 204) (fun i σ H' => ∃ (e0 e1 : Option Nat) (v3 : Option V), σ = [some (.ref a), some (.int 204), some (.ref Ee), v3, none, none, none, none] ∧ Same H H' ∧ H' Ee = some (.lst [natO e0, natO e1]) ∧ EndAt b 0 (204 - i) e0 ∧ EndAt b 1 (204 - i) e1)
      ⟨none, none, none, rfl, s2, ?_, end_start b 0, end_start b 1⟩ (fun i σ H' hi h => ?_) (fun σ H' h => ?_)
    · rw [upd_ne hEt]; exact upd_same
    · obtain ⟨e0, e1, v3, rfl, sm, hE, a0, a1⟩ := h
      have es : (204 : Int) + ((i : Nat) : Int) * (-1) = ((203 - i + 1 : Nat) : Int) := by omega
      rw [es]
      rw [show 204 - i = 203 - i + 1 by omega] at a0 a1
      rw [show 204 - (i + 1) = 203 - i by omega]
      generalize hk : 203 - i = k at *
      have hk4 : k < 204 := by omega
      have fin : ∀ (n0 n1 : Option Nat) (H2 : Hp), Same H H2 → H2 Ee = some (.lst [natO n0, natO n1]) → n0 = (if (k + 1) % 2 = 0 then stepE b k e0 else e0) → n1 = (if (k + 1) % 2 = 0 then e1 else stepE b k e1) →
          ∃ (e0 e1 : Option Nat) (v3 : Option V), [some (V.ref a), some (V.int 204), some (V.ref Ee), some (V.int ((k + 1 : Nat) : Int)), none, none, none, none] = [some (.ref a), some (.int 204), some (.ref Ee), v3, none, none, none, none] ∧ Same H H2 ∧ H2 Ee = some (.lst [natO e0, natO e1]) ∧ EndAt b 0 k e0 ∧ EndAt b 1 k e1 := by
        intro n0 n1 H2 s3 hE2 h0 h1
        refine ⟨n0, n1, _, rfl, s3, hE2, ?_, ?_⟩
        · rw [h0]
          split
          · rename_i hp; exact end_step hk4 hp a0
          · rename_i hp; exact end_skip (by decide) hp a0
        · rw [h1]
          split
          · rename_i hp; exact end_skip (by decide) (by omega) a1
          · rename_i hp; exact end_step hk4 (by omega) a1
      have stay : stepE b k (if (k + 1) % 2 = 0 then e0 else e1) = (if (k + 1) % 2 = 0 then e0 else e1) → ∀ H2, Same H H2 → H2 Ee = some (.lst [natO e0, natO e1]) → ∃ (e0 e1 : Option Nat) (v3 : Option V), [some (V.ref a), some (V.int 204), some (V.ref Ee), some (V.int ((k + 1 : Nat) : Int)), none, none, none, none] = [some (.ref a), some (.int 204), some (.ref Ee), v3, none, none, none, none] ∧ Same H H2 ∧ H2 Ee = some (.lst [natO e0, natO e1]) ∧ EndAt b 0 k e0 ∧ EndAt b 1 k e1 := by
        intro h H2 s3 hE2
        refine fin e0 e1 H2 s3 hE2 ?_ ?_
        · by_cases hp : (k + 1) % 2 = 0
          · rw [if_pos hp] at h ⊢; exact h.symm
          · rw [if_neg hp]
        · by_cases hp : (k + 1) % 2 = 0
          · rw [if_pos hp]
          · rw [if_neg hp] at h ⊢; exact h.symm
      refine ⟨_, rfl, _, rfl, _, _, rfl, rfl, a, _, _, _, rfl, rfl, hS.ext sm, (by rw [show (((k + 1 : Nat) : Int) - 1) = (k : Int) by omega]; exact tr_at hk4), _, rfl, ?_⟩
      by_cases hh : hasN b (k + 1) = true
      · rw [hh]
        refine iteT ?_
        refine ⟨_, rfl, _, rfl, .inl ⟨_, rfl, _, _, rfl, rfl, (by show (0 : Int) < 2; decide), Ee, _, _, _, rfl, rfl, SqL.of hE, two_at e0 e1 (k + 1), ?_⟩⟩
        refine ⟨_, rfl, _, _, rfl, rfl, by show 2 ≤ sizeLine; decide, fun p2 np2 => ?_⟩
        have s3 := sm.trans (same_new (o := .lst [V.non, V.int (((k + 1 : Nat) : Int) + 2)]) np2)
        have hE3 : (upd H' p2 (.lst [V.non, V.int (((k + 1 : Nat) : Int) + 2)])) Ee = some (.lst [natO e0, natO e1]) := same_new np2 _ _ hE
        generalize he : (if (k + 1) % 2 = 0 then e0 else e1) = e at *
        refine ⟨p2, _, rfl, .inl (SqL.of upd_same), (by cases e <;> rfl), rfl, _, rfl, ?_⟩
        by_cases hin : e = none ∨ e = some (k + 3)
        · have ein : inV (natO e) [V.non, V.int (((k + 1 : Nat) : Int) + 2)] = true := by
            rcases hin with h | h <;> subst h
            · rfl
            · show (false || (((((k + 1 : Nat) : Int) + 2) == ((k + 3 : Nat) : Int)) || false)) = true
              simp
              omega
          rw [if_neg Bool.false_ne_true, ein]
          refine iteT ?_
          have se : stepE b k e = if e ≠ none ∨ 202 < k + 1 then some (k + 1) else e := by unfold stepE; rw [if_pos ⟨hh, hin⟩]
          have hj : ixN [natO e0, natO e1].length (((k + 1 : Nat) : Int) % 2) = some ((k + 1) % 2) := by
            show ixN 2 _ = _
            rcases (show (k + 1) % 2 = 0 ∨ (k + 1) % 2 = 1 by omega) with h | h
            · rw [h, show (((k + 1 : Nat) : Int) % 2) = 0 by omega]; rfl
            · rw [h, show (((k + 1 : Nat) : Int) % 2) = 1 by omega]; rfl
          have put : stepE b k e = some (k + 1) → ∃ (e0' e1' : Option Nat) (v3 : Option V), [some (V.ref a), some (V.int 204), some (V.ref Ee), some (V.int ((k + 1 : Nat) : Int)), none, none, none, none] = [some (.ref a), some (.int 204), some (.ref Ee), v3, none, none, none, none] ∧
              Same H (upd (upd H' p2 (.lst [V.non, V.int (((k + 1 : Nat) : Int) + 2)])) Ee (.lst ([natO e0, natO e1].set ((k + 1) % 2) (.int ((k + 1 : Nat) : Int))))) ∧ (upd (upd H' p2 (.lst [V.non, V.int (((k + 1 : Nat) : Int) + 2)])) Ee (.lst ([natO e0, natO e1].set ((k + 1) % 2) (.int ((k + 1 : Nat) : Int))))) Ee = some (.lst [natO e0', natO e1']) ∧ EndAt b 0 k e0' ∧ EndAt b 1 k e1' := by
            intro h
            refine fin (if (k + 1) % 2 = 0 then some (k + 1) else e0) (if (k + 1) % 2 = 0 then e1 else some (k + 1)) _ (fun c y hc => ?_) ?_ ?_ ?_
            · rw [upd_ne (fun z => by rw [z, nE] at hc; cases hc)]
              exact s3 _ _ hc
            · rw [upd_same]
              rcases (show (k + 1) % 2 = 0 ∨ (k + 1) % 2 = 1 by omega) with h | h
              · rw [h]; rfl
              · rw [h]; rfl
            · by_cases hp : (k + 1) % 2 = 0
              · rw [if_pos hp, if_pos hp]
                rw [if_pos hp] at he
                rw [he, h]
              · rw [if_neg hp, if_neg hp]
            · by_cases hp : (k + 1) % 2 = 0
              · rw [if_pos hp, if_pos hp]
              · rw [if_neg hp, if_neg hp]
                rw [if_neg hp] at he
                rw [he, h]
          refine ⟨_, rfl, _, rfl, .inl ⟨_, rfl, _, _, rfl, rfl, (by show (0 : Int) < 2; decide), Ee, _, _, _, rfl, rfl, SqL.of hE3, (by rw [two_at, he]), ?_⟩⟩
          cases e with
          | none =>
            refine ⟨rfl, _, rfl, ?_⟩
            refine iteF ?_
            refine ⟨_, rfl, _, rfl, _, _, rfl, rfl, _, _, rfl, rfl, decide ((204 : Int) - 2 < ((k + 1 : Nat) : Int)), rfl, ?_⟩
            by_cases hb2 : 202 < k + 1
            · rw [decide_eq_true (show (204 : Int) - 2 < ((k + 1 : Nat) : Int) by omega)]
              refine iteT ?_
              refine ⟨_, rfl, _, rfl, _, rfl, .inl ⟨_, rfl, _, _, rfl, rfl, (by show (0 : Int) < 2; decide), Ee, _, _, _, rfl, rfl, hE3, hj, ?_⟩⟩
              exact put (by rw [se, if_pos (.inr hb2)])
            · rw [decide_eq_false (show ¬ (204 : Int) - 2 < ((k + 1 : Nat) : Int) by omega)]
              refine iteF ?_
              refine stay ?_ _ s3 hE3
              rw [se, if_neg (fun z => z.elim (fun y => y rfl) hb2)]
          | some m =>
            refine ⟨rfl, _, rfl, ?_⟩
            refine iteT ?_
            refine iteT ?_
            refine ⟨_, rfl, _, rfl, _, rfl, .inl ⟨_, rfl, _, _, rfl, rfl, (by show (0 : Int) < 2; decide), Ee, _, _, _, rfl, rfl, hE3, hj, ?_⟩⟩
            exact put (by rw [se, if_pos (.inl (by simp))])
        · have ein : inV (natO e) [V.non, V.int (((k + 1 : Nat) : Int) + 2)] = false := by
            cases e with
            | none => exact absurd (.inl rfl) hin
            | some m =>
              have : ¬ m = k + 3 := fun z => hin (.inr (by rw [z]))
              show (false || (((((k + 1 : Nat) : Int) + 2) == ((m : Nat) : Int)) || false)) = false
              simp
              omega
          rw [if_neg Bool.false_ne_true, ein]
          refine iteF ?_
          refine stay ?_ _ s3 hE3
          unfold stepE
          rw [if_neg (fun z => hin z.2)]
      · rw [show hasN b (k + 1) = false by simpa using hh]
        refine iteF ?_
        refine iteF ?_
        refine stay ?_ _ sm hE
        unfold stepE
        rw [if_neg (fun z => hh z.1)]
    · obtain ⟨e0, e1, v3, rfl, sm, hE, a0, a1⟩ := h
      have q0 : e0 = tailN b 202 := end_tail (by decide) a0
      have q1 : e1 = tailN b 201 := end_tail (by decide) a1
      subst q0 q1
      have big : 5000 ≤ sizeLine := by decide
      refine ⟨_, rfl, _, _, rfl, rfl, 1, 205, rfl, ⟨by decide, by decide, by decide, by decide⟩, fun D nD => ?_⟩
      have hDE : D ≠ Ee := fun e => by rw [e, hE] at nD; cases nD
      have nDH : H D = none := by
        cases z : H D with
        | none => rfl
        | some y => rw [sm _ _ z] at nD; cases nD
      refine lc_range (lo := 1) (n := 204) (fun j H2 => Same H H2 ∧ H2 Ee = some (.lst [natO (tailN b 202), natO (tailN b 201)]) ∧ H2 D = some (.lst (natsV ((List.range' 1 j).filter fun n => hasN b n && !inTail (endOf b n) n))))
        ⟨sm.trans (same_new nD), same_new nD _ _ hE, upd_same⟩ (fun j H2 hj h => ?_) (fun H2 h => ?_)
      · obtain ⟨sm2, hE2, hD2⟩ := h
        have hll : (natsV ((List.range' 1 j).filter fun n => hasN b n && !inTail (endOf b n) n)).length < sizeLine := by
          unfold natsV
          rw [List.length_map]
          have := List.length_filter_le (fun n => hasN b n && !inTail (endOf b n) n) (List.range' 1 j)
          rw [List.length_range'] at this
          omega
        have en : ((1 : Int) + (j : Nat)) = ((j + 1 : Nat) : Int) := by omega
        rw [en]
        refine ⟨rfl, ?_⟩
        refine ⟨_, rfl, _, rfl, _, _, rfl, rfl, a, _, _, _, rfl, rfl, hS.ext sm2, (by rw [show (((j + 1 : Nat) : Int) - 1) = (j : Int) by omega]; exact tr_at hj), _, rfl, ?_⟩
        have nx : ∀ H3, Same H2 H3 → (hasN b (j + 1) && !inTail (endOf b (j + 1)) (j + 1)) = false → (Same H H3 ∧ H3 Ee = some (.lst [natO (tailN b 202), natO (tailN b 201)]) ∧ H3 D = some (.lst (natsV ((List.range' 1 (j + 1)).filter fun n => hasN b n && !inTail (endOf b n) n)))) := by
          intro H3 s3 hf
          refine ⟨sm2.trans s3, s3 _ _ hE2, ?_⟩
          rw [s3 _ _ hD2, List.range'_1_concat, List.filter_append, Nat.add_comm 1 j, List.filter_cons_of_neg (by rw [hf]; exact Bool.false_ne_true), List.filter_nil, List.append_nil]
        by_cases hh : hasN b (j + 1) = true
        · rw [hh]
          refine iteT ?_
          refine ⟨Nat.zero_le _, fun p np => ?_⟩
          have s3 : Same H2 (upd H2 p (.lst [])) := same_new np
          refine ⟨_, rfl, _, rfl, p, Ee, [], tailN b 202, tailN b 201, j + 1, rfl, SqL.of upd_same, SqL.of (s3 _ _ hE2), ?_⟩
          have ed : (decide (j + 1 ∈ ([] : List Nat)) || inTail (if (j + 1) % 2 = 0 then tailN b 202 else tailN b 201) (j + 1)) = inTail (endOf b (j + 1)) (j + 1) := by
            unfold endOf
            simp
          rw [ed]
          refine ⟨_, rfl, ?_⟩
          cases ht : inTail (endOf b (j + 1)) (j + 1) with
          | true =>
            refine iteF ?_
            exact nx _ s3 (by rw [ht]; simp)
          | false =>
            refine iteT ?_
            refine ⟨_, rfl, _, s3 _ _ hD2, hll, ?_, ?_, ?_⟩
            · intro c y hc
              rw [upd_ne (fun e => by rw [e, nDH] at hc; cases hc)]
              exact (sm2.trans s3) _ _ hc
            · rw [upd_ne (Ne.symm hDE)]
              exact s3 _ _ hE2
            · rw [upd_same, List.range'_1_concat, List.filter_append, Nat.add_comm 1 j, List.filter_cons_of_pos (by rw [hh, ht]; rfl)]
              unfold natsV
              rw [List.map_append]
              rfl
        · have hf : hasN b (j + 1) = false := by simpa using hh
          rw [hf]
          refine iteF ?_
          refine iteF ?_
          exact nx _ (Same.refl _) (by rw [hf]; rfl)
      obtain ⟨sm2, hE2, hD2⟩ := h
      rw [listed_eq hb.2] at hD2
      have hll := listed_len b
      have pl := @parts_len b
      have pe := @parts_each b
      refine ⟨_, rfl, D, rfl, ⟨_, SqL.of hD2⟩, fun W nW => ?_⟩
      have hWE : W ≠ Ee := fun e => by rw [e, hE2] at nW; cases nW
      have hWD : W ≠ D := fun e => by rw [e, hD2] at nW; cases nW
      have nWH : H W = none := by
        cases z : H W with
        | none => rfl
        | some y => rw [sm2 _ _ z] at nW; cases nW
      have s4 : Same H2 (upd H2 W (.lst [])) := same_new nW
      refine lc_list (K := K) (a := D) (xs := natsV (listedN b)) (fun j H3 => Same H2 H3 ∧ H3 W = some (.lst ((((listedN b).take j).map nS).map V.str))) ⟨s4, upd_same⟩ (fun j H3 _ h => SqL.of (h.1 _ _ hD2)) (fun j x H3 hx h => ?_) (fun H3 h => ?_)
      · obtain ⟨s5, hW⟩ := h
        unfold natsV at hx
        rw [List.getElem?_map] at hx
        cases hn : (listedN b)[j]? with
        | none => rw [hn] at hx; cases hx
        | some n =>
          rw [hn] at hx
          cases hx
          have hj : j < (listedN b).length := (List.getElem?_eq_some_iff.mp hn).1
          refine ⟨rfl, ?_⟩
          refine ⟨_, rfl, (n : Int), rfl, n_log n (listed_lt (List.mem_of_getElem? hn)), _, hW, ?_, ?_, ?_⟩
          · rw [List.length_map, List.length_map, List.length_take]; omega
          · intro c o hx
            rw [upd_ne (fun e => by rw [e, nW] at hx; cases hx)]
            exact s5 _ _ hx
          · rw [upd_same, List.take_add_one, hn]
            simp [nS]
      obtain ⟨s5, hW⟩ := h
      have el : (natsV (listedN b)).length = (listedN b).length := by unfold natsV; rw [List.length_map]
      rw [el, List.take_length] at hW
      have hE3 := s5 _ _ hE2
      have hD3 := s5 _ _ hD2
      have sm3 := sm2.trans s5
      let wds : Nat → List Str := fun i => if i = 0 then (listedN b).map nS else if i = 1 then (listedN b).map nS ++ evS (tailN b 202) else partsS b
      refine ⟨2, rfl, by decide, by decide, ?_⟩
      refine for_range (n := 2) (fun i σ H4 => ∃ v6 : Option V, σ = [some (.ref a), some (.int 204), some (.ref Ee), v3, some (.ref D), some (.ref W), v6, none] ∧ Same H H4 ∧ H4 Ee = some (.lst [natO (tailN b 202), natO (tailN b 201)]) ∧ H4 D = some (.lst (natsV (listedN b))) ∧ H4 W = some (.lst ((wds i).map V.str)))
        ⟨none, rfl, sm3, hE3, hD3, hW⟩ (fun i σ H4 hi h => ?_) (fun σ H4 h => ?_)
      · obtain ⟨v6, rfl, s6, hE4, hD4, hW4⟩ := h
        match i, hi with
        | 0, _ =>
          cases et : tailN b 202 with
          | none =>
            have hx : atI [natO (tailN b 202), natO (tailN b 201)] 0 = some V.non := congrArg (fun z => some (natO z)) et
            refine ⟨_, rfl, _, rfl, Ee, _, 0, _, rfl, rfl, SqL.of hE4, hx, rfl, _, rfl, ?_⟩
            refine iteF ⟨_, rfl, s6, (by have z := hE4; rw [et] at z; exact z), hD4, ?_⟩
            rw [hW4]
            show some (HO.lst (((listedN b).map nS).map V.str)) = some (HO.lst (((listedN b).map nS ++ evS (tailN b 202)).map V.str))
            rw [et]
            simp [evS]
          | some n =>
            have hn := tail_le (by decide) et
            have ln := nS_len n (by omega)
            have hx : atI [natO (tailN b 202), natO (tailN b 201)] 0 = some (V.int (n : Nat)) := congrArg (fun z => some (natO z)) et
            refine ⟨_, rfl, _, rfl, Ee, _, 0, _, rfl, rfl, SqL.of hE4, hx, rfl, _, rfl, ?_⟩
            refine iteT ?_
            refine ⟨_, rfl, .inl ⟨rfl, _, SqL.of hW4⟩, ?_⟩
            refine ⟨by show 2 ≤ sizeLine; decide, fun p np => ?_⟩
            have s7 : Same H4 (upd H4 p (.lst [V.str "even", .str "odd"])) := same_new np
            have e2 : (("even" : Str) ++ (" from " : Str)).length = 10 := by decide +kernel
            have e3 : (("even" : Str) ++ (" from " : Str)) = ("even from " : Str) := by decide +kernel
            refine ⟨_, rfl, p, _, 0, _, rfl, rfl, SqL.of upd_same, rfl, ?_⟩
            refine ⟨_, _, rfl, rfl, Nat.le_trans (show ("even" : Str).length + (" from " : Str).length ≤ 5000 by decide +kernel) big, ?_⟩
            refine ⟨_, rfl, _, rfl, Ee, _, 0, _, rfl, rfl, SqL.of (s7 _ _ hE4), hx, (n : Int), rfl, n_log n (by omega), ?_⟩
            refine ⟨_, _, rfl, rfl, Nat.le_trans (Nat.add_le_add (Nat.le_of_eq e2) ln) (by omega), ?_⟩
            have hev : (evS (tailN b 202)).length ≤ 1 := by cases tailN b 202 <;> simp [evS]
            refine ⟨W, ((listedN b).map nS).map V.str, _, rfl, rfl, s7 _ _ hW4, ?_, ?_⟩
            · simp only [List.length_map, List.length_append]; omega
            refine ⟨_, rfl, fun c y hc => ?_, ?_, ?_, ?_⟩
            · rw [upd_ne (fun e => by rw [e, nWH] at hc; cases hc)]
              exact (s6.trans s7) _ _ hc
            · rw [upd_ne (Ne.symm hWE)]; have z := s7 _ _ hE4; rw [et] at z; exact z
            · rw [upd_ne (Ne.symm hWD)]; exact s7 _ _ hD4
            · rw [upd_same]
              show some (HO.lst (((listedN b).map nS).map V.str ++ [V.str ((("even" : Str) ++ (" from " : Str)) ++ nS n)])) = some (HO.lst (((listedN b).map nS ++ evS (tailN b 202)).map V.str))
              rw [e3]
              rw [et]
              simp [evS]
        | 1, _ =>
          cases et : tailN b 201 with
          | none =>
            have hx : atI [natO (tailN b 202), natO (tailN b 201)] 1 = some V.non := congrArg (fun z => some (natO z)) et
            refine ⟨_, rfl, _, rfl, Ee, _, 1, _, rfl, rfl, SqL.of hE4, hx, rfl, _, rfl, ?_⟩
            refine iteF ⟨_, rfl, s6, (by have z := hE4; rw [et] at z; exact z), hD4, ?_⟩
            rw [hW4]
            show some (HO.lst (((listedN b).map nS ++ evS (tailN b 202)).map V.str)) = some (HO.lst ((partsS b).map V.str))
            unfold partsS
            rw [et]
            simp [odS]
          | some n =>
            have hn := tail_le (by decide) et
            have ln := nS_len n (by omega)
            have hx : atI [natO (tailN b 202), natO (tailN b 201)] 1 = some (V.int (n : Nat)) := congrArg (fun z => some (natO z)) et
            refine ⟨_, rfl, _, rfl, Ee, _, 1, _, rfl, rfl, SqL.of hE4, hx, rfl, _, rfl, ?_⟩
            refine iteT ?_
            refine ⟨_, rfl, .inl ⟨rfl, _, SqL.of hW4⟩, ?_⟩
            refine ⟨by show 2 ≤ sizeLine; decide, fun p np => ?_⟩
            have s7 : Same H4 (upd H4 p (.lst [V.str "even", .str "odd"])) := same_new np
            have e2 : (("odd" : Str) ++ (" from " : Str)).length = 9 := by decide +kernel
            have e3 : (("odd" : Str) ++ (" from " : Str)) = ("odd from " : Str) := by decide +kernel
            refine ⟨_, rfl, p, _, 1, _, rfl, rfl, SqL.of upd_same, rfl, ?_⟩
            refine ⟨_, _, rfl, rfl, Nat.le_trans (show ("odd" : Str).length + (" from " : Str).length ≤ 5000 by decide +kernel) big, ?_⟩
            refine ⟨_, rfl, _, rfl, Ee, _, 1, _, rfl, rfl, SqL.of (s7 _ _ hE4), hx, (n : Int), rfl, n_log n (by omega), ?_⟩
            refine ⟨_, _, rfl, rfl, Nat.le_trans (Nat.add_le_add (Nat.le_of_eq e2) ln) (by omega), ?_⟩
            have hev : (evS (tailN b 202)).length ≤ 1 := by cases tailN b 202 <;> simp [evS]
            refine ⟨W, ((listedN b).map nS ++ evS (tailN b 202)).map V.str, _, rfl, rfl, s7 _ _ hW4, ?_, ?_⟩
            · simp only [List.length_map, List.length_append]; omega
            refine ⟨_, rfl, fun c y hc => ?_, ?_, ?_, ?_⟩
            · rw [upd_ne (fun e => by rw [e, nWH] at hc; cases hc)]
              exact (s6.trans s7) _ _ hc
            · rw [upd_ne (Ne.symm hWE)]; have z := s7 _ _ hE4; rw [et] at z; exact z
            · rw [upd_ne (Ne.symm hWD)]; exact s7 _ _ hD4
            · rw [upd_same]
              show some (HO.lst (((listedN b).map nS ++ evS (tailN b 202)).map V.str ++ [V.str ((("odd" : Str) ++ (" from " : Str)) ++ nS n)])) = some (HO.lst ((partsS b).map V.str))
              rw [e3]
              unfold partsS; rw [et]
              simp [odS]
      obtain ⟨v6, rfl, s6, hE4, hD4, hW4⟩ := h
      have hW5 : H4 W = some (.lst ((partsS b).map V.str)) := hW4
      refine ⟨_, rfl, _, _, rfl, rfl, 1, 205, rfl, ⟨by decide, by decide, by decide, by decide⟩, fun Lz nL => ?_⟩
      refine lc_range (lo := 1) (n := 204) (fun j H5 => Same H4 H5 ∧ H5 Lz = some (.lst (natsV ((List.range' 1 j).filter fun n => hasN b n)))) ⟨same_new nL, upd_same⟩ (fun j H5 hj h => ?_) (fun H5 h => ?_)
      · obtain ⟨s7, hL⟩ := h
        have en : ((1 : Int) + (j : Nat)) = ((j + 1 : Nat) : Int) := by omega
        rw [en]
        refine ⟨rfl, ?_⟩
        refine ⟨_, rfl, _, rfl, _, _, rfl, rfl, a, _, _, _, rfl, rfl, hS.ext (s6.trans s7), (by rw [show (((j + 1 : Nat) : Int) - 1) = (j : Int) by omega]; exact tr_at hj), _, rfl, ?_⟩
        by_cases hh : hasN b (j + 1) = true
        · rw [hh]
          refine iteT ?_
          refine ⟨_, rfl, _, hL, ?_, ?_, ?_⟩
          · unfold natsV
            rw [List.length_map]
            have := List.length_filter_le (fun n => hasN b n) (List.range' 1 j)
            rw [List.length_range'] at this
            omega
          · intro c y hc
            rw [upd_ne (fun e => by rw [e, nL] at hc; cases hc)]
            exact s7 _ _ hc
          · rw [upd_same, List.range'_1_concat, List.filter_append, Nat.add_comm 1 j, List.filter_cons_of_pos (by rw [hh])]
            unfold natsV
            rw [List.map_append]
            rfl
        · have hf : hasN b (j + 1) = false := by simpa using hh
          rw [hf]
          refine iteF ⟨s7, ?_⟩
          rw [hL, List.range'_1_concat, List.filter_append, Nat.add_comm 1 j, List.filter_cons_of_neg (by rw [hf]; exact Bool.false_ne_true), List.filter_nil, List.append_nil]
      obtain ⟨s7, hL⟩ := h
      refine ⟨_, rfl, Lz, _, rfl, SqL.of hL, fun p np => ?_⟩
      have s8 : Same H5 (upd H5 p (.lst (cutV (natsV ((List.range' 1 204).filter fun n => hasN b n)) none (some 1)))) := same_new np
      refine ⟨by show 1 ≤ sizeLine; decide, fun p2 np2 => ?_⟩
      have s9 : Same (upd H5 p (.lst (cutV (natsV ((List.range' 1 204).filter fun n => hasN b n)) none (some 1)))) (upd (upd H5 p (.lst (cutV (natsV ((List.range' 1 204).filter fun n => hasN b n)) none (some 1)))) p2 (.lst [V.non])) := same_new np2
      refine ⟨p, p2, _, _, rfl, rfl, s9 _ _ upd_same, upd_same, ?_, fun p3 np3 => ?_⟩
      · have h1 := cutV_length (natsV ((List.range' 1 204).filter fun n => hasN b n)) none (some 1)
        have h2 := List.length_filter_le (fun n => hasN b n) (List.range' 1 204)
        rw [List.length_range'] at h2
        have h3 : (natsV ((List.range' 1 204).filter fun n => hasN b n)).length = ((List.range' 1 204).filter fun n => hasN b n).length := by unfold natsV; rw [List.length_map]
        show (cutV _ _ _).length + 1 ≤ sizeLine
        omega
      have s10 := same_new (o := .lst (cutV (natsV ((List.range' 1 204).filter fun n => hasN b n)) none (some 1) ++ [V.non])) np3
      have s4t := ((s7.trans s8).trans s9).trans s10
      have hl0 := cut_head ((List.range' 1 204).filter fun n => hasN b n)
      rw [least_eq hb.2] at hl0
      refine ⟨_, rfl, D, _, rfl, .inl ⟨SqL.of (s4t _ _ hD4), fun t nt => ?_⟩⟩
      have s11 := s4t.trans (same_new (o := .tup (natsV (listedN b))) nt)
      refine ⟨_, rfl, Ee, _, 0, _, rfl, rfl, SqL.of (s11 _ _ hE4), rfl, ?_⟩
      refine ⟨_, rfl, Ee, _, 1, _, rfl, rfl, SqL.of (s11 _ _ hE4), rfl, ?_⟩
      refine ⟨_, rfl, p3, _, 0, _, rfl, rfl, SqL.of ((same_new nt) _ _ upd_same), hl0, ?_⟩
      refine ⟨_, rfl, Nat.zero_le _, fun p4 np4 => ?_⟩
      have s12 := s11.trans (same_new (o := .lst []) np4)
      have ht6 := (same_new (o := .lst []) np4) t (.tup (natsV (listedN b))) upd_same
      refine ⟨W, p4, _, rfl, rfl, SqL.of (s12 _ _ hW5), SqL.of upd_same, _, rfl, ?_⟩
      have sF := s6.trans s12
      have fin : ∀ z : Str, z = showS b → ∀ R, (upd (upd (upd (upd (upd H5 p (.lst (cutV (natsV ((List.range' 1 204).filter fun n => hasN b n)) none (some 1)))) p2 (.lst [V.non])) p3 (.lst (cutV (natsV ((List.range' 1 204).filter fun n => hasN b n)) none (some 1) ++ [V.non]))) t (.tup (natsV (listedN b)))) p4 (.lst [])) R = none →
          Q (.ref R) (upd (upd (upd (upd (upd (upd H5 p (.lst (cutV (natsV ((List.range' 1 204).filter fun n => hasN b n)) none (some 1)))) p2 (.lst [V.non])) p3 (.lst (cutV (natsV ((List.range' 1 204).filter fun n => hasN b n)) none (some 1) ++ [V.non]))) t (.tup (natsV (listedN b)))) p4 (.lst [])) R (.lst [.ref t, natO (tailN b 202), natO (tailN b 201), natO (leastS b), .str z])) := by
        intro z hz R nR
        subst hz
        have s13 := same_new (o := .lst [V.ref t, natO (tailN b 202), natO (tailN b 201), natO (leastS b), .str (showS b)]) nR
        refine q R _ ?_ (sF.trans s13) ⟨t, upd_same, s13 _ _ ht6⟩
        cases e : H R with
        | none => rfl
        | some o => rw [sF _ _ e] at nR; cases nR
      by_cases hp : partsS b = []
      · have e0 : decide (((partsS b).map V.str).length = 0) = true := by rw [hp]; rfl
        rw [e0]
        refine iteF ?_
        refine ⟨by show 5 ≤ sizeLine; decide, fun R nR => fin _ ?_ R nR⟩
        unfold showS
        rw [if_pos hp]
        decide +kernel
      · have e0 : decide (((partsS b).map V.str).length = 0) = false := by
          refine decide_eq_false fun z => hp ?_
          rw [List.length_map] at z
          exact List.eq_nil_of_length_eq_zero z
        rw [e0]
        refine iteT ?_
        refine ⟨⟨_, rfl⟩, _, rfl, ", ", W, partsS b, rfl, rfl, .inl (SqL.of (s12 _ _ hW5)), ?_, ?_⟩
        · have z := sum_le (c := 20) (partsS b) pe
          have e2 : (", " : Str).length = 2 := by decide +kernel
          rw [e2]
          omega
        refine ⟨by show 5 ≤ sizeLine; decide, fun R nR => fin _ ?_ R nR⟩
        unfold showS
        rw [if_neg hp]
end
end Sq
namespace Sq
open PySem L2 PySem.Spec PyProof.Rows
/-- what is of a built-in type that is a bool is a truth -/
theorem bool_of {K : PySem.W.Frag} {H : Hp} {v : V} {t : String} (ty : TyX K H v (.type t)) (h : kitB t "bool" = some true) : ∃ y, v = .bl y := by
  cases ty with
  | base b =>
    cases b with
    | bl y => exact ⟨y, rfl⟩
    | _ => exact absurd h (by decide +kernel)
  | _ => exact absurd h (by decide +kernel)
end Sq
namespace Sq
open PySem L2 PySem.Spec PyProof.Rows
/-! ### x in o, x not in o: o an instance of a class of the text with a __contains__ -/
def rInO (C : Addr) (sp : Sp) (E : XK) (g : Bool → Bool) : R2 := fun x y H Q => ∃ b dx fs, y = .ref b ∧ H b = some (.ins C dx fs) ∧ sp [.ref b, x] H (fun v H' => ∃ c, v = .bl c ∧ Q (.bl (g c)) H') E
section
variable {X : Cx} {CX : CXT} {n : Nat} {f C : Addr} {sp : Sp} {E : XK}
theorem op_inO (hs : PySem.W.findIn X.K (.ref C) "__contains__" = some (some (.ref f))) (hf : PySem.W.isFn X.K (.ref f) = true) (F : FnR X.prog X.w X.K X.mg X.base CX n f sp) (hr : Room n X.A) (hx : Passes CX X E) :
    OpR X (compareOp .In) (rInO C sp E id) := by
  intro pins s σ H x y v u Q I rx ry h
  obtain ⟨b, dx, fs, rfl, hb, q⟩ := h
  cases (show u = Value.ref b from ry)
  obtain ⟨_, J, _⟩ := ins_get I.hok hb
  obtain ⟨_, J, _⟩ := J.look
  obtain ⟨m, hF⟩ := I.fr
  refine PySem.W.in_K hF I.ok.mod.kin J hs hf ?_
  refine wpAny_mono (wpAny_call (run_fnR (us := [.ref b, v]) (vs := [.ref b, x]) F hr hx I (.cons rfl (.cons rx .nil)) q)) (fun w s' z => ?_) fun _ _ x => x
  obtain ⟨z', H', I', rz, c, ec, qz⟩ := z
  subst ec
  obtain rfl : w = Value.bool c := rz
  exact wpAny_truthy_bool ⟨.bl c, H', I', rfl, qz⟩
theorem op_notInO (hs : PySem.W.findIn X.K (.ref C) "__contains__" = some (some (.ref f))) (hf : PySem.W.isFn X.K (.ref f) = true) (F : FnR X.prog X.w X.K X.mg X.base CX n f sp) (hr : Room n X.A) (hx : Passes CX X E) :
    OpR X (compareOp .NotIn) (rInO C sp E not) := by
  intro pins s σ H x y v u Q I rx ry h
  obtain ⟨b, dx, fs, rfl, hb, q⟩ := h
  cases (show u = Value.ref b from ry)
  obtain ⟨_, J, _⟩ := ins_get I.hok hb
  obtain ⟨_, J, _⟩ := J.look
  obtain ⟨m, hF⟩ := I.fr
  refine PySem.W.notIn_K hF I.ok.mod.kin J hs hf ?_
  refine wpAny_mono (wpAny_call (run_fnR (us := [.ref b, v]) (vs := [.ref b, x]) F hr hx I (.cons rfl (.cons rx .nil)) q)) (fun w s' z => ?_) fun _ _ x => x
  obtain ⟨z', H', I', rz, c, ec, qz⟩ := z
  subst ec
  obtain rfl : w = Value.bool c := rz
  exact wpAny_truthy_bool ⟨.bl (!c), H', I', rfl, qz⟩
end
end Sq
namespace Sq
open PySem L2 TL
section
variable {P : Program} {w : World} {K : PySem.W.Frag} {mg : Str → Option Value} {base : Heap}
variable {C : Addr}
/-- what is in a set, of values of any kind -/
def hasV (b : Nat) : V → Bool
  | .int n => decide (0 < n) && hasN b n.toNat
  | _ => false
def spHasZ (K : PySem.W.Frag) (C : Addr) : Sp := fun vs H Q _ => ∃ (a : Addr) (v : V) (b : Nat), vs = [.ref a, v] ∧ SetAt C H a b ∧ Pl K H v ∧ Q (.bl (hasV b v)) H
theorem hasV_no {b : Nat} {v : V} (h : ∀ n, v ≠ .int n) : hasV b v = false := by
  cases v with
  | int n => exact absurd rfl (h n)
  | _ => rfl
theorem ok_is_wholeA {f : Addr} {fd : FuncData} (F : Fun K "is_whole" "is_whole" s_is_whole f fd) (T : Bt mg) : FnOk P w K mg base CX0 1 f fd ["value"] (spWholeA K) := by
  refine F.ok sc_is_whole (fun vs H Q E h => ?_) (fun cdv A outer s H vs Q E hr h => ?_)
  · obtain ⟨v, rfl, _⟩ := h
    rfl
  · obtain ⟨v, rfl, pl, q⟩ := h
    refine ⟨_, (pss_one (ps_ret (pe_and (pe_callB call_isi (by rfl) T.isinstance (by decide +kernel) (pa_cons (pv 0) (pa_cons (pe_bltn (v := .ty "int") (by rfl) T.int (by decide +kernel) rfl) pa_nil)))
            (pe_and (pe_cmpR op_notTF (pv 0) pe_bl (nomark _))
            (pe_one (pe_cmpR op_notTF (pv 0) pe_bl (nomark _))))))), ?_⟩
    rcases pl with ⟨n, rfl⟩ | ⟨nn, t, ty, b, k1, k2⟩
    · refine ⟨_, rfl, _, _, .type "int", _, true, rfl, .ty "int", .base (.int n), kit_ty (by decide +kernel), true, rfl, ?_⟩
      refine iteT ?_
      refine ⟨_, rfl, _, rfl, rfl, _, rfl, ?_⟩
      refine iteT ?_
      exact ⟨_, rfl, _, rfl, rfl, q⟩
    · rw [isI_no nn] at q
      refine ⟨_, rfl, _, _, .type t, _, b, rfl, .ty "int", ty, kit_ty k1, b, rfl, ?_⟩
      cases b with
      | false => exact iteF q
      | true =>
        obtain ⟨y, rfl⟩ := bool_of ty (k2 rfl)
        refine iteT ?_
        refine ⟨_, rfl, _, rfl, rfl, _, rfl, ?_⟩
        cases y with
        | true => exact iteF q
        | false => exact iteT ⟨_, rfl, _, rfl, rfl, q⟩
abbrev s_Z7 : Stmt := inClass (top 18) 7
theorem sc_Z7 : FnScope ["self", "value"] ["self", "value"] (defScope s_Z7) := ⟨rfl, rfl, rfl, by decide +kernel, rfl, by decide +kernel, by decide +kernel⟩
theorem ok_Z7 {f : Addr} {fd : FuncData} (F : Fun K "__contains__" "Sizes.__contains__" s_Z7 f fd) (N : Zc K C) (T : Bt mg) (GA_is_whole : FB P w K mg base "is_whole" 1 ["value"] (spWholeA K)) (G_has_bit : FB P w K mg base "has_bit" 1 ["bits", "index"] spHas) (G_standing_for : FB P w K mg base "standing_for" 1 ["size"] spStand) : FnOk P w K mg base CX0 2 f fd ["self", "value"] (spHasZ K C) := by
  refine F.ok sc_Z7 (fun vs H Q E h => ?_) (fun cdv A outer s H vs Q E hr h => ?_)
  · obtain ⟨a, v, b, rfl, _⟩ := h
    rfl
  · obtain ⟨a, v, b, rfl, ⟨dx, ha⟩, pl, q⟩ := h
    refine ⟨_, (pss_one (ps_ret (pe_and (pe_fb GA_is_whole hr (by decide) (by rfl) (pa_cons (pv 1) pa_nil))
            (pe_and (pe_cmpR op_gt (pv 1) pe_int (nomark _))
            (pe_one (pe_fb G_has_bit hr (by decide) (by rfl) (pa_cons (pe_fld (pv 0) rfl) (pa_cons (pe_fb G_standing_for hr (by decide) (by rfl) (pa_cons (pv 1) pa_nil)) pa_nil)))))))), ?_⟩
    refine ⟨_, rfl, v, rfl, pl, ?_⟩
    rcases id pl with ⟨n, rfl⟩ | ⟨nn, _⟩
    · refine ⟨true, rfl, ?_⟩
      refine iteT ?_
      refine ⟨_, rfl, _, _, rfl, rfl, decide ((0 : Int) < n), rfl, ?_⟩
      have e0 : hasV b (.int n) = (decide ((0 : Int) < n) && hasN b n.toNat) := rfl
      rw [e0] at q
      by_cases h : (0 : Int) < n
      · rw [decide_eq_true h] at q ⊢
        refine iteT ?_
        refine ⟨_, rfl, a, C, dx, _, _, rfl, ha, N.cl, N.nB, zfl_b b, ?_⟩
        have en : V.int n = V.int (n.toNat : Nat) := by rw [Int.toNat_of_nonneg (by omega)]
        refine ⟨_, rfl, n.toNat, congrArg (fun z => [z]) en, ?_⟩
        exact ⟨b, stN n.toNat, rfl, q⟩
      · rw [decide_eq_false h] at q ⊢
        exact iteF q
    · rw [hasV_no nn] at q
      refine ⟨false, by rw [isI_no nn], ?_⟩
      exact iteF q
/-- == with a value that is no set of sizes -/
def spZEqO (K : PySem.W.Frag) (C : Addr) : Sp := fun vs H Q _ => ∃ (a : Addr) (v : V) (t : Value), vs = [.ref a, v] ∧ TyX K H v t ∧ PySem.W.kitOne K t (.ref C) = some false ∧ Q (.bl false) H
theorem ok_Z5O {f : Addr} {fd : FuncData} (F : Fun K "__eq__" "Sizes.__eq__" s_Z5 f fd) (T : Bt mg) (mC : mg "Sizes" = some (.ref C)) : FnOk P w K mg base CX0 1 f fd ["self", "other"] (spZEqO K C) := by
  refine F.ok sc_Z5 (fun vs H Q E h => ?_) (fun cdv A outer s H vs Q E hr h => ?_)
  · obtain ⟨a, v, t, rfl, _⟩ := h
    rfl
  · obtain ⟨a, v, t, rfl, ty, kn, q⟩ := h
    refine ⟨_, (pss_one (ps_ret (pe_and (pe_callB call_isi (by rfl) T.isinstance (by decide +kernel) (pa_cons (pv 1) (pa_cons (pe_glob (v := .ref C) (by rfl) mC rfl) pa_nil)))
            (pe_one (pe_cmpR op_eq (pe_fld (pv 0) rfl) (pe_fld (pv 1) rfl) (nomark _)))))), ?_⟩
    refine ⟨_, rfl, _, _, t, .ref C, false, rfl, .own C, ty, kn, false, rfl, ?_⟩
    exact iteF q
end
end Sq
namespace Sq
open PySem L2 PySem.Spec PyProof.Rows GenW
/-! ### an if in a generator -/
def tGIf (tc : TT) (ta tb : TGn) : TGn := fun D ys σ H => tc σ H fun b H1 => if b = true then ta D ys σ H1 else tb D ys σ H1
theorem gs_if {X : Cx} {c : Expr} {a b : List Stmt} {pos : Pos} {tc : TT} {ta tb : TGn} (hc : PT X c tc) (ha : GSs X a ta) (hb : GSs X b tb) : GS X (.If c a b pos) (tGIf tc ta tb) := by
  refine ⟨fun A S ip R n ys s₀ cd fs K J gd lv s σ H D g hn k hI ht => ?_⟩
  obtain ⟨acc, cc, r, I⟩ := hI
  rw [exec_If]
  refine seg_at ?_
  show Seg _ A R _ n s₀ cd ((isTrue c X.env (eval c X.env) >>= fun z => if z = true then execs a X.env else execs b X.env).wrap K J gd lv) fs s
  refine seg_bind_wrap ?_
  rw [g.over]
  refine wpAny_mono (hc.run _ s σ H _ I ht) (fun z s' hz => ?_) fun x s' hx => k.exc n s₀ x s' hx
  obtain ⟨H2, I2, q2⟩ := hz
  cases z with
  | true =>
    rw [if_pos rfl]
    exact ha.run A S ip R n ys s₀ cd fs K J gd lv s' σ H2 D g hn k ⟨acc, cc, r, I2⟩ q2
  | false =>
    rw [if_neg Bool.false_ne_true]
    exact hb.run A S ip R n ys s₀ cd fs K J gd lv s' σ H2 D g hn k ⟨acc, cc, r, I2⟩ q2
end Sq
namespace Sq
open PySem L2 PySem.Spec PyProof.Rows
/-! ### the least sizes of a set, as many as asked for -/
def ctN (b k : Nat) : List Nat := (List.range' 1 k).filter (hasN b)
def fstsN (b n : Nat) : List Nat := (ctN b (204 + 2 * n)).take n
theorem ct_succ (b k : Nat) : ctN b (k + 1) = ctN b k ++ if hasN b (k + 1) then [k + 1] else [] := by
  unfold ctN
  rw [List.range'_concat, List.filter_append, Nat.one_mul, Nat.add_comm 1 k]
  congr 1
  cases h : hasN b (k + 1) <;> simp [h]
theorem has_far (b : Nat) {k : Nat} (h : 203 ≤ k) : hasN b k = b.testBit (202 - k % 2) := by
  unfold hasN stN
  rw [if_neg (by omega)]
theorem ct_pre (b k : Nat) : ∀ d, ∃ more, ctN b (k + d) = ctN b k ++ more
  | 0 => ⟨[], by simp⟩
  | d + 1 => by
    obtain ⟨m, e⟩ := ct_pre b k d
    refine ⟨m ++ if hasN b (k + d + 1) then [k + d + 1] else [], ?_⟩
    rw [← Nat.add_assoc, ct_succ, e, List.append_assoc]
theorem ct_many {b : Nat} (h : b.testBit 201 = true ∨ b.testBit 202 = true) : ∀ j, j ≤ (ctN b (202 + 2 * j)).length
  | 0 => Nat.zero_le _
  | j + 1 => by
    have ih := ct_many h j
    rw [show 202 + 2 * (j + 1) = 202 + 2 * j + 1 + 1 by omega, ct_succ, ct_succ, List.length_append, List.length_append, has_far b (k := 202 + 2 * j + 1) (by omega), has_far b (k := 202 + 2 * j + 1 + 1) (by omega),
      show 202 - (202 + 2 * j + 1) % 2 = 201 by omega, show 202 - (202 + 2 * j + 1 + 1) % 2 = 202 by omega]
    rcases h with h | h
    · rw [h, if_pos rfl]
      simp only [List.length_singleton]
      omega
    · rw [h, if_pos rfl]
      simp only [List.length_singleton]
      omega
theorem ct_stop {b : Nat} (h1 : b.testBit 201 = false) (h2 : b.testBit 202 = false) : ∀ d, ctN b (202 + d) = ctN b 202
  | 0 => rfl
  | d + 1 => by
    rw [← Nat.add_assoc, ct_succ, ct_stop h1 h2 d, has_far b (by omega)]
    have : b.testBit (202 - (202 + d + 1) % 2) = false := by
      rcases (show (202 + d + 1) % 2 = 0 ∨ (202 + d + 1) % 2 = 1 by omega) with e | e <;> rw [e]
      · exact h2
      · exact h1
    rw [this, if_neg Bool.false_ne_true, List.append_nil]
theorem fsts_full {b n k : Nat} (hk : k ≤ 204 + 2 * n) (h : (ctN b k).length = n) : fstsN b n = ctN b k := by
  unfold fstsN
  obtain ⟨m, e⟩ := ct_pre b k (204 + 2 * n - k)
  rw [show 204 + 2 * n = k + (204 + 2 * n - k) by omega, e, ← h, List.take_left']
  rfl
theorem fsts_stop {b n : Nat} (h1 : b.testBit 201 = false) (h2 : b.testBit 202 = false) (h : (ctN b 202).length ≤ n) : fstsN b n = ctN b 202 := by
  unfold fstsN
  rw [show 204 + 2 * n = 202 + (2 + 2 * n) by omega, ct_stop h1 h2, List.take_of_length_le h]
theorem take_step (b n k : Nat) : (ctN b (k + 1)).take n = (ctN b k).take n ++ if ((ctN b k).take n).length < n ∧ hasN b (k + 1) = true then [k + 1] else [] := by
  rw [ct_succ, List.take_append]
  congr 1
  rw [List.length_take]
  by_cases h : (ctN b k).length < n
  · have e : min n (ctN b k).length < n := by omega
    cases hb : hasN b (k + 1)
    · simp
    · rw [if_pos rfl, if_pos ⟨e, rfl⟩, List.take_of_length_le (by simp; omega)]
  · have e : ¬ min n (ctN b k).length < n := by omega
    rw [show n - (ctN b k).length = 0 by omega, List.take_zero]
    symm
    exact if_neg (fun z => e z.1)
theorem ct_each {b k n : Nat} (h : n ∈ ctN b k) : 1 ≤ n ∧ n ≤ k := by
  have z := (List.mem_filter.mp h).1
  rw [List.mem_range'_1] at z
  omega
theorem tail_shift {b : Nat} (hb : SB b) : decide ((0 : Int) < (b : Int) / 2 ^ 201) = (b.testBit 201 || b.testBit 202) := by
  have e : (b : Int) / 2 ^ 201 = ((b / 2 ^ 201 : Nat) : Int) := by
    rw [Int.natCast_ediv]
    rfl
  rw [e]
  by_cases h : b < 2 ^ 201
  · rw [Nat.div_eq_of_lt h, Nat.testBit_lt_two_pow h, Nat.testBit_lt_two_pow (Nat.lt_of_lt_of_le h (Nat.pow_le_pow_right (by decide) (by decide)))]
    rfl
  · have h1 : 0 < b / 2 ^ 201 := Nat.div_pos (Nat.le_of_not_lt h) (by decide)
    rw [decide_eq_true (by omega)]
    symm
    apply Classical.byContradiction
    intro hc
    rw [Bool.not_eq_true, Bool.or_eq_false_iff] at hc
    refine h (lt_of_bits fun i hi => ?_)
    rcases (show i = 201 ∨ i = 202 ∨ 203 ≤ i by omega) with e | e | e
    · rw [e]; exact hc.1
    · rw [e]; exact hc.2
    · exact Nat.testBit_lt_two_pow (Nat.lt_of_lt_of_le hb.1 (Nat.pow_le_pow_right (by decide) e))
end Sq
namespace Sq
open PySem L2 TL
section
variable {P : Program} {w : World} {K : PySem.W.Frag} {mg : Str → Option Value} {base : Heap}
theorem ite_or {c : Prop} [Decidable c] {a b : Prop} (ha : a) (hb : ¬c → a → b) : if c then a else b := by
  by_cases h : c
  · rw [if_pos h]; exact ha
  · rw [if_neg h]; exact hb h ha
theorem Fun.gfn {P : Program} {w : World} {K : PySem.W.Frag} {mg : Str → Option Value} {base : Heap} {x qual : Str} {st : Stmt} {f : Addr} {fd : FuncData} {N ps : List Str} {k : Nat} {sp : SpG} (F : Fun K x qual st f fd) (S : GScope N ps (defScope st)) (len : ∀ vs H Q E, sp vs H Q E → vs.length = ps.length)
    (hbody : ∀ (cdv : Value) (A : Around) (outer : List Env) (s : Shared) (H : Hp) (vs : List V) (Q : List V → Hp → Prop) (E : XK) (pn : List (Addr × Obj)), Room k (A.deeper (PyProof.Rows.envOfC qual (defScope st) s.heap.objs.size f cdv)) → sp vs H Q E →
      ∃ t, GSs (gcxOf P w K mg base N qual (defScope st) f cdv A outer s H E pn) (defBody st) t ∧ t { nx := fun ys _ H' => Q ys H', rt := fun ys v H' => v = .non ∧ Q ys H' } [] (L2.start N vs) H) : GFn P w K mg base (k + 1) f fd ps sp := by
  obtain ⟨oc, od, kV, doc, pm, an, cdv, ct, osl, rfl, lk, hcd⟩ := F.ex
  exact gfn_of lk hcd S len (fun A outer s H vs Q E pn hr h => hbody cdv A outer s H vs Q E pn hr h)
def spAsc (C : Addr) : SpG := fun vs H Q _ => ∃ (a : Addr) (b n : Nat), vs = [.ref a, .int (n : Nat)] ∧ SetAt C H a b ∧ SB b ∧ n ≤ 1000 ∧ Q (natsV (fstsN b n)) H
abbrev s_Z13 : Stmt := inClass (top 18) 13
theorem sc_Z13 : GScope ["self", "count", "has_tail", "size", "left"] ["self", "count"] (defScope s_Z13) := ⟨rfl, rfl, rfl, by decide +kernel, rfl, by decide +kernel, by decide +kernel⟩
theorem ok_Z13 {C : Addr} {f : Addr} {fd : FuncData} (F : Fun K "ascending" "Sizes.ascending" s_Z13 f fd) (N : Zc K C) (T : Bt mg) (G_is_within : FB P w K mg base "is_within" 2 ["value", "least", "most"] spWithin) (G_has_bit : FB P w K mg base "has_bit" 1 ["bits", "index"] spHas) (G_standing_for : FB P w K mg base "standing_for" 1 ["size"] spStand)
    {uLO uLE uMA : Tok} (mLO : mg "LAST_ODD" = some (.int 201 uLO)) (mLE : mg "LAST_EVEN" = some (.int 202 uLE)) (mMA : mg "MOST_ASCENDING" = some (.int 1000 uMA)) : GFn P w K mg base 3 f fd ["self", "count"] (spAsc C) := by
  refine Fun.gfn F sc_Z13 (fun vs H Q E h => ?_) (fun cdv A outer s H vs Q E pn hr h => ?_)
  · obtain ⟨a, b, n, rfl, _⟩ := h
    rfl
  · obtain ⟨a, b, n, rfl, ⟨dx, ha⟩, hb, hn, q⟩ := h
    refine ⟨_, (gss_cons (gs_ps (ps_if (pt_not (pt_val (pe_fb G_is_within hr (by decide) (by rfl) (pa_cons (pv 1) (pa_cons pe_int (pa_cons (pe_glob (v := .int 1000) (by rfl) mMA ⟨_, rfl⟩) pa_nil))))))
        (pss_one ps_never)
        pss_nil))
        (gss_cons (gs_ps (ps_set (i := 2) sc_Z13.nd rfl (by first | exact .inl rfl | exact .inr rfl) (pe_cmpR op_gt (pe_op op_shr (pe_fld (pv 0) rfl) (pe_glob (v := .int 201) (by rfl) mLO ⟨_, rfl⟩)) pe_int (nomark _))))
        (gss_cons (gs_ps (ps_par (i := 3) (j := 4) (by rfl) sc_Z13.nd rfl rfl (by decide) rfl rfl (pa_cons pe_int (pa_cons (pv 1) pa_nil)) (by rfl)))
        (gss_cons (gs_while owns_gcx (PW.pt (pw_and (pt_cmpR op_gt (pv 4) pe_int (nomark _)) (pw_and1 (PW.pt (pw_or (pt_val (pv 2)) (pw_or1 (pt_cmpR op_le (pv 3) (pe_glob (v := .int 202) (by rfl) mLE ⟨_, rfl⟩) (nomark _))))))))
        (gss_cons (gs_if (pt_val (pe_fb G_has_bit hr (by decide) (by rfl) (pa_cons (pe_fld (pv 0) rfl) (pa_cons (pe_fb G_standing_for hr (by decide) (by rfl) (pa_cons (pv 3) pa_nil)) pa_nil))))
        (gss_cons (gs_yield (pv 3))
        (gss_cons (gs_ps (ps_aug (i := 4) sc_Z13.nd rfl (by first | exact .inl rfl | exact .inr rfl) pe_int ip_sub))
        gss_nil))
        gss_nil)
        (gss_cons (gs_ps (ps_aug (i := 3) sc_Z13.nd rfl (by first | exact .inl rfl | exact .inr rfl) pe_int ip_add))
        gss_nil)))
        gss_nil)))), ?_⟩
    refine ⟨_, rfl, (n : Int), 0, 1000, rfl, ?_⟩
    refine ⟨_, rfl, ?_⟩
    rw [show (decide ((0 : Int) ≤ (n : Int)) && decide ((n : Int) ≤ 1000)) = true by simp; omega]
    refine iteF ?_
    refine ⟨_, rfl, a, C, dx, _, _, rfl, ha, N.cl, N.nB, zfl_b b, ?_⟩
    refine ⟨_, _, rfl, rfl, (by show (0 : Int) ≤ 201; decide), ?_⟩
    refine ⟨_, _, rfl, rfl, ?_⟩
    refine ⟨_, rfl, ?_⟩
    refine ⟨_, _, rfl, ?_⟩
    have eT := tail_shift hb
    generalize hT : (b.testBit 201 || b.testBit 202) = tt at eT
    have hT0 : tt = false → b.testBit 201 = false ∧ b.testBit 202 = false := fun e => by rw [e] at hT; exact Bool.or_eq_false_iff.mp hT
    have hT1 : tt = true → b.testBit 201 = true ∨ b.testBit 202 = true := fun e => by rw [e] at hT; exact Bool.or_eq_true_iff.mp hT
    refine ⟨fun m ys σ H' => ∃ sz l : Nat, σ = [some (.ref a), some (.int (n : Nat)), some (.bl tt), some (.int (sz : Nat)), some (.int (l : Nat))] ∧ H' = H ∧ ys = natsV (ctN b (sz - 1)) ∧ (ctN b (sz - 1)).length + l = n ∧ 1 ≤ sz ∧ sz ≤ 205 + 2 * n ∧ (tt = false → sz ≤ 203) ∧ m = 206 + 2 * n - sz, ⟨_, 1, n, ?_, rfl, rfl, by simp [ctN], by omega, by omega, fun _ => by decide, rfl⟩, ?_⟩
    · rw [← eT]
      rfl
    rintro m ys σ H' ⟨sz, l, rfl, rfl, rfl, hl, h1, h2, h3, rfl⟩
    refine ⟨_, rfl, _, _, rfl, rfl, decide ((0 : Int) < (l : Nat)), rfl, ?_⟩
    by_cases hl0 : l = 0
    · rw [decide_eq_false (by omega)]
      refine iteF ?_
      refine iteF ?_
      have e := fsts_full (b := b) (n := n) (k := sz - 1) (by omega) (by omega)
      rw [e] at q
      exact q
    rw [decide_eq_true (by omega)]
    refine iteT ?_
    have step : ∀ sz' l' : Nat, sz' = sz + 1 → (ctN b (sz' - 1)).length + l' = n → (tt = false → sz ≤ 202) → ∃ m', m' < 206 + 2 * n - sz ∧ ∃ sz2 l2 : Nat, [some (V.ref a), some (V.int (n : Nat)), some (V.bl tt), some (V.int (sz' : Nat)), some (V.int (l' : Nat))] = [some (.ref a), some (.int (n : Nat)), some (.bl tt), some (.int (sz2 : Nat)), some (.int (l2 : Nat))] ∧ H' = H' ∧ natsV (ctN b (sz' - 1)) = natsV (ctN b (sz2 - 1)) ∧ (ctN b (sz2 - 1)).length + l2 = n ∧ 1 ≤ sz2 ∧ sz2 ≤ 205 + 2 * n ∧ (tt = false → sz2 ≤ 203) ∧ m' = 206 + 2 * n - sz2 := by
      intro sz' l' e1 e2 e3
      have hz : sz ≤ 202 + 2 * n := by
        cases ht : tt with
        | false => have := e3 ht; omega
        | true =>
          apply Classical.byContradiction
          intro hc
          have c1 := ct_many (hT1 ht) n
          obtain ⟨mr, c2⟩ := ct_pre b (202 + 2 * n) (sz - 1 - (202 + 2 * n))
          rw [show 202 + 2 * n + (sz - 1 - (202 + 2 * n)) = sz - 1 by omega] at c2
          have c3 : (ctN b (sz - 1)).length = (ctN b (202 + 2 * n)).length + mr.length := by rw [c2, List.length_append]
          omega
      exact ⟨_, by omega, sz', l', rfl, rfl, rfl, e2, by omega, by omega, fun ht => by have := e3 ht; omega, rfl⟩
    by_cases hx : tt = false ∧ 202 < sz
    · obtain ⟨ht, hsz⟩ := hx
      have h4 := h3 ht
      have e203 : sz = 203 := by omega
      subst ht e203
      refine ⟨_, rfl, _, rfl, ?_⟩
      refine iteF ?_
      refine ⟨_, rfl, _, _, rfl, rfl, _, rfl, ?_⟩
      refine iteF ?_
      have hl : (ctN b 202).length + l = n := hl
      have e := fsts_stop (b := b) (n := n) (hT0 rfl).1 (hT0 rfl).2 (by omega)
      rw [e] at q
      exact q
    have hs : tt = false → sz ≤ 202 := fun e => by
      apply Classical.byContradiction
      intro h
      exact hx ⟨e, by omega⟩
    refine ⟨_, rfl, _, rfl, ?_⟩
    refine ite_or ?_ (fun ht z => ⟨_, rfl, _, _, rfl, rfl, decide ((sz : Int) ≤ 202), rfl, ?_⟩)
    · refine iteT ?_
      refine ⟨fun ys' σ' H2 => ∃ m', m' < 206 + 2 * n - sz ∧ ∃ sz2 l2 : Nat, σ' = [some (.ref a), some (.int (n : Nat)), some (.bl tt), some (.int (sz2 : Nat)), some (.int (l2 : Nat))] ∧ H2 = H' ∧ ys' = natsV (ctN b (sz2 - 1)) ∧ (ctN b (sz2 - 1)).length + l2 = n ∧ 1 ≤ sz2 ∧ sz2 ≤ 205 + 2 * n ∧ (tt = false → sz2 ≤ 203) ∧ m' = 206 + 2 * n - sz2, fun _ _ _ h => h, ?_⟩
      have ez : sz - 1 + 1 = sz := by omega
      have es := ct_succ b (sz - 1)
      rw [ez] at es
      refine ⟨_, rfl, a, C, dx, _, _, rfl, ha, N.cl, N.nB, zfl_b b, ?_⟩
      refine ⟨_, rfl, sz, rfl, b, stN sz, rfl, _, rfl, ?_⟩
      have el : ((sz : Nat) : Int) + 1 = ((sz + 1 : Nat) : Int) := by omega
      refine ite2 (fun hh => ?_) (fun hh => ?_)
      · have hh2 : hasN b sz = true := hh
        rw [hh2, if_pos rfl] at es
        refine ⟨?_, _, rfl, ?_⟩
        · unfold natsV
          rw [List.length_map, sizeLine_eq]
          omega
        refine ⟨_, rfl, _, _, rfl, rfl, ?_⟩
        refine ⟨_, rfl, _, _, rfl, rfl, ?_⟩
        have e1 : natsV (ctN b (sz - 1)) ++ [V.int (sz : Nat)] = natsV (ctN b (sz + 1 - 1)) := by
          rw [Nat.add_sub_cancel, es]
          unfold natsV
          rw [List.map_append]
          rfl
        have z := step (sz + 1) (l - 1) rfl (by rw [Nat.add_sub_cancel, es, List.length_append, List.length_singleton]; omega) hs
        rw [← e1] at z
        have e2 : ((l : Nat) : Int) - 1 = ((l - 1 : Nat) : Int) := by omega
        show ∃ m', m' < _ ∧ ∃ sz2 l2 : Nat, [some (V.ref a), some (V.int (n : Nat)), some (V.bl tt), some (V.int ((sz : Nat) + 1)), some (V.int ((l : Nat) - 1))] = _ ∧ _
        rw [el, e2]
        exact z
      · have hh2 : hasN b sz = false := (by simpa using hh : b.testBit (stN sz) = false)
        rw [hh2, if_neg Bool.false_ne_true, List.append_nil] at es
        refine ⟨_, rfl, _, _, rfl, rfl, ?_⟩
        have z := step (sz + 1) l rfl (by rw [Nat.add_sub_cancel, es]; omega) hs
        rw [Nat.add_sub_cancel, es] at z
        show ∃ m', m' < _ ∧ ∃ sz2 l2 : Nat, [some (V.ref a), some (V.int (n : Nat)), some (V.bl tt), some (V.int ((sz : Nat) + 1)), some (V.int (l : Nat))] = _ ∧ _
        rw [el]
        exact z
    · have ht' : tt = false := by simpa using ht
      have := hs ht'
      rw [decide_eq_true (show (sz : Int) ≤ 202 by omega)]
      exact z
end
end Sq
namespace Sq
open PySem L2 TL
section
variable {P : Program} {w : World} {K : PySem.W.Frag} {mg : Str → Option Value} {base : Heap}
/-- the operators besides -/
structure ZY (P : Program) (w : World) (K : PySem.W.Frag) (mg : Str → Option Value) (base : Heap) (C tE : Addr) : Prop where
  x : ZX P w K mg base C tE
  sf : PySem.W.selfFirst K C = true
  an : ∃ f, PySem.W.findIn K (.ref C) "__and__" = some (some (.ref f)) ∧ PySem.W.isFn K (.ref f) = true ∧ FnR P w K mg base CX0 7 f (spBin C (· &&& ·))
  orr : ∃ f, PySem.W.findIn K (.ref C) "__or__" = some (some (.ref f)) ∧ PySem.W.isFn K (.ref f) = true ∧ FnR P w K mg base CX0 7 f (spBin C (· ||| ·))
  sub : ∃ f, PySem.W.findIn K (.ref C) "__sub__" = some (some (.ref f)) ∧ PySem.W.isFn K (.ref f) = true ∧ FnR P w K mg base CX0 7 f (spBin C diffN)
  inv : ∃ f, PySem.W.findIn K (.ref C) "__invert__" = some (some (.ref f)) ∧ PySem.W.isFn K (.ref f) = true ∧ FnR P w K mg base CX0 7 f (spInv C)
  eq : ∃ f, PySem.W.findIn K (.ref C) "__eq__" = some (some (.ref f)) ∧ PySem.W.isFn K (.ref f) = true ∧ FnR P w K mg base CX0 1 f (spZEq C)
  wi : ∃ f d, Meth K C "within" f ∧ FnOk P w K mg base CX0 1 f d ["self", "other"] (spWithin2 C) ∧ Binds K d ["self", "other"] []
theorem zfl_no (b : Nat) : (zfl b).lookup ("within" : Str) = none := by
  unfold zfl
  rw [lookup_putF]
  rfl
theorem eqv_bools : ∀ bs cs : List Bool, PyData.eqvAll (bs.map .bool) (cs.map .bool) = decide (bs = cs)
  | [], [] => rfl
  | b :: bs, c :: cs => by
    have ih := eqv_bools bs cs
    show (PyData.eqv (.bool b) (.bool c) && PyData.eqvAll (bs.map .bool) (cs.map .bool)) = _
    rw [ih]
    cases b <;> cases c <;> simp [PyData.eqv]
  | [], e :: es => by
    show false = decide (([] : List Bool) = e :: es)
    simp
  | d :: ds, [] => by
    show false = decide (d :: ds = ([] : List Bool))
    simp
theorem dp_bools {K : PySem.W.Frag} {H : Hp} : ∀ bs : List Bool, DpAll K H (bs.map V.bl) (bs.map .bool)
  | [] => .nil
  | b :: bs => .cons (.bl b) (dp_bools bs)
theorem shaped_bools (bs : List Bool) : SeqAt.shaped (.list (bs.map .bool)) = true := shaped_lst fun d hd => by
  obtain ⟨b, _, rfl⟩ := List.mem_map.mp hd
  exact ⟨by simp only [PyData.canLay0], by simp only [PyData.depth]; omega⟩
/-- the boxes and what is written of each -/
structure BoxAt (C : Addr) (H : Hp) (p B R : Addr) (xs rs : List Addr) (bs : List Nat) : Prop where
  hB : H B = some (.lst (xs.map V.ref))
  hR : H R = some (.lst (rs.map V.ref))
  pB : B ≠ p
  pR : R ≠ p
  BR : B ≠ R
  lx : xs.length = bs.length
  lr : rs.length = bs.length
  each : ∀ (i b : Nat) (x r : Addr), bs[i]? = some b → xs[i]? = some x → rs[i]? = some r → SB b ∧ SetAt C H x b ∧ H r = some (.lst (truthsV b)) ∧ x ≠ p ∧ r ≠ p ∧ x ≠ B ∧ x ≠ R ∧ r ≠ B ∧ r ≠ R
theorem BoxAt.off {C : Addr} {H H' : Hp} {p B R : Addr} {xs rs : List Addr} {bs : List Nat} (h : BoxAt C H p B R xs rs bs) (o : Off p H H') : BoxAt C H' p B R xs rs bs := by
  refine ⟨o _ _ h.pB h.hB, o _ _ h.pR h.hR, h.pB, h.pR, h.BR, h.lx, h.lr, fun i b x r e1 e2 e3 => ?_⟩
  obtain ⟨a1, ⟨dx, a2⟩, a3, a4, a5, a6⟩ := h.each i b x r e1 e2 e3
  exact ⟨a1, ⟨dx, o _ _ a4 a2⟩, o _ _ a5 a3, a4, a5, a6⟩
theorem snoc_at {α : Type} {l : List α} {y z : α} {i : Nat} (h : (l ++ [y])[i]? = some z) : (i < l.length ∧ l[i]? = some z) ∨ (i = l.length ∧ z = y) := by
  by_cases hi : i < l.length
  · rw [List.getElem?_append_left hi] at h
    exact .inl ⟨hi, h⟩
  · rw [List.getElem?_append_right (by omega)] at h
    by_cases e : i = l.length
    · subst e
      rw [Nat.sub_self] at h
      exact .inr ⟨rfl, (Option.some.inj h).symm⟩
    · rw [List.getElem?_eq_none (by simp; omega)] at h
      cases h
/-- one more box, one more row -/
theorem BoxAt.snoc {C : Addr} {H H' : Hp} {p B R : Addr} {xs rs : List Addr} {bs : List Nat} (h : BoxAt C H p B R xs rs bs) {x r : Addr} {b : Nat} (k : ∀ c o, c ≠ p → c ≠ B → c ≠ R → H c = some o → H' c = some o) (kB : H' B = some (.lst (xs.map V.ref ++ [V.ref x]))) (kR : H' R = some (.lst (rs.map V.ref ++ [V.ref r])))
    (hb : SB b) (hx : SetAt C H' x b) (hr : H' r = some (.lst (truthsV b))) (x1 : x ≠ p) (r1 : r ≠ p) (x2 : x ≠ B) (x3 : x ≠ R) (r2 : r ≠ B) (r3 : r ≠ R) : BoxAt C H' p B R (xs ++ [x]) (rs ++ [r]) (bs ++ [b]) := by
  refine ⟨?_, ?_, h.pB, h.pR, h.BR, by simp [h.lx], by simp [h.lr], fun i b' x' r' e1 e2 e3 => ?_⟩
  · rw [kB, List.map_append]
    rfl
  · rw [kR, List.map_append]
    rfl
  · rcases snoc_at e1 with ⟨l1, e1⟩ | ⟨l1, rfl⟩
    · rcases snoc_at e2 with ⟨l2, e2⟩ | ⟨l2, _⟩
      · rcases snoc_at e3 with ⟨l3, e3⟩ | ⟨l3, _⟩
        · obtain ⟨a1, ⟨dx, a2⟩, a3, a4, a5, a6, a7, a8, a9⟩ := h.each i b' x' r' e1 e2 e3
          exact ⟨a1, ⟨dx, k _ _ a4 a6 a7 a2⟩, k _ _ a5 a8 a9 a3, a4, a5, a6, a7, a8, a9⟩
        · have := h.lr; omega
      · have := h.lx; omega
    · rcases snoc_at e2 with ⟨l2, e2⟩ | ⟨l2, rfl⟩
      · have := h.lx; omega
      · rcases snoc_at e3 with ⟨l3, e3⟩ | ⟨l3, rfl⟩
        · have := h.lr; omega
        · exact ⟨hb, hx, hr, x1, r1, x2, x3, r2, r3⟩
theorem ne_of_none {H : Hp} {x y : Addr} {o : HO} (hx : H x = none) (hy : H y = some o) : x ≠ y := fun e => by rw [e, hy] at hx; cases hx
theorem purl_ne {H : Hp} {x p : Addr} (hx : H x = none) (hp : PurlAt H p) : x ≠ p := by
  obtain ⟨m, d, e⟩ := hp
  exact ne_of_none hx e
theorem diff_self (b : Nat) : diffN b b = 0 := by
  unfold diffN
  rw [Nat.and_self]
  omega
theorem show_none : showS 0 = ("none" : Str) := by decide +kernel
theorem show_all : showS allN = ("even from 2, odd from 1" : Str) := by decide +kernel
theorem or_not {b : Nat} (hb : SB b) : b ||| notN b = allN := by
  refine bits_eq (sb_or hb sb_not) all_sb fun n h1 h2 => ?_
  rw [has_or, has_not h1 (by omega), all_has h1 (by omega)]
  cases hasN b n <;> rfl
/-- and more of the class -/
structure ZW (P : Program) (w : World) (K : PySem.W.Frag) (mg : Str → Option Value) (base : Heap) (C tE : Addr) : Prop where
  y : ZY P w K mg base C tE
  ne : PySem.W.findIn K (.ref C) "__ne__" = some (some (.builtin "object.__ne__"))
  ob : PySem.W.subIn K (.ref C) (.type "object") = some true
  co : ∃ f, PySem.W.findIn K (.ref C) "__contains__" = some (some (.ref f)) ∧ PySem.W.isFn K (.ref f) = true ∧ FnR P w K mg base CX0 2 f (spHasZ K C)
  asc : ∃ f d, Meth K C "ascending" f ∧ GFn P w K mg base 3 f d ["self", "count"] (spAsc C) ∧ Binds K d ["self", "count"] []
theorem zfl_noA (b : Nat) : (zfl b).lookup ("ascending" : Str) = none := by
  unfold zfl
  rw [lookup_putF]
  rfl
theorem purl_neQ {H : Hp} {x p : Addr} (hx : H x = none) (hp : PurlAt H p) : x ≠ p := by
  obtain ⟨m, d, e⟩ := hp
  intro e'
  rw [e', e] at hx
  cases hx
theorem passE0 {X : Cx} : Passes (L2.CX X.prog X.w) X L2.E0 := fun pins σ H s e s' I c => by
  obtain ⟨a, B, H', cls, d, rfl, fl, _, _, _, _, _, hW⟩ := c
  exact hW.elim
theorem noStop0 {K : PySem.W.Frag} : NoStop K L2.E0 := fun _ _ _ h => h.elim
def spFirstsL (K : PySem.W.Frag) : Sp := fun vs H Q _ => ∃ (r : Addr) (b n : Nat), vs = [.ref r, .int (n : Nat)] ∧ SqL K H r (truthsV b) ∧ n ≤ 1000 ∧ ∀ D H', H D = none → Same H H' → H' D = some (.lst (natsV (fstsN b n))) → Q (.ref D) H'
def spStep (K : PySem.W.Frag) (C : Addr) : Sp := fun vs H Q _ => ∃ (p B R : Addr) (xs rs : List Addr) (bs : List Nat), vs = [.ref p, .ref B, .ref R] ∧ PurlAt H p ∧ BoxAt C H p B R xs rs bs ∧ 0 < bs.length ∧ bs.length ≤ 100 ∧
  ∀ x r b' H', PurlAt H' p → BoxAt C H' p B R (xs ++ [x]) (rs ++ [r]) (bs ++ [b']) → (∀ c o, c ≠ p → c ≠ B → c ≠ R → H c = some o → H' c = some o) → Q .non H'
def spLaws (C : Addr) : Sp := fun vs H Q _ => ∃ (x y : Addr) (b d : Nat), vs = [.ref x, .ref y] ∧ SetAt C H x b ∧ SetAt C H y d ∧ SB b ∧ SB d ∧ ∀ H', Same H H' → Q (.bl true) H'
theorem fsts_far {b k : Nat} (hk : 205 ≤ k) : hasN b (204 - k % 2) = hasN b k := by
  rw [has_far b (k := k) (by omega), has_far b (k := 204 - k % 2) (by omega)]
  congr 1
  omega
theorem tr_full (b : Nat) : ((List.range' 1 204).map (hasN b)).map V.bl = truthsV b := rfl
theorem not_not {b : Nat} (hb : SB b) : notN (notN b) = b := by
  refine bits_eq sb_not hb fun n h1 h2 => ?_
  rw [has_not h1 (by omega), has_not h1 (by omega), Bool.not_not]
theorem not_and {b d : Nat} : notN (b &&& d) = notN b ||| notN d := by
  refine bits_eq sb_not (sb_or sb_not sb_not) fun n h1 h2 => ?_
  rw [has_or, has_not h1 (by omega), has_not h1 (by omega), has_not h1 (by omega), has_and]
  cases hasN b n <;> cases hasN d n <;> rfl
theorem not_or {b d : Nat} : notN (b ||| d) = notN b &&& notN d := by
  refine bits_eq sb_not (sb_and sb_not) fun n h1 h2 => ?_
  rw [has_and, has_not h1 (by omega), has_not h1 (by omega), has_not h1 (by omega), has_or]
  cases hasN b n <;> cases hasN d n <;> rfl
theorem diff_and {b d : Nat} (hb : SB b) : diffN b d = b &&& notN d := by
  refine bits_eq (sb_diff hb) (sb_and hb) fun n h1 h2 => ?_
  rw [has_diff, has_and, has_not h1 (by omega)]
theorem and_in {b d : Nat} (hb : SB b) : diffN (b &&& d) b = 0 := by
  refine zero_of (sb_diff (sb_and hb)) fun n h1 h2 => ?_
  rw [has_diff, has_and]
  cases hasN b n <;> cases hasN d n <;> rfl
theorem in_or {b d : Nat} (hb : SB b) : diffN b (b ||| d) = 0 := by
  refine zero_of (sb_diff hb) fun n h1 h2 => ?_
  rw [has_diff, has_or]
  cases hasN b n <;> cases hasN d n <;> rfl
theorem or_less {b d : Nat} (hb : SB b) (hd : SB d) : diffN (b ||| d) d = diffN b d := by
  refine bits_eq (sb_diff (sb_or hb hd)) (sb_diff hb) fun n h1 h2 => ?_
  rw [has_diff, has_or, has_diff]
  cases hasN b n <;> cases hasN d n <;> rfl
abbrev s__law_firsts : Stmt := top 35
theorem sc__law_firsts : FnScope ["_law_truths_here", "_law_many", "_law_found", "_law_size"] ["_law_truths_here", "_law_many"] (defScope s__law_firsts) := ⟨rfl, rfl, rfl, by decide +kernel, rfl, by decide +kernel, by decide +kernel⟩
theorem ok__law_firsts {f : Addr} {fd : FuncData} (F : Fun K "_law_firsts" "_law_firsts" s__law_firsts f fd) (T : Bt mg)  : FnOk P w K mg base CX0 1 f fd ["_law_truths_here", "_law_many"] (spFirstsL K) := by
  refine F.ok sc__law_firsts (fun vs H Q E h => ?_) (fun cdv A outer s H vs Q E hr h => ?_)
  · obtain ⟨r, b, n, rfl, _⟩ := h
    rfl
  · obtain ⟨r, b, n, rfl, hr1, hn, q⟩ := h
    refine ⟨_, (pss_cons (ps_set (i := 2) sc__law_firsts.nd rfl (by first | exact .inl rfl | exact .inr rfl) (pe_lst pa_nil))
        (pss_cons (ps_for PassesOwn.never rfl (pi_range2 (by rfl) T.range (pa_cons pe_int (pa_cons (pe_op op_add pe_int (pe_op op_mul pe_int (pv 1))) pa_nil))) (pg_name (i := 3) sc__law_firsts.nd rfl (by first | exact .inl rfl | exact .inr rfl))
        (pss_one (ps_if (PW.pt (pw_and (pt_cmpR op_lt (pe_callB call_len_seq (by rfl) T.len PySem.boot_len (pa_cons (pv 2) pa_nil)) (pv 1) (nomark _)) (pw_and1 (pt_val (pe_ix (show IxR _ (rIxL K) from ix_list) (pv 0) (pe_ifExp (pt_cmpR op_lt (pv 3) pe_int (nomark _)) (pe_op op_sub (pv 3) pe_int) (pe_op op_sub pe_int (pe_op op_mod (pe_callTy call_int1 (by rfl) T.int (by decide +kernel) (pa_cons (pv 3) pa_nil)) pe_int))) (fun _ _ => rfl))))))
        (pss_one (ps_expr (pe_bm PySem.F.plainAttrs_list PySem.F.slot_list_append PySem.F.type_list_append mt_append (pv 2) (pa_cons (pv 3) pa_nil))))
        pss_nil)))
        (pss_one (ps_ret (pv 2))))), ?_⟩
    refine ⟨Nat.zero_le _, fun D nD => ?_⟩
    have e2 : (205 : Int) + 2 * (n : Nat) = ((205 + 2 * n : Nat) : Int) := by omega
    refine ⟨_, rfl, _, _, rfl, rfl, .inl ⟨by decide, by decide⟩, _, _, rfl, rfl, ?_⟩
    refine ⟨1, (205 : Int) + 2 * (n : Nat), rfl, ⟨by decide, by decide, by omega, by omega⟩, ?_⟩
    have e3 : ((205 : Int) + 2 * (n : Nat) - 1).toNat = 204 + 2 * n := by omega
    rw [e3]
    refine for_range (n := 204 + 2 * n) (fun i σ H' => ∃ v3 : Option V, σ = [some (.ref r), some (.int (n : Nat)), some (.ref D), v3] ∧ Same H H' ∧ H' D = some (.lst (natsV ((ctN b i).take n)))) ⟨none, rfl, same_new nD, by rw [upd_same]; simp [ctN, natsV]⟩ (fun i σ H' hi h => ?_) (fun σ H' h => ?_)
    · obtain ⟨v3, rfl, sm, hD⟩ := h
      have en : ((1 : Int) + (i : Nat)) = ((1 + i : Nat) : Int) := by omega
      rw [en]
      have st := take_step b n i
      have lt : (natsV ((ctN b i).take n)).length = ((ctN b i).take n).length := by unfold natsV; rw [List.length_map]
      have ll : ((ctN b i).take n).length ≤ n := by rw [List.length_take]; omega
      refine ⟨_, rfl, D, _, rfl, .inl (SqL.of hD), ?_⟩
      refine ⟨_, rfl, _, _, rfl, rfl, decide (((ctN b i).take n).length < n), ?_, ?_⟩
      · rw [lt]
        show V.bl (decide ((((ctN b i).take n).length : Int) < (n : Int))) = _
        congr 1
        exact decide_eq_decide.mpr (by omega)
      by_cases hl : ((ctN b i).take n).length < n
      · rw [decide_eq_true hl]
        refine iteT ?_
        refine ⟨_, rfl, ?_⟩
        refine gen_of (t := tIf _ _ _) (fun x H2 => H2 = H' ∧ ∃ k : Nat, x = .int (k : Nat) ∧ k < 204 ∧ hasN b (k + 1) = hasN b (i + 1)) (fun Q' k => ?_) ?_
        · refine ⟨_, rfl, _, _, rfl, rfl, decide (((1 + i : Nat) : Int) < 205), rfl, ?_⟩
          by_cases h2 : 1 + i < 205
          · rw [decide_eq_true (show ((1 + i : Nat) : Int) < 205 by omega)]
            refine iteT ?_
            refine ⟨_, rfl, _, _, rfl, rfl, k _ _ ⟨rfl, i, congrArg V.int (by omega), by omega, rfl⟩⟩
          · rw [decide_eq_false (show ¬ ((1 + i : Nat) : Int) < 205 by omega)]
            refine iteF ?_
            refine ⟨_, rfl, .inl ⟨_, rfl, _, _, rfl, rfl, (by show (0 : Int) < 2; decide), _, _, rfl, rfl, k _ _ ⟨rfl, 203 - (1 + i) % 2, congrArg V.int (by omega), by omega, ?_⟩⟩⟩
            rw [show 203 - (1 + i) % 2 + 1 = 204 - (i + 1) % 2 by omega]
            exact fsts_far (by omega)
        rintro _ H2 ⟨rfl, k, rfl, hk, ek⟩
        refine ⟨r, _, _, _, rfl, rfl, hr1.ext sm, tr_at hk, _, rfl, ?_⟩
        rw [ek]
        cases hb : hasN b (i + 1) with
        | true =>
          refine iteT ?_
          rw [hb, if_pos ⟨hl, rfl⟩] at st
          refine ⟨_, rfl, .inl ⟨rfl, _, SqL.of hD⟩, _, rfl, D, _, _, rfl, rfl, hD, ?_, _, rfl, ?_, ?_⟩
          · rw [lt, sizeLine_eq]
            omega
          · intro c o hc
            rw [upd_ne (fun e => by rw [e, nD] at hc; cases hc)]
            exact sm _ _ hc
          · rw [upd_same, st]
            unfold natsV
            rw [List.map_append, Nat.add_comm 1 i]
            rfl
        | false =>
          refine iteF ?_
          rw [hb, if_neg (fun z => Bool.false_ne_true z.2), List.append_nil] at st
          refine ⟨_, rfl, sm, ?_⟩
          rw [st]
          exact hD
      · rw [decide_eq_false hl]
        refine iteF ?_
        refine iteF ?_
        refine ⟨_, rfl, sm, ?_⟩
        rw [st, if_neg (fun z => hl z.1), List.append_nil]
        exact hD
    · obtain ⟨v3, rfl, sm, hD⟩ := h
      refine ⟨_, rfl, q D H' nD sm hD⟩
end
end Sq
namespace Sq
open PySem L2 TL
section
variable {P : Program} {w : World} {K : PySem.W.Frag} {mg : Str → Option Value} {base : Heap}
abbrev s__law_laws : Stmt := top 37
theorem sc__law_laws : FnScope ["_law_one", "_law_two"] ["_law_one", "_law_two"] (defScope s__law_laws) := ⟨rfl, rfl, rfl, by decide +kernel, rfl, by decide +kernel, by decide +kernel⟩
theorem ok__law_laws {f : Addr} {fd : FuncData} (F : Fun K "_law_laws" "_law_laws" s__law_laws f fd) (T : Bt mg) {C tE : Addr} (W0 : ZW P w K mg base C tE) : FnOk P w K mg base CX0 8 f fd ["_law_one", "_law_two"] (spLaws C) := by
  refine F.ok sc__law_laws (fun vs H Q E h => ?_) (fun cdv A outer s H vs Q E hr h => ?_)
  · obtain ⟨x, y, b, d, rfl, _⟩ := h
    rfl
  · obtain ⟨fA, hA1, hA2, FA⟩ := W0.y.an
    obtain ⟨fO, hO1, hO2, FO⟩ := W0.y.orr
    obtain ⟨fS, hS1, hS2, FS⟩ := W0.y.sub
    obtain ⟨fI, hI1, hI2, FI⟩ := W0.y.inv
    obtain ⟨fQ, hQ1, hQ2, FQ⟩ := W0.y.eq
    obtain ⟨fW, dW, MW, FW, BW⟩ := W0.y.wi
    obtain ⟨f5, hb5, ib5, Fb5⟩ := W0.y.x.bo
    have N := W0.y.x.z.zc
    obtain ⟨x, y, b, d, rfl, hx, hy, hb, hd, q⟩ := h
    refine ⟨_, (pss_cons (ps_if (PW.pt (pw_or (pt_cmpR (op_neO W0.ne W0.ob hQ1 hQ2 FQ (hr.mono (show 2 ≤ 7 by decide))) (pe_un (un_own hI1 hI2 FI (hr.mono (show 7 ≤ 7 by decide)) pass0) (pe_un (un_own hI1 hI2 FI (hr.mono (show 7 ≤ 7 by decide)) pass0) (pv 0))) (pv 0) (nomark _)) (pw_or (pt_cmpR (op_neO W0.ne W0.ob hQ1 hQ2 FQ (hr.mono (show 2 ≤ 7 by decide))) (pe_un (un_own hI1 hI2 FI (hr.mono (show 7 ≤ 7 by decide)) pass0) (pe_op (op_bin W0.y.sf hA1 hA2 FA (hr.mono (show 7 ≤ 7 by decide)) pass0) (pv 0) (pv 1))) (pe_op (op_bin W0.y.sf hO1 hO2 FO (hr.mono (show 7 ≤ 7 by decide)) pass0) (pe_un (un_own hI1 hI2 FI (hr.mono (show 7 ≤ 7 by decide)) pass0) (pv 0)) (pe_un (un_own hI1 hI2 FI (hr.mono (show 7 ≤ 7 by decide)) pass0) (pv 1))) (nomark _)) (pw_or1 (pt_cmpR (op_neO W0.ne W0.ob hQ1 hQ2 FQ (hr.mono (show 2 ≤ 7 by decide))) (pe_un (un_own hI1 hI2 FI (hr.mono (show 7 ≤ 7 by decide)) pass0) (pe_op (op_bin W0.y.sf hO1 hO2 FO (hr.mono (show 7 ≤ 7 by decide)) pass0) (pv 0) (pv 1))) (pe_op (op_bin W0.y.sf hA1 hA2 FA (hr.mono (show 7 ≤ 7 by decide)) pass0) (pe_un (un_own hI1 hI2 FI (hr.mono (show 7 ≤ 7 by decide)) pass0) (pv 0)) (pe_un (un_own hI1 hI2 FI (hr.mono (show 7 ≤ 7 by decide)) pass0) (pv 1))) (nomark _))))))
        (pss_one (ps_ret pe_bl))
        pss_nil)
        (pss_cons (ps_if (PW.pt (pw_or (pt_cmpR (op_neO W0.ne W0.ob hQ1 hQ2 FQ (hr.mono (show 2 ≤ 7 by decide))) (pe_op (op_bin W0.y.sf hS1 hS2 FS (hr.mono (show 7 ≤ 7 by decide)) pass0) (pv 0) (pv 1)) (pe_op (op_bin W0.y.sf hA1 hA2 FA (hr.mono (show 7 ≤ 7 by decide)) pass0) (pv 0) (pe_un (un_own hI1 hI2 FI (hr.mono (show 7 ≤ 7 by decide)) pass0) (pv 1))) (nomark _)) (pw_or (pt_not (pt_val (pe_meth (pe_op (op_bin W0.y.sf hA1 hA2 FA (hr.mono (show 7 ≤ 7 by decide)) pass0) (pv 0) (pv 1)) N.cl MW FW (hr.mono (show 1 ≤ 7 by decide)) BW .nil pass0 (pa_cons (pv 0) pa_nil)))) (pw_or1 (pt_not (pt_val (pe_meth (pv 0) N.cl MW FW (hr.mono (show 1 ≤ 7 by decide)) BW .nil pass0 (pa_cons (pe_op (op_bin W0.y.sf hO1 hO2 FO (hr.mono (show 7 ≤ 7 by decide)) pass0) (pv 0) (pv 1)) pa_nil))))))))
        (pss_one (ps_ret pe_bl))
        pss_nil)
        (pss_one (ps_ret (pe_and (pe_cmpR (op_eqO hQ1 hQ2 FQ (hr.mono (show 1 ≤ 7 by decide))) (pe_op (op_bin W0.y.sf hS1 hS2 FS (hr.mono (show 7 ≤ 7 by decide)) pass0) (pe_op (op_bin W0.y.sf hO1 hO2 FO (hr.mono (show 7 ≤ 7 by decide)) pass0) (pv 0) (pv 1)) (pv 1)) (pe_op (op_bin W0.y.sf hS1 hS2 FS (hr.mono (show 7 ≤ 7 by decide)) pass0) (pv 0) (pv 1)) (nomark _))
            (pe_one (pe_cmpR op_ne (pe_callTy (call_boolO hb5 ib5 Fb5 (hr.mono (show 3 ≤ 7 by decide))) (by rfl) T.bool (by decide +kernel) (pa_cons (pe_op (op_bin W0.y.sf hS1 hS2 FS (hr.mono (show 7 ≤ 7 by decide)) pass0) (pv 0) (pv 1)) pa_nil)) (pe_meth (pv 0) N.cl MW FW (hr.mono (show 1 ≤ 7 by decide)) BW .nil pass0 (pa_cons (pv 1) pa_nil)) (nomark _)))))))), ?_⟩
    have u0 : Same H H := Same.refl _
    refine ⟨_, rfl, ?_⟩
    have ix := hx.ext u0
    obtain ⟨ex, jx⟩ := id ix
    refine ⟨x, _, _, rfl, jx, x, b, rfl, ix, fun z1 G1 nz1 sz1 hz1 => ?_⟩
    have u1 : Same H G1 := u0.trans sz1
    have iz1 := hz1
    obtain ⟨ez1, jz1⟩ := id iz1
    refine ⟨z1, _, _, rfl, jz1, z1, (notN b), rfl, iz1, fun z2 G2 nz2 sz2 hz2 => ?_⟩
    have u2 : Same H G2 := u1.trans sz2
    have v1_2 : Same G1 G2 := sz2
    refine ⟨_, rfl, ?_⟩
    have iz2 := hz2
    obtain ⟨ez2, jz2⟩ := id iz2
    have ix := hx.ext u2
    obtain ⟨ex, jx⟩ := id ix
    refine ⟨z2, x, _, _, _, _, rfl, rfl, jz2, jx, z2, x, (notN (notN b)), b, rfl, iz2, ix, _, rfl, _, rfl, ?_⟩
    rw [decide_eq_true (show (notN (notN b)) = b from not_not hb)]
    refine iteF ?_
    refine ⟨_, rfl, ?_⟩
    refine ⟨_, rfl, ?_⟩
    have ix := hx.ext u2
    obtain ⟨ex, jx⟩ := id ix
    have iy := hy.ext u2
    obtain ⟨ey, jy⟩ := id iy
    refine ⟨x, y, _, _, _, _, rfl, rfl, jx, jy, x, y, b, d, rfl, ix, iy, fun z3 G3 nz3 sz3 hz3 => ?_⟩
    have u3 : Same H G3 := u2.trans sz3
    have v1_3 : Same G1 G3 := v1_2.trans sz3
    have v2_3 : Same G2 G3 := sz3
    have iz3 := hz3
    obtain ⟨ez3, jz3⟩ := id iz3
    refine ⟨z3, _, _, rfl, jz3, z3, (b &&& d), rfl, iz3, fun z4 G4 nz4 sz4 hz4 => ?_⟩
    have u4 : Same H G4 := u3.trans sz4
    have v1_4 : Same G1 G4 := v1_3.trans sz4
    have v2_4 : Same G2 G4 := v2_3.trans sz4
    have v3_4 : Same G3 G4 := sz4
    refine ⟨_, rfl, ?_⟩
    have ix := hx.ext u4
    obtain ⟨ex, jx⟩ := id ix
    refine ⟨x, _, _, rfl, jx, x, b, rfl, ix, fun z5 G5 nz5 sz5 hz5 => ?_⟩
    have u5 : Same H G5 := u4.trans sz5
    have v1_5 : Same G1 G5 := v1_4.trans sz5
    have v2_5 : Same G2 G5 := v2_4.trans sz5
    have v3_5 : Same G3 G5 := v3_4.trans sz5
    have v4_5 : Same G4 G5 := sz5
    refine ⟨_, rfl, ?_⟩
    have iy := hy.ext u5
    obtain ⟨ey, jy⟩ := id iy
    refine ⟨y, _, _, rfl, jy, y, d, rfl, iy, fun z6 G6 nz6 sz6 hz6 => ?_⟩
    have u6 : Same H G6 := u5.trans sz6
    have v1_6 : Same G1 G6 := v1_5.trans sz6
    have v2_6 : Same G2 G6 := v2_5.trans sz6
    have v3_6 : Same G3 G6 := v3_5.trans sz6
    have v4_6 : Same G4 G6 := v4_5.trans sz6
    have v5_6 : Same G5 G6 := sz6
    have iz5 := hz5.ext v5_6
    obtain ⟨ez5, jz5⟩ := id iz5
    have iz6 := hz6
    obtain ⟨ez6, jz6⟩ := id iz6
    refine ⟨z5, z6, _, _, _, _, rfl, rfl, jz5, jz6, z5, z6, (notN b), (notN d), rfl, iz5, iz6, fun z7 G7 nz7 sz7 hz7 => ?_⟩
    have u7 : Same H G7 := u6.trans sz7
    have v1_7 : Same G1 G7 := v1_6.trans sz7
    have v2_7 : Same G2 G7 := v2_6.trans sz7
    have v3_7 : Same G3 G7 := v3_6.trans sz7
    have v4_7 : Same G4 G7 := v4_6.trans sz7
    have v5_7 : Same G5 G7 := v5_6.trans sz7
    have v6_7 : Same G6 G7 := sz7
    have iz4 := hz4.ext v4_7
    obtain ⟨ez4, jz4⟩ := id iz4
    have iz7 := hz7
    obtain ⟨ez7, jz7⟩ := id iz7
    refine ⟨z4, z7, _, _, _, _, rfl, rfl, jz4, jz7, z4, z7, (notN (b &&& d)), ((notN b) ||| (notN d)), rfl, iz4, iz7, _, rfl, _, rfl, ?_⟩
    rw [decide_eq_true (show (notN (b &&& d)) = ((notN b) ||| (notN d)) from not_and)]
    refine iteF ?_
    refine ⟨_, rfl, ?_⟩
    refine ⟨_, rfl, ?_⟩
    have ix := hx.ext u7
    obtain ⟨ex, jx⟩ := id ix
    have iy := hy.ext u7
    obtain ⟨ey, jy⟩ := id iy
    refine ⟨x, y, _, _, _, _, rfl, rfl, jx, jy, x, y, b, d, rfl, ix, iy, fun z8 G8 nz8 sz8 hz8 => ?_⟩
    have u8 : Same H G8 := u7.trans sz8
    have v1_8 : Same G1 G8 := v1_7.trans sz8
    have v2_8 : Same G2 G8 := v2_7.trans sz8
    have v3_8 : Same G3 G8 := v3_7.trans sz8
    have v4_8 : Same G4 G8 := v4_7.trans sz8
    have v5_8 : Same G5 G8 := v5_7.trans sz8
    have v6_8 : Same G6 G8 := v6_7.trans sz8
    have v7_8 : Same G7 G8 := sz8
    have iz8 := hz8
    obtain ⟨ez8, jz8⟩ := id iz8
    refine ⟨z8, _, _, rfl, jz8, z8, (b ||| d), rfl, iz8, fun z9 G9 nz9 sz9 hz9 => ?_⟩
    have u9 : Same H G9 := u8.trans sz9
    have v1_9 : Same G1 G9 := v1_8.trans sz9
    have v2_9 : Same G2 G9 := v2_8.trans sz9
    have v3_9 : Same G3 G9 := v3_8.trans sz9
    have v4_9 : Same G4 G9 := v4_8.trans sz9
    have v5_9 : Same G5 G9 := v5_8.trans sz9
    have v6_9 : Same G6 G9 := v6_8.trans sz9
    have v7_9 : Same G7 G9 := v7_8.trans sz9
    have v8_9 : Same G8 G9 := sz9
    refine ⟨_, rfl, ?_⟩
    have ix := hx.ext u9
    obtain ⟨ex, jx⟩ := id ix
    refine ⟨x, _, _, rfl, jx, x, b, rfl, ix, fun z10 G10 nz10 sz10 hz10 => ?_⟩
    have u10 : Same H G10 := u9.trans sz10
    have v1_10 : Same G1 G10 := v1_9.trans sz10
    have v2_10 : Same G2 G10 := v2_9.trans sz10
    have v3_10 : Same G3 G10 := v3_9.trans sz10
    have v4_10 : Same G4 G10 := v4_9.trans sz10
    have v5_10 : Same G5 G10 := v5_9.trans sz10
    have v6_10 : Same G6 G10 := v6_9.trans sz10
    have v7_10 : Same G7 G10 := v7_9.trans sz10
    have v8_10 : Same G8 G10 := v8_9.trans sz10
    have v9_10 : Same G9 G10 := sz10
    refine ⟨_, rfl, ?_⟩
    have iy := hy.ext u10
    obtain ⟨ey, jy⟩ := id iy
    refine ⟨y, _, _, rfl, jy, y, d, rfl, iy, fun z11 G11 nz11 sz11 hz11 => ?_⟩
    have u11 : Same H G11 := u10.trans sz11
    have v1_11 : Same G1 G11 := v1_10.trans sz11
    have v2_11 : Same G2 G11 := v2_10.trans sz11
    have v3_11 : Same G3 G11 := v3_10.trans sz11
    have v4_11 : Same G4 G11 := v4_10.trans sz11
    have v5_11 : Same G5 G11 := v5_10.trans sz11
    have v6_11 : Same G6 G11 := v6_10.trans sz11
    have v7_11 : Same G7 G11 := v7_10.trans sz11
    have v8_11 : Same G8 G11 := v8_10.trans sz11
    have v9_11 : Same G9 G11 := v9_10.trans sz11
    have v10_11 : Same G10 G11 := sz11
    have iz10 := hz10.ext v10_11
    obtain ⟨ez10, jz10⟩ := id iz10
    have iz11 := hz11
    obtain ⟨ez11, jz11⟩ := id iz11
    refine ⟨z10, z11, _, _, _, _, rfl, rfl, jz10, jz11, z10, z11, (notN b), (notN d), rfl, iz10, iz11, fun z12 G12 nz12 sz12 hz12 => ?_⟩
    have u12 : Same H G12 := u11.trans sz12
    have v1_12 : Same G1 G12 := v1_11.trans sz12
    have v2_12 : Same G2 G12 := v2_11.trans sz12
    have v3_12 : Same G3 G12 := v3_11.trans sz12
    have v4_12 : Same G4 G12 := v4_11.trans sz12
    have v5_12 : Same G5 G12 := v5_11.trans sz12
    have v6_12 : Same G6 G12 := v6_11.trans sz12
    have v7_12 : Same G7 G12 := v7_11.trans sz12
    have v8_12 : Same G8 G12 := v8_11.trans sz12
    have v9_12 : Same G9 G12 := v9_11.trans sz12
    have v10_12 : Same G10 G12 := v10_11.trans sz12
    have v11_12 : Same G11 G12 := sz12
    have iz9 := hz9.ext v9_12
    obtain ⟨ez9, jz9⟩ := id iz9
    have iz12 := hz12
    obtain ⟨ez12, jz12⟩ := id iz12
    refine ⟨z9, z12, _, _, _, _, rfl, rfl, jz9, jz12, z9, z12, (notN (b ||| d)), ((notN b) &&& (notN d)), rfl, iz9, iz12, _, rfl, _, rfl, ?_⟩
    rw [decide_eq_true (show (notN (b ||| d)) = ((notN b) &&& (notN d)) from not_or)]
    refine iteF ?_
    refine ⟨_, rfl, ?_⟩
    refine ⟨_, rfl, ?_⟩
    have ix := hx.ext u12
    obtain ⟨ex, jx⟩ := id ix
    have iy := hy.ext u12
    obtain ⟨ey, jy⟩ := id iy
    refine ⟨x, y, _, _, _, _, rfl, rfl, jx, jy, x, y, b, d, rfl, ix, iy, fun z13 G13 nz13 sz13 hz13 => ?_⟩
    have u13 : Same H G13 := u12.trans sz13
    have v1_13 : Same G1 G13 := v1_12.trans sz13
    have v2_13 : Same G2 G13 := v2_12.trans sz13
    have v3_13 : Same G3 G13 := v3_12.trans sz13
    have v4_13 : Same G4 G13 := v4_12.trans sz13
    have v5_13 : Same G5 G13 := v5_12.trans sz13
    have v6_13 : Same G6 G13 := v6_12.trans sz13
    have v7_13 : Same G7 G13 := v7_12.trans sz13
    have v8_13 : Same G8 G13 := v8_12.trans sz13
    have v9_13 : Same G9 G13 := v9_12.trans sz13
    have v10_13 : Same G10 G13 := v10_12.trans sz13
    have v11_13 : Same G11 G13 := v11_12.trans sz13
    have v12_13 : Same G12 G13 := sz13
    refine ⟨_, rfl, ?_⟩
    refine ⟨_, rfl, ?_⟩
    have iy := hy.ext u13
    obtain ⟨ey, jy⟩ := id iy
    refine ⟨y, _, _, rfl, jy, y, d, rfl, iy, fun z14 G14 nz14 sz14 hz14 => ?_⟩
    have u14 : Same H G14 := u13.trans sz14
    have v1_14 : Same G1 G14 := v1_13.trans sz14
    have v2_14 : Same G2 G14 := v2_13.trans sz14
    have v3_14 : Same G3 G14 := v3_13.trans sz14
    have v4_14 : Same G4 G14 := v4_13.trans sz14
    have v5_14 : Same G5 G14 := v5_13.trans sz14
    have v6_14 : Same G6 G14 := v6_13.trans sz14
    have v7_14 : Same G7 G14 := v7_13.trans sz14
    have v8_14 : Same G8 G14 := v8_13.trans sz14
    have v9_14 : Same G9 G14 := v9_13.trans sz14
    have v10_14 : Same G10 G14 := v10_13.trans sz14
    have v11_14 : Same G11 G14 := v11_13.trans sz14
    have v12_14 : Same G12 G14 := v12_13.trans sz14
    have v13_14 : Same G13 G14 := sz14
    have ix := hx.ext u14
    obtain ⟨ex, jx⟩ := id ix
    have iz14 := hz14
    obtain ⟨ez14, jz14⟩ := id iz14
    refine ⟨x, z14, _, _, _, _, rfl, rfl, jx, jz14, x, z14, b, (notN d), rfl, ix, iz14, fun z15 G15 nz15 sz15 hz15 => ?_⟩
    have u15 : Same H G15 := u14.trans sz15
    have v1_15 : Same G1 G15 := v1_14.trans sz15
    have v2_15 : Same G2 G15 := v2_14.trans sz15
    have v3_15 : Same G3 G15 := v3_14.trans sz15
    have v4_15 : Same G4 G15 := v4_14.trans sz15
    have v5_15 : Same G5 G15 := v5_14.trans sz15
    have v6_15 : Same G6 G15 := v6_14.trans sz15
    have v7_15 : Same G7 G15 := v7_14.trans sz15
    have v8_15 : Same G8 G15 := v8_14.trans sz15
    have v9_15 : Same G9 G15 := v9_14.trans sz15
    have v10_15 : Same G10 G15 := v10_14.trans sz15
    have v11_15 : Same G11 G15 := v11_14.trans sz15
    have v12_15 : Same G12 G15 := v12_14.trans sz15
    have v13_15 : Same G13 G15 := v13_14.trans sz15
    have v14_15 : Same G14 G15 := sz15
    have iz13 := hz13.ext v13_15
    obtain ⟨ez13, jz13⟩ := id iz13
    have iz15 := hz15
    obtain ⟨ez15, jz15⟩ := id iz15
    refine ⟨z13, z15, _, _, _, _, rfl, rfl, jz13, jz15, z13, z15, (diffN b d), (b &&& (notN d)), rfl, iz13, iz15, _, rfl, _, rfl, ?_⟩
    rw [decide_eq_true (show (diffN b d) = (b &&& (notN d)) from diff_and hb)]
    refine iteF ?_
    refine ⟨_, rfl, ?_⟩
    refine ⟨_, rfl, ?_⟩
    have ix := hx.ext u15
    obtain ⟨ex, jx⟩ := id ix
    have iy := hy.ext u15
    obtain ⟨ey, jy⟩ := id iy
    refine ⟨x, y, _, _, _, _, rfl, rfl, jx, jy, x, y, b, d, rfl, ix, iy, fun z16 G16 nz16 sz16 hz16 => ?_⟩
    have u16 : Same H G16 := u15.trans sz16
    have v1_16 : Same G1 G16 := v1_15.trans sz16
    have v2_16 : Same G2 G16 := v2_15.trans sz16
    have v3_16 : Same G3 G16 := v3_15.trans sz16
    have v4_16 : Same G4 G16 := v4_15.trans sz16
    have v5_16 : Same G5 G16 := v5_15.trans sz16
    have v6_16 : Same G6 G16 := v6_15.trans sz16
    have v7_16 : Same G7 G16 := v7_15.trans sz16
    have v8_16 : Same G8 G16 := v8_15.trans sz16
    have v9_16 : Same G9 G16 := v9_15.trans sz16
    have v10_16 : Same G10 G16 := v10_15.trans sz16
    have v11_16 : Same G11 G16 := v11_15.trans sz16
    have v12_16 : Same G12 G16 := v12_15.trans sz16
    have v13_16 : Same G13 G16 := v13_15.trans sz16
    have v14_16 : Same G14 G16 := v14_15.trans sz16
    have v15_16 : Same G15 G16 := sz16
    have iz16 := hz16
    obtain ⟨ez16, jz16⟩ := id iz16
    refine ⟨z16, ez16, _, rfl, jz16, zfl_no _, ?_⟩
    refine ⟨_, rfl, ?_⟩
    have iz16 := hz16
    obtain ⟨ez16, jz16⟩ := id iz16
    have ix := hx.ext u16
    obtain ⟨ex, jx⟩ := id ix
    refine ⟨z16, x, (b &&& d), b, rfl, iz16, ix, ?_⟩
    refine ⟨_, rfl, ?_⟩
    rw [decide_eq_true (and_in hb)]
    refine iteF ?_
    refine ⟨_, rfl, ?_⟩
    have ix := hx.ext u16
    obtain ⟨ex, jx⟩ := id ix
    refine ⟨x, ex, _, rfl, jx, zfl_no _, ?_⟩
    refine ⟨_, rfl, ?_⟩
    refine ⟨_, rfl, ?_⟩
    have ix := hx.ext u16
    obtain ⟨ex, jx⟩ := id ix
    have iy := hy.ext u16
    obtain ⟨ey, jy⟩ := id iy
    refine ⟨x, y, _, _, _, _, rfl, rfl, jx, jy, x, y, b, d, rfl, ix, iy, fun z17 G17 nz17 sz17 hz17 => ?_⟩
    have u17 : Same H G17 := u16.trans sz17
    have v1_17 : Same G1 G17 := v1_16.trans sz17
    have v2_17 : Same G2 G17 := v2_16.trans sz17
    have v3_17 : Same G3 G17 := v3_16.trans sz17
    have v4_17 : Same G4 G17 := v4_16.trans sz17
    have v5_17 : Same G5 G17 := v5_16.trans sz17
    have v6_17 : Same G6 G17 := v6_16.trans sz17
    have v7_17 : Same G7 G17 := v7_16.trans sz17
    have v8_17 : Same G8 G17 := v8_16.trans sz17
    have v9_17 : Same G9 G17 := v9_16.trans sz17
    have v10_17 : Same G10 G17 := v10_16.trans sz17
    have v11_17 : Same G11 G17 := v11_16.trans sz17
    have v12_17 : Same G12 G17 := v12_16.trans sz17
    have v13_17 : Same G13 G17 := v13_16.trans sz17
    have v14_17 : Same G14 G17 := v14_16.trans sz17
    have v15_17 : Same G15 G17 := v15_16.trans sz17
    have v16_17 : Same G16 G17 := sz17
    have ix := hx.ext u17
    obtain ⟨ex, jx⟩ := id ix
    have iz17 := hz17
    obtain ⟨ez17, jz17⟩ := id iz17
    refine ⟨x, z17, b, (b ||| d), rfl, ix, iz17, ?_⟩
    refine ⟨_, rfl, ?_⟩
    rw [decide_eq_true (in_or hb)]
    refine iteF ?_
    refine ⟨_, rfl, ?_⟩
    refine ⟨_, rfl, ?_⟩
    have ix := hx.ext u17
    obtain ⟨ex, jx⟩ := id ix
    have iy := hy.ext u17
    obtain ⟨ey, jy⟩ := id iy
    refine ⟨x, y, _, _, _, _, rfl, rfl, jx, jy, x, y, b, d, rfl, ix, iy, fun z18 G18 nz18 sz18 hz18 => ?_⟩
    have u18 : Same H G18 := u17.trans sz18
    have v1_18 : Same G1 G18 := v1_17.trans sz18
    have v2_18 : Same G2 G18 := v2_17.trans sz18
    have v3_18 : Same G3 G18 := v3_17.trans sz18
    have v4_18 : Same G4 G18 := v4_17.trans sz18
    have v5_18 : Same G5 G18 := v5_17.trans sz18
    have v6_18 : Same G6 G18 := v6_17.trans sz18
    have v7_18 : Same G7 G18 := v7_17.trans sz18
    have v8_18 : Same G8 G18 := v8_17.trans sz18
    have v9_18 : Same G9 G18 := v9_17.trans sz18
    have v10_18 : Same G10 G18 := v10_17.trans sz18
    have v11_18 : Same G11 G18 := v11_17.trans sz18
    have v12_18 : Same G12 G18 := v12_17.trans sz18
    have v13_18 : Same G13 G18 := v13_17.trans sz18
    have v14_18 : Same G14 G18 := v14_17.trans sz18
    have v15_18 : Same G15 G18 := v15_17.trans sz18
    have v16_18 : Same G16 G18 := v16_17.trans sz18
    have v17_18 : Same G17 G18 := sz18
    refine ⟨_, rfl, ?_⟩
    have iz18 := hz18
    obtain ⟨ez18, jz18⟩ := id iz18
    have iy := hy.ext u18
    obtain ⟨ey, jy⟩ := id iy
    refine ⟨z18, y, _, _, _, _, rfl, rfl, jz18, jy, z18, y, (b ||| d), d, rfl, iz18, iy, fun z19 G19 nz19 sz19 hz19 => ?_⟩
    have u19 : Same H G19 := u18.trans sz19
    have v1_19 : Same G1 G19 := v1_18.trans sz19
    have v2_19 : Same G2 G19 := v2_18.trans sz19
    have v3_19 : Same G3 G19 := v3_18.trans sz19
    have v4_19 : Same G4 G19 := v4_18.trans sz19
    have v5_19 : Same G5 G19 := v5_18.trans sz19
    have v6_19 : Same G6 G19 := v6_18.trans sz19
    have v7_19 : Same G7 G19 := v7_18.trans sz19
    have v8_19 : Same G8 G19 := v8_18.trans sz19
    have v9_19 : Same G9 G19 := v9_18.trans sz19
    have v10_19 : Same G10 G19 := v10_18.trans sz19
    have v11_19 : Same G11 G19 := v11_18.trans sz19
    have v12_19 : Same G12 G19 := v12_18.trans sz19
    have v13_19 : Same G13 G19 := v13_18.trans sz19
    have v14_19 : Same G14 G19 := v14_18.trans sz19
    have v15_19 : Same G15 G19 := v15_18.trans sz19
    have v16_19 : Same G16 G19 := v16_18.trans sz19
    have v17_19 : Same G17 G19 := v17_18.trans sz19
    have v18_19 : Same G18 G19 := sz19
    refine ⟨_, rfl, ?_⟩
    refine ⟨_, rfl, ?_⟩
    have ix := hx.ext u19
    obtain ⟨ex, jx⟩ := id ix
    have iy := hy.ext u19
    obtain ⟨ey, jy⟩ := id iy
    refine ⟨x, y, _, _, _, _, rfl, rfl, jx, jy, x, y, b, d, rfl, ix, iy, fun z20 G20 nz20 sz20 hz20 => ?_⟩
    have u20 : Same H G20 := u19.trans sz20
    have v1_20 : Same G1 G20 := v1_19.trans sz20
    have v2_20 : Same G2 G20 := v2_19.trans sz20
    have v3_20 : Same G3 G20 := v3_19.trans sz20
    have v4_20 : Same G4 G20 := v4_19.trans sz20
    have v5_20 : Same G5 G20 := v5_19.trans sz20
    have v6_20 : Same G6 G20 := v6_19.trans sz20
    have v7_20 : Same G7 G20 := v7_19.trans sz20
    have v8_20 : Same G8 G20 := v8_19.trans sz20
    have v9_20 : Same G9 G20 := v9_19.trans sz20
    have v10_20 : Same G10 G20 := v10_19.trans sz20
    have v11_20 : Same G11 G20 := v11_19.trans sz20
    have v12_20 : Same G12 G20 := v12_19.trans sz20
    have v13_20 : Same G13 G20 := v13_19.trans sz20
    have v14_20 : Same G14 G20 := v14_19.trans sz20
    have v15_20 : Same G15 G20 := v15_19.trans sz20
    have v16_20 : Same G16 G20 := v16_19.trans sz20
    have v17_20 : Same G17 G20 := v17_19.trans sz20
    have v18_20 : Same G18 G20 := v18_19.trans sz20
    have v19_20 : Same G19 G20 := sz20
    have iz19 := hz19.ext v19_20
    obtain ⟨ez19, jz19⟩ := id iz19
    have iz20 := hz20
    obtain ⟨ez20, jz20⟩ := id iz20
    refine ⟨z19, z20, _, _, _, _, rfl, rfl, jz19, jz20, z19, z20, (diffN (b ||| d) d), (diffN b d), rfl, iz19, iz20, _, rfl, _, rfl, ?_⟩
    rw [decide_eq_true (show (diffN (b ||| d) d) = (diffN b d) from or_less hb hd)]
    refine iteT ?_
    refine ⟨_, rfl, ?_⟩
    refine ⟨_, rfl, ?_⟩
    have ix := hx.ext u20
    obtain ⟨ex, jx⟩ := id ix
    have iy := hy.ext u20
    obtain ⟨ey, jy⟩ := id iy
    refine ⟨x, y, _, _, _, _, rfl, rfl, jx, jy, x, y, b, d, rfl, ix, iy, fun z21 G21 nz21 sz21 hz21 => ?_⟩
    have u21 : Same H G21 := u20.trans sz21
    have v1_21 : Same G1 G21 := v1_20.trans sz21
    have v2_21 : Same G2 G21 := v2_20.trans sz21
    have v3_21 : Same G3 G21 := v3_20.trans sz21
    have v4_21 : Same G4 G21 := v4_20.trans sz21
    have v5_21 : Same G5 G21 := v5_20.trans sz21
    have v6_21 : Same G6 G21 := v6_20.trans sz21
    have v7_21 : Same G7 G21 := v7_20.trans sz21
    have v8_21 : Same G8 G21 := v8_20.trans sz21
    have v9_21 : Same G9 G21 := v9_20.trans sz21
    have v10_21 : Same G10 G21 := v10_20.trans sz21
    have v11_21 : Same G11 G21 := v11_20.trans sz21
    have v12_21 : Same G12 G21 := v12_20.trans sz21
    have v13_21 : Same G13 G21 := v13_20.trans sz21
    have v14_21 : Same G14 G21 := v14_20.trans sz21
    have v15_21 : Same G15 G21 := v15_20.trans sz21
    have v16_21 : Same G16 G21 := v16_20.trans sz21
    have v17_21 : Same G17 G21 := v17_20.trans sz21
    have v18_21 : Same G18 G21 := v18_20.trans sz21
    have v19_21 : Same G19 G21 := v19_20.trans sz21
    have v20_21 : Same G20 G21 := sz21
    have iz21 := hz21
    obtain ⟨ez21, jz21⟩ := id iz21
    refine ⟨z21, ez21, _, rfl, jz21, z21, (diffN b d), rfl, iz21, _, rfl, ?_⟩
    refine ⟨_, rfl, ?_⟩
    have ix := hx.ext u21
    obtain ⟨ex, jx⟩ := id ix
    refine ⟨x, ex, _, rfl, jx, zfl_no _, ?_⟩
    refine ⟨_, rfl, ?_⟩
    have ix := hx.ext u21
    obtain ⟨ex, jx⟩ := id ix
    have iy := hy.ext u21
    obtain ⟨ey, jy⟩ := id iy
    refine ⟨x, y, b, d, rfl, ix, iy, ?_⟩
    refine ⟨rfl, ?_⟩
    have e9 : (!decide (V.bl (diffN b d != 0) = V.bl (decide (diffN b d = 0)))) = true := by
      by_cases h : diffN b d = 0
      · simp [h]
      · simp [h]
    rw [e9]
    exact q _ u21
end
end Sq
namespace Sq
open PySem L2 TL
section
variable {P : Program} {w : World} {K : PySem.W.Frag} {mg : Str → Option Value} {base : Heap}
theorem truths_lenV (b : Nat) : (truthsV b).length = 204 := by unfold truthsV; rw [List.length_map, truths_len]
abbrev s__law_step : Stmt := top 36
theorem sc__law_step : FnScope ["_law_purl_here", "_law_boxes", "_law_rows", "_law_way", "_law_one", "_law_two", "_law_k", "_law_truth"] ["_law_purl_here", "_law_boxes", "_law_rows"] (defScope s__law_step) := ⟨rfl, rfl, rfl, by decide +kernel, rfl, by decide +kernel, by decide +kernel⟩
theorem ok__law_step {f : Addr} {fd : FuncData} (F : Fun K "_law_step" "_law_step" s__law_step f fd) (T : Bt mg) {C tE : Addr} (W0 : ZW P w K mg base C tE) (G__law_dig : FB P w K mg base "_law_dig" 1 ["_law_purl_here", "_law_many"] spDig) : FnOk P w K mg base CX0 8 f fd ["_law_purl_here", "_law_boxes", "_law_rows"] (spStep K C) := by
  refine F.ok sc__law_step (fun vs H Q E h => ?_) (fun cdv A outer s H vs Q E hr h => ?_)
  · obtain ⟨p, B, R, xs, rs, bs, rfl, _⟩ := h
    rfl
  · obtain ⟨fA, hA1, hA2, FA⟩ := W0.y.an
    obtain ⟨fO, hO1, hO2, FO⟩ := W0.y.orr
    obtain ⟨fS, hS1, hS2, FS⟩ := W0.y.sub
    obtain ⟨fI, hI1, hI2, FI⟩ := W0.y.inv
    obtain ⟨fQ, hQ1, hQ2, FQ⟩ := W0.y.eq
    obtain ⟨fW, dW, MW, FW, BW⟩ := W0.y.wi
    obtain ⟨f5, hb5, ib5, Fb5⟩ := W0.y.x.bo
    have N := W0.y.x.z.zc
    obtain ⟨p, B, R, xs, rs, bs, rfl, hp, bx, l1, l2, q⟩ := h
    refine ⟨_, (pss_cons (ps_asg (pe_tup (pa_cons (pe_fb G__law_dig hr (by decide) (by rfl) (pa_cons (pv 0) (pa_cons pe_int pa_nil))) (pa_cons (pe_fb G__law_dig hr (by decide) (by rfl) (pa_cons (pv 0) (pa_cons (pe_callB call_len_seq (by rfl) T.len PySem.boot_len (pa_cons (pv 1) pa_nil)) pa_nil))) (pa_cons (pe_fb G__law_dig hr (by decide) (by rfl) (pa_cons (pv 0) (pa_cons (pe_callB call_len_seq (by rfl) T.len PySem.boot_len (pa_cons (pv 1) pa_nil)) pa_nil))) pa_nil)))) (pg_tup (by rfl) (pgs_cons (pg_name (i := 3) sc__law_step.nd rfl (by first | exact .inl rfl | exact .inr rfl)) (pgs_cons (pg_name (i := 4) sc__law_step.nd rfl (by first | exact .inl rfl | exact .inr rfl)) (pgs_cons (pg_name (i := 5) sc__law_step.nd rfl (by first | exact .inl rfl | exact .inr rfl)) pgs_nil)))))
        (pss_one (ps_if (pt_cmpR op_eq (pv 3) pe_int (nomark _))
        (pss_cons (ps_expr (pe_bm PySem.F.plainAttrs_list PySem.F.slot_list_append PySem.F.type_list_append mt_append (pv 1) (pa_cons (pe_op (op_bin W0.y.sf hA1 hA2 FA (hr.mono (show 7 ≤ 7 by decide)) pass0) (pe_ix (show IxR _ (rIxL K) from ix_list) (pv 1) (pv 4) (fun _ _ => rfl)) (pe_ix (show IxR _ (rIxL K) from ix_list) (pv 1) (pv 5) (fun _ _ => rfl))) pa_nil)))
        (pss_one (ps_expr (pe_bm PySem.F.plainAttrs_list PySem.F.slot_list_append PySem.F.type_list_append mt_append (pv 2) (pa_cons (pe_lc (own := [("_law_k", 6)]) (g := gName 6) (by rfl) sc__law_step.nd (pi_range1 (by rfl) T.range (pa_cons pe_int pa_nil)) (blkOk_by (own := [("_law_k", 6)]) (N := ["_law_purl_here", "_law_boxes", "_law_rows", "_law_way", "_law_one", "_law_two", "_law_k", "_law_truth"]) (sc := defScope s__law_step) (by decide +kernel))
            (fun _ _ _ _ _ => (pg_name (i := 6) sc__law_step.nd rfl (by first | exact .inl rfl | exact .inr rfl))) (fun _ _ _ _ _ => pts_nil) (fun _ _ _ _ _ => (pe_and (pe_ix (show IxR _ (rIxL K) from ix_list) (pe_ix (show IxR _ (rIxL K) from ix_list) (pv 2) (pv 4) (fun _ _ => rfl)) (pv 6) (fun _ _ => rfl))
            (pe_one (pe_ix (show IxR _ (rIxL K) from ix_list) (pe_ix (show IxR _ (rIxL K) from ix_list) (pv 2) (pv 5) (fun _ _ => rfl)) (pv 6) (fun _ _ => rfl)))))) pa_nil)))))
        (pss_one (ps_if (pt_cmpR op_eq (pv 3) pe_int (nomark _))
        (pss_cons (ps_expr (pe_bm PySem.F.plainAttrs_list PySem.F.slot_list_append PySem.F.type_list_append mt_append (pv 1) (pa_cons (pe_op (op_bin W0.y.sf hO1 hO2 FO (hr.mono (show 7 ≤ 7 by decide)) pass0) (pe_ix (show IxR _ (rIxL K) from ix_list) (pv 1) (pv 4) (fun _ _ => rfl)) (pe_ix (show IxR _ (rIxL K) from ix_list) (pv 1) (pv 5) (fun _ _ => rfl))) pa_nil)))
        (pss_one (ps_expr (pe_bm PySem.F.plainAttrs_list PySem.F.slot_list_append PySem.F.type_list_append mt_append (pv 2) (pa_cons (pe_lc (own := [("_law_k", 6)]) (g := gName 6) (by rfl) sc__law_step.nd (pi_range1 (by rfl) T.range (pa_cons pe_int pa_nil)) (blkOk_by (own := [("_law_k", 6)]) (N := ["_law_purl_here", "_law_boxes", "_law_rows", "_law_way", "_law_one", "_law_two", "_law_k", "_law_truth"]) (sc := defScope s__law_step) (by decide +kernel))
            (fun _ _ _ _ _ => (pg_name (i := 6) sc__law_step.nd rfl (by first | exact .inl rfl | exact .inr rfl))) (fun _ _ _ _ _ => pts_nil) (fun _ _ _ _ _ => (pe_or (pe_ix (show IxR _ (rIxL K) from ix_list) (pe_ix (show IxR _ (rIxL K) from ix_list) (pv 2) (pv 4) (fun _ _ => rfl)) (pv 6) (fun _ _ => rfl))
            (pe_one (pe_ix (show IxR _ (rIxL K) from ix_list) (pe_ix (show IxR _ (rIxL K) from ix_list) (pv 2) (pv 5) (fun _ _ => rfl)) (pv 6) (fun _ _ => rfl)))))) pa_nil)))))
        (pss_one (ps_if (pt_cmpR op_eq (pv 3) pe_int (nomark _))
        (pss_cons (ps_expr (pe_bm PySem.F.plainAttrs_list PySem.F.slot_list_append PySem.F.type_list_append mt_append (pv 1) (pa_cons (pe_op (op_bin W0.y.sf hS1 hS2 FS (hr.mono (show 7 ≤ 7 by decide)) pass0) (pe_ix (show IxR _ (rIxL K) from ix_list) (pv 1) (pv 4) (fun _ _ => rfl)) (pe_ix (show IxR _ (rIxL K) from ix_list) (pv 1) (pv 5) (fun _ _ => rfl))) pa_nil)))
        (pss_one (ps_expr (pe_bm PySem.F.plainAttrs_list PySem.F.slot_list_append PySem.F.type_list_append mt_append (pv 2) (pa_cons (pe_lc (own := [("_law_k", 6)]) (g := gName 6) (by rfl) sc__law_step.nd (pi_range1 (by rfl) T.range (pa_cons pe_int pa_nil)) (blkOk_by (own := [("_law_k", 6)]) (N := ["_law_purl_here", "_law_boxes", "_law_rows", "_law_way", "_law_one", "_law_two", "_law_k", "_law_truth"]) (sc := defScope s__law_step) (by decide +kernel))
            (fun _ _ _ _ _ => (pg_name (i := 6) sc__law_step.nd rfl (by first | exact .inl rfl | exact .inr rfl))) (fun _ _ _ _ _ => pts_nil) (fun _ _ _ _ _ => (pe_and (pe_ix (show IxR _ (rIxL K) from ix_list) (pe_ix (show IxR _ (rIxL K) from ix_list) (pv 2) (pv 4) (fun _ _ => rfl)) (pv 6) (fun _ _ => rfl))
            (pe_one (pe_not (pe_ix (show IxR _ (rIxL K) from ix_list) (pe_ix (show IxR _ (rIxL K) from ix_list) (pv 2) (pv 5) (fun _ _ => rfl)) (pv 6) (fun _ _ => rfl))))))) pa_nil)))))
        (pss_cons (ps_expr (pe_bm PySem.F.plainAttrs_list PySem.F.slot_list_append PySem.F.type_list_append mt_append (pv 1) (pa_cons (pe_un (un_own hI1 hI2 FI (hr.mono (show 7 ≤ 7 by decide)) pass0) (pe_ix (show IxR _ (rIxL K) from ix_list) (pv 1) (pv 4) (fun _ _ => rfl))) pa_nil)))
        (pss_one (ps_expr (pe_bm PySem.F.plainAttrs_list PySem.F.slot_list_append PySem.F.type_list_append mt_append (pv 2) (pa_cons (pe_lc (own := [("_law_truth", 7)]) (g := gName 7) (by rfl) sc__law_step.nd (pi_list (pe_ix (show IxR _ (rIxL K) from ix_list) (pv 2) (pv 4) (fun _ _ => rfl))) (blkOk_by (own := [("_law_truth", 7)]) (N := ["_law_purl_here", "_law_boxes", "_law_rows", "_law_way", "_law_one", "_law_two", "_law_k", "_law_truth"]) (sc := defScope s__law_step) (by decide +kernel))
            (fun _ _ _ _ _ => (pg_name (i := 7) sc__law_step.nd rfl (by first | exact .inl rfl | exact .inr rfl))) (fun _ _ _ _ _ => pts_nil) (fun _ _ _ _ _ => (pe_not (pv 7)))) pa_nil)))))))))))), ?_⟩
    refine ⟨_, rfl, p, 4, rfl, hp, by decide, by decide, fun w H1 w0 w1 hp1 o1 => ?_⟩
    have bx1 := bx.off o1
    refine ⟨_, rfl, _, rfl, B, _, rfl, .inl (SqL.of bx1.hB), ?_⟩
    rw [List.length_map, bx1.lx]
    refine ⟨p, _, rfl, hp1, by omega, by omega, fun u H2 u0 u1 hp2 o2 => ?_⟩
    have bx2 := bx1.off o2
    refine ⟨_, rfl, _, rfl, B, _, rfl, .inl (SqL.of bx2.hB), ?_⟩
    rw [List.length_map, bx2.lx]
    refine ⟨p, _, rfl, hp2, by omega, by omega, fun v H3 v0 v1 hp3 o3 => ?_⟩
    have bx3 := bx2.off o3
    refine ⟨by show 3 ≤ sizeLine; decide, fun Tt nTt => ?_⟩
    have sTt := same_new (o := .tup [V.int w, .int u, .int v]) nTt
    refine ⟨Tt, _, rfl, SqT.of upd_same, rfl, _, _, rfl, _, _, rfl, _, _, rfl, rfl, ?_⟩
    have hp4 := hp3.same sTt
    have bx4 := bx3.off (Same.off sTt)
    have o4 : Off p H (upd H3 Tt (.tup [V.int w, .int u, .int v])) := ((o1.trans o2).trans o3).trans (Same.off sTt)
    generalize upd H3 Tt (.tup [V.int w, .int u, .int v]) = H4 at hp4 bx4 o4
    have iu : u.toNat < bs.length := by omega
    have iv : v.toNat < bs.length := by omega
    have eu : u = ((u.toNat : Nat) : Int) := by omega
    have ev : v = ((v.toNat : Nat) : Int) := by omega
    have gx : ∀ i : Nat, i < bs.length → ∃ (x r : Addr) (b : Nat), atI (xs.map V.ref) (i : Int) = some (.ref x) ∧ atI (rs.map V.ref) (i : Int) = some (.ref r) ∧ SB b ∧ SetAt C H4 x b ∧ H4 r = some (.lst (truthsV b)) ∧ r ≠ B ∧ r ≠ R := by
      intro i hi
      have h1 : i < xs.length := by rw [bx4.lx]; exact hi
      have h2 : i < rs.length := by rw [bx4.lr]; exact hi
      obtain ⟨a1, a2, a3, _, _, _, _, a8, a9⟩ := bx4.each i bs[i] xs[i] rs[i] (List.getElem?_eq_getElem hi) (List.getElem?_eq_getElem h1) (List.getElem?_eq_getElem h2)
      exact ⟨xs[i], rs[i], bs[i], atI_nat (by rw [List.getElem?_map, List.getElem?_eq_getElem h1]; rfl), atI_nat (by rw [List.getElem?_map, List.getElem?_eq_getElem h2]; rfl), a1, a2, a3, a8, a9⟩
    obtain ⟨x1, r1, b, ab1, ar1, hb, hx1, hr1, r1B, r1R⟩ := gx _ iu
    obtain ⟨x2, r2, d, ab2, ar2, hd, hx2, hr2, r2B, r2R⟩ := gx _ iv
    rw [← eu] at ab1 ar1
    rw [← ev] at ab2 ar2
    obtain ⟨dx1, kx1⟩ := id hx1
    obtain ⟨dx2, kx2⟩ := id hx2
    have fin : ∀ (z D : Addr) (g : Nat) (H5 H6 : Hp), SB g → z ≠ p → z ≠ B → z ≠ R → H5 B = some (.lst (xs.map V.ref ++ [V.ref z])) → H5 R = some (.lst (rs.map V.ref)) → SetAt C H5 z g → (∀ c o, c ≠ B → H4 c = some o → H5 c = some o) → H5 D = none → Same H5 H6 → H6 D = some (.lst (truthsV g)) →
        ∃ (l : Addr) (xs0 : List V) (v : V), V.ref R = .ref l ∧ [V.ref D] = [v] ∧ H6 l = some (.lst xs0) ∧ xs0.length < sizeLine ∧ Q .non (upd H6 l (.lst (xs0 ++ [v]))) := by
      intro z D g H5 H6 hg hzp hzB hzR hB5 hR5 hz5 keep5 nD sx hD6
      have hp5 : PurlAt H5 p := by
        obtain ⟨m, d, e⟩ := hp4
        exact ⟨m, d, keep5 _ _ bx4.pB.symm e⟩
      have hDp : D ≠ p := purl_neQ nD hp5
      have hDB : D ≠ B := ne_of_none nD hB5
      have hDR : D ≠ R := ne_of_none nD hR5
      refine ⟨R, _, _, rfl, rfl, sx _ _ hR5, by rw [List.length_map, bx4.lr, sizeLine_eq]; omega, ?_⟩
      refine q z D g _ ?_ ?_ (fun c o c1 c2 c3 hc => ?_)
      · obtain ⟨m, d, e⟩ := hp5
        exact ⟨m, d, by rw [upd_ne bx4.pR.symm]; exact sx _ _ e⟩
      · obtain ⟨dz, jz⟩ := hz5
        refine bx4.snoc (fun c o c1 c2 c3 hc => ?_) ?_ upd_same hg ⟨dz, ?_⟩ ?_ hzp hDp hzB hzR hDB hDR
        · rw [upd_ne c3]
          exact sx _ _ (keep5 _ _ c2 hc)
        · rw [upd_ne bx4.BR]; exact sx _ _ hB5
        · rw [upd_ne hzR]; exact sx _ _ jz
        · rw [upd_ne hDR]; exact hD6
      · rw [upd_ne c3]
        exact sx _ _ (keep5 _ _ c2 (o4 _ _ c1 hc))
    refine ⟨_, rfl, rfl, _, rfl, ?_⟩
    by_cases e0 : w = 0
    · rw [show decide (V.int w = V.int 0) = true from decide_eq_true (by rw [e0])]
      refine iteT ?_
      refine ⟨_, rfl, .inl ⟨rfl, _, SqL.of bx4.hB⟩, ?_⟩
      refine ⟨_, rfl, _, rfl, B, _, _, _, rfl, rfl, SqL.of bx4.hB, ab1, ?_⟩
      refine ⟨_, rfl, _, rfl, B, _, _, _, rfl, rfl, SqL.of bx4.hB, ab2, ?_⟩
      refine ⟨x1, x2, _, _, _, _, rfl, rfl, kx1, kx2, x1, x2, b, d, rfl, hx1, hx2, fun z G nz sz hz => ?_⟩
      refine ⟨B, _, _, rfl, rfl, sz _ _ bx4.hB, by rw [List.length_map, bx4.lx, sizeLine_eq]; omega, ?_⟩
      have hzp : z ≠ p := purl_neQ nz hp4
      have hzB : z ≠ B := ne_of_none nz bx4.hB
      have hzR : z ≠ R := ne_of_none nz bx4.hR
      have hR5 : (upd G B (.lst (xs.map V.ref ++ [V.ref z]))) R = some (.lst (rs.map V.ref)) := by rw [upd_ne bx4.BR.symm]; exact sz _ _ bx4.hR
      have hB5 : (upd G B (.lst (xs.map V.ref ++ [V.ref z]))) B = some (.lst (xs.map V.ref ++ [V.ref z])) := upd_same
      have hr15 : (upd G B (.lst (xs.map V.ref ++ [V.ref z]))) r1 = some (.lst (truthsV b)) := by rw [upd_ne r1B]; exact sz _ _ hr1
      have hr25 : (upd G B (.lst (xs.map V.ref ++ [V.ref z]))) r2 = some (.lst (truthsV d)) := by rw [upd_ne r2B]; exact sz _ _ hr2
      have hz5 : SetAt C (upd G B (.lst (xs.map V.ref ++ [V.ref z]))) z (b &&& d) := by
        obtain ⟨dz, jz⟩ := hz
        exact ⟨dz, by rw [upd_ne hzB]; exact jz⟩
      have keep5 : ∀ c o, c ≠ B → H4 c = some o → (upd G B (.lst (xs.map V.ref ++ [V.ref z]))) c = some o := fun c o h1 h2 => by
        rw [upd_ne h1]
        exact sz _ _ h2
      generalize upd G B (.lst (xs.map V.ref ++ [V.ref z])) = H5 at hR5 hB5 hr15 hr25 hz5 keep5
      refine ⟨_, rfl, .inl ⟨rfl, _, SqL.of hR5⟩, ?_⟩
      refine ⟨204, rfl, by decide, by decide, fun D nD => ?_⟩
      refine lc_range (lo := 0) (n := 204) (fun j H' => Same H5 H' ∧ H' D = some (.lst (((List.range' 1 j).map (hasN (b &&& d))).map V.bl))) ⟨same_new nD, upd_same⟩ (fun j H' hj h => ?_) (fun H6 h => ?_)
      · obtain ⟨sx, hD⟩ := h
        have en : ((0 : Int) + (j : Nat)) = (j : Nat) := by omega
        rw [en]
        refine ⟨rfl, ?_⟩
        have len : ((((List.range' 1 j).map (hasN (b &&& d))).map V.bl)).length < sizeLine := by
          rw [List.length_map, List.length_map, List.length_range', sizeLine_eq]; omega
        have fin : ∀ z : Bool, z = hasN (b &&& d) (j + 1) → Same H5 (upd H' D (.lst (((List.range' 1 j).map (hasN (b &&& d))).map V.bl ++ [V.bl z]))) ∧ (upd H' D (.lst (((List.range' 1 j).map (hasN (b &&& d))).map V.bl ++ [V.bl z]))) D = some (.lst (((List.range' 1 (j + 1)).map (hasN (b &&& d))).map V.bl)) := by
          intro z hz
          refine ⟨fun c y hc => ?_, ?_⟩
          · rw [upd_ne (fun e => by rw [e, nD] at hc; cases hc)]
            exact sx _ _ hc
          · rw [upd_same, hz, List.range'_1_concat, List.map_append, List.map_append, Nat.add_comm 1 j]
            rfl
        refine ⟨_, rfl, _, rfl, R, _, _, _, rfl, rfl, SqL.of (sx _ _ hR5), ar1, ?_⟩
        refine ⟨_, rfl, r1, _, _, _, rfl, rfl, SqL.of (sx _ _ hr15), tr_at hj, _, rfl, ?_⟩
        cases hh : hasN b (j + 1) with
        | true =>
          refine iteT ?_
          refine ⟨_, rfl, _, rfl, R, _, _, _, rfl, rfl, SqL.of (sx _ _ hR5), ar2, ?_⟩
          refine ⟨_, rfl, r2, _, _, _, rfl, rfl, SqL.of (sx _ _ hr25), tr_at hj, _, hD, len, ?_⟩
          exact fin _ (by rw [has_and, hh]; cases hasN d (j + 1) <;> rfl)
        | false =>
          refine iteF ?_
          refine ⟨_, hD, len, ?_⟩
          exact fin _ (by rw [has_and, hh]; rfl)
      obtain ⟨sx, hD6⟩ := h
      rw [tr_full] at hD6
      exact fin z D (b &&& d) H5 H6 (sb_and hb) hzp hzB hzR hB5 hR5 hz5 keep5 nD sx hD6
    rw [show decide (V.int w = V.int 0) = false from decide_eq_false (fun z => e0 (V.int.inj z))]
    refine iteF ?_
    refine ⟨_, rfl, rfl, _, rfl, ?_⟩
    by_cases e1 : w = 1
    · rw [show decide (V.int w = V.int 1) = true from decide_eq_true (by rw [e1])]
      refine iteT ?_
      refine ⟨_, rfl, .inl ⟨rfl, _, SqL.of bx4.hB⟩, ?_⟩
      refine ⟨_, rfl, _, rfl, B, _, _, _, rfl, rfl, SqL.of bx4.hB, ab1, ?_⟩
      refine ⟨_, rfl, _, rfl, B, _, _, _, rfl, rfl, SqL.of bx4.hB, ab2, ?_⟩
      refine ⟨x1, x2, _, _, _, _, rfl, rfl, kx1, kx2, x1, x2, b, d, rfl, hx1, hx2, fun z G nz sz hz => ?_⟩
      refine ⟨B, _, _, rfl, rfl, sz _ _ bx4.hB, by rw [List.length_map, bx4.lx, sizeLine_eq]; omega, ?_⟩
      have hzp : z ≠ p := purl_neQ nz hp4
      have hzB : z ≠ B := ne_of_none nz bx4.hB
      have hzR : z ≠ R := ne_of_none nz bx4.hR
      have hR5 : (upd G B (.lst (xs.map V.ref ++ [V.ref z]))) R = some (.lst (rs.map V.ref)) := by rw [upd_ne bx4.BR.symm]; exact sz _ _ bx4.hR
      have hB5 : (upd G B (.lst (xs.map V.ref ++ [V.ref z]))) B = some (.lst (xs.map V.ref ++ [V.ref z])) := upd_same
      have hr15 : (upd G B (.lst (xs.map V.ref ++ [V.ref z]))) r1 = some (.lst (truthsV b)) := by rw [upd_ne r1B]; exact sz _ _ hr1
      have hr25 : (upd G B (.lst (xs.map V.ref ++ [V.ref z]))) r2 = some (.lst (truthsV d)) := by rw [upd_ne r2B]; exact sz _ _ hr2
      have hz5 : SetAt C (upd G B (.lst (xs.map V.ref ++ [V.ref z]))) z (b ||| d) := by
        obtain ⟨dz, jz⟩ := hz
        exact ⟨dz, by rw [upd_ne hzB]; exact jz⟩
      have keep5 : ∀ c o, c ≠ B → H4 c = some o → (upd G B (.lst (xs.map V.ref ++ [V.ref z]))) c = some o := fun c o h1 h2 => by
        rw [upd_ne h1]
        exact sz _ _ h2
      generalize upd G B (.lst (xs.map V.ref ++ [V.ref z])) = H5 at hR5 hB5 hr15 hr25 hz5 keep5
      refine ⟨_, rfl, .inl ⟨rfl, _, SqL.of hR5⟩, ?_⟩
      refine ⟨204, rfl, by decide, by decide, fun D nD => ?_⟩
      refine lc_range (lo := 0) (n := 204) (fun j H' => Same H5 H' ∧ H' D = some (.lst (((List.range' 1 j).map (hasN (b ||| d))).map V.bl))) ⟨same_new nD, upd_same⟩ (fun j H' hj h => ?_) (fun H6 h => ?_)
      · obtain ⟨sx, hD⟩ := h
        have en : ((0 : Int) + (j : Nat)) = (j : Nat) := by omega
        rw [en]
        refine ⟨rfl, ?_⟩
        have len : ((((List.range' 1 j).map (hasN (b ||| d))).map V.bl)).length < sizeLine := by
          rw [List.length_map, List.length_map, List.length_range', sizeLine_eq]; omega
        have fin : ∀ z : Bool, z = hasN (b ||| d) (j + 1) → Same H5 (upd H' D (.lst (((List.range' 1 j).map (hasN (b ||| d))).map V.bl ++ [V.bl z]))) ∧ (upd H' D (.lst (((List.range' 1 j).map (hasN (b ||| d))).map V.bl ++ [V.bl z]))) D = some (.lst (((List.range' 1 (j + 1)).map (hasN (b ||| d))).map V.bl)) := by
          intro z hz
          refine ⟨fun c y hc => ?_, ?_⟩
          · rw [upd_ne (fun e => by rw [e, nD] at hc; cases hc)]
            exact sx _ _ hc
          · rw [upd_same, hz, List.range'_1_concat, List.map_append, List.map_append, Nat.add_comm 1 j]
            rfl
        refine ⟨_, rfl, _, rfl, R, _, _, _, rfl, rfl, SqL.of (sx _ _ hR5), ar1, ?_⟩
        refine ⟨_, rfl, r1, _, _, _, rfl, rfl, SqL.of (sx _ _ hr15), tr_at hj, _, rfl, ?_⟩
        cases hh : hasN b (j + 1) with
        | true =>
          refine iteT ?_
          refine ⟨_, hD, len, ?_⟩
          exact fin _ (by rw [has_or, hh]; rfl)
        | false =>
          refine iteF ?_
          refine ⟨_, rfl, _, rfl, R, _, _, _, rfl, rfl, SqL.of (sx _ _ hR5), ar2, ?_⟩
          refine ⟨_, rfl, r2, _, _, _, rfl, rfl, SqL.of (sx _ _ hr25), tr_at hj, _, hD, len, ?_⟩
          exact fin _ (by rw [has_or, hh]; cases hasN d (j + 1) <;> rfl)
      obtain ⟨sx, hD6⟩ := h
      rw [tr_full] at hD6
      exact fin z D (b ||| d) H5 H6 (sb_or hb hd) hzp hzB hzR hB5 hR5 hz5 keep5 nD sx hD6
    rw [show decide (V.int w = V.int 1) = false from decide_eq_false (fun z => e1 (V.int.inj z))]
    refine iteF ?_
    refine ⟨_, rfl, rfl, _, rfl, ?_⟩
    by_cases e2 : w = 2
    · rw [show decide (V.int w = V.int 2) = true from decide_eq_true (by rw [e2])]
      refine iteT ?_
      refine ⟨_, rfl, .inl ⟨rfl, _, SqL.of bx4.hB⟩, ?_⟩
      refine ⟨_, rfl, _, rfl, B, _, _, _, rfl, rfl, SqL.of bx4.hB, ab1, ?_⟩
      refine ⟨_, rfl, _, rfl, B, _, _, _, rfl, rfl, SqL.of bx4.hB, ab2, ?_⟩
      refine ⟨x1, x2, _, _, _, _, rfl, rfl, kx1, kx2, x1, x2, b, d, rfl, hx1, hx2, fun z G nz sz hz => ?_⟩
      refine ⟨B, _, _, rfl, rfl, sz _ _ bx4.hB, by rw [List.length_map, bx4.lx, sizeLine_eq]; omega, ?_⟩
      have hzp : z ≠ p := purl_neQ nz hp4
      have hzB : z ≠ B := ne_of_none nz bx4.hB
      have hzR : z ≠ R := ne_of_none nz bx4.hR
      have hR5 : (upd G B (.lst (xs.map V.ref ++ [V.ref z]))) R = some (.lst (rs.map V.ref)) := by rw [upd_ne bx4.BR.symm]; exact sz _ _ bx4.hR
      have hB5 : (upd G B (.lst (xs.map V.ref ++ [V.ref z]))) B = some (.lst (xs.map V.ref ++ [V.ref z])) := upd_same
      have hr15 : (upd G B (.lst (xs.map V.ref ++ [V.ref z]))) r1 = some (.lst (truthsV b)) := by rw [upd_ne r1B]; exact sz _ _ hr1
      have hr25 : (upd G B (.lst (xs.map V.ref ++ [V.ref z]))) r2 = some (.lst (truthsV d)) := by rw [upd_ne r2B]; exact sz _ _ hr2
      have hz5 : SetAt C (upd G B (.lst (xs.map V.ref ++ [V.ref z]))) z (diffN b d) := by
        obtain ⟨dz, jz⟩ := hz
        exact ⟨dz, by rw [upd_ne hzB]; exact jz⟩
      have keep5 : ∀ c o, c ≠ B → H4 c = some o → (upd G B (.lst (xs.map V.ref ++ [V.ref z]))) c = some o := fun c o h1 h2 => by
        rw [upd_ne h1]
        exact sz _ _ h2
      generalize upd G B (.lst (xs.map V.ref ++ [V.ref z])) = H5 at hR5 hB5 hr15 hr25 hz5 keep5
      refine ⟨_, rfl, .inl ⟨rfl, _, SqL.of hR5⟩, ?_⟩
      refine ⟨204, rfl, by decide, by decide, fun D nD => ?_⟩
      refine lc_range (lo := 0) (n := 204) (fun j H' => Same H5 H' ∧ H' D = some (.lst (((List.range' 1 j).map (hasN (diffN b d))).map V.bl))) ⟨same_new nD, upd_same⟩ (fun j H' hj h => ?_) (fun H6 h => ?_)
      · obtain ⟨sx, hD⟩ := h
        have en : ((0 : Int) + (j : Nat)) = (j : Nat) := by omega
        rw [en]
        refine ⟨rfl, ?_⟩
        have len : ((((List.range' 1 j).map (hasN (diffN b d))).map V.bl)).length < sizeLine := by
          rw [List.length_map, List.length_map, List.length_range', sizeLine_eq]; omega
        have fin : ∀ z : Bool, z = hasN (diffN b d) (j + 1) → Same H5 (upd H' D (.lst (((List.range' 1 j).map (hasN (diffN b d))).map V.bl ++ [V.bl z]))) ∧ (upd H' D (.lst (((List.range' 1 j).map (hasN (diffN b d))).map V.bl ++ [V.bl z]))) D = some (.lst (((List.range' 1 (j + 1)).map (hasN (diffN b d))).map V.bl)) := by
          intro z hz
          refine ⟨fun c y hc => ?_, ?_⟩
          · rw [upd_ne (fun e => by rw [e, nD] at hc; cases hc)]
            exact sx _ _ hc
          · rw [upd_same, hz, List.range'_1_concat, List.map_append, List.map_append, Nat.add_comm 1 j]
            rfl
        refine ⟨_, rfl, _, rfl, R, _, _, _, rfl, rfl, SqL.of (sx _ _ hR5), ar1, ?_⟩
        refine ⟨_, rfl, r1, _, _, _, rfl, rfl, SqL.of (sx _ _ hr15), tr_at hj, _, rfl, ?_⟩
        cases hh : hasN b (j + 1) with
        | true =>
          refine iteT ?_
          refine ⟨_, rfl, _, rfl, R, _, _, _, rfl, rfl, SqL.of (sx _ _ hR5), ar2, ?_⟩
          refine ⟨_, rfl, r2, _, _, _, rfl, rfl, SqL.of (sx _ _ hr25), tr_at hj, _, rfl, _, hD, len, ?_⟩
          exact fin _ (by rw [has_diff, hh]; cases hasN d (j + 1) <;> rfl)
        | false =>
          refine iteF ?_
          refine ⟨_, hD, len, ?_⟩
          exact fin _ (by rw [has_diff, hh]; rfl)
      obtain ⟨sx, hD6⟩ := h
      rw [tr_full] at hD6
      exact fin z D (diffN b d) H5 H6 (sb_diff hb) hzp hzB hzR hB5 hR5 hz5 keep5 nD sx hD6
    rw [show decide (V.int w = V.int 2) = false from decide_eq_false (fun z => e2 (V.int.inj z))]
    refine iteF ?_
    refine ⟨_, rfl, .inl ⟨rfl, _, SqL.of bx4.hB⟩, ?_⟩
    refine ⟨_, rfl, _, rfl, B, _, _, _, rfl, rfl, SqL.of bx4.hB, ab1, ?_⟩
    refine ⟨x1, _, _, rfl, kx1, x1, b, rfl, hx1, fun z G nz sz hz => ?_⟩
    refine ⟨B, _, _, rfl, rfl, sz _ _ bx4.hB, by rw [List.length_map, bx4.lx, sizeLine_eq]; omega, ?_⟩
    have hzp : z ≠ p := purl_neQ nz hp4
    have hzB : z ≠ B := ne_of_none nz bx4.hB
    have hzR : z ≠ R := ne_of_none nz bx4.hR
    have hR5 : (upd G B (.lst (xs.map V.ref ++ [V.ref z]))) R = some (.lst (rs.map V.ref)) := by rw [upd_ne bx4.BR.symm]; exact sz _ _ bx4.hR
    have hB5 : (upd G B (.lst (xs.map V.ref ++ [V.ref z]))) B = some (.lst (xs.map V.ref ++ [V.ref z])) := upd_same
    have hr15 : (upd G B (.lst (xs.map V.ref ++ [V.ref z]))) r1 = some (.lst (truthsV b)) := by rw [upd_ne r1B]; exact sz _ _ hr1
    have hr25 : (upd G B (.lst (xs.map V.ref ++ [V.ref z]))) r2 = some (.lst (truthsV d)) := by rw [upd_ne r2B]; exact sz _ _ hr2
    have hz5 : SetAt C (upd G B (.lst (xs.map V.ref ++ [V.ref z]))) z (notN b) := by
      obtain ⟨dz, jz⟩ := hz
      exact ⟨dz, by rw [upd_ne hzB]; exact jz⟩
    have keep5 : ∀ c o, c ≠ B → H4 c = some o → (upd G B (.lst (xs.map V.ref ++ [V.ref z]))) c = some o := fun c o h1 h2 => by
      rw [upd_ne h1]
      exact sz _ _ h2
    generalize upd G B (.lst (xs.map V.ref ++ [V.ref z])) = H5 at hR5 hB5 hr15 hr25 hz5 keep5
    refine ⟨_, rfl, .inl ⟨rfl, _, SqL.of hR5⟩, ?_⟩
    refine ⟨_, rfl, _, rfl, R, _, _, _, rfl, rfl, SqL.of hR5, ar1, r1, rfl, ⟨_, SqL.of hr15⟩, fun D nD => ?_⟩
    refine lc_list (K := K) (a := r1) (xs := truthsV b) (fun j H' => Same H5 H' ∧ H' D = some (.lst (((List.range' 1 j).map (hasN (notN b))).map V.bl))) ⟨same_new nD, upd_same⟩ (fun j H' _ h => SqL.of (h.1 _ _ hr15)) (fun j y H' hy h => ?_) (fun H6 h => ?_)
    · obtain ⟨sx, hD⟩ := h
      unfold truthsV at hy
      rw [List.getElem?_map] at hy
      cases hn : (truthsB b)[j]? with
      | none => rw [hn] at hy; cases hy
      | some c0 =>
        rw [hn] at hy
        cases hy
        have hj : j < 204 := by
          have := (List.getElem?_eq_some_iff.mp hn).1
          rw [truths_len] at this
          exact this
        rw [truths_at hj] at hn
        obtain rfl := Option.some.inj hn
        refine ⟨rfl, ?_⟩
        refine ⟨_, rfl, _, rfl, _, hD, ?_, fun e o ho => ?_, ?_⟩
        · rw [List.length_map, List.length_map, List.length_range', sizeLine_eq]; omega
        · rw [upd_ne (fun e' => by rw [e', nD] at ho; cases ho)]
          exact sx _ _ ho
        · rw [upd_same, List.range'_1_concat, List.map_append, List.map_append, Nat.add_comm 1 j]
          show some (HO.lst (_ ++ [V.bl (!hasN b (j + 1))])) = some (HO.lst (_ ++ [V.bl (hasN (notN b) (j + 1))]))
          rw [has_not (by omega) (by omega)]
    obtain ⟨sx, hD6⟩ := h
    rw [truths_lenV, tr_full] at hD6
    exact fin z D (notN b) H5 H6 (sb_not) hzp hzB hzR hB5 hR5 hz5 keep5 nD sx hD6
end
end Sq
namespace Sq
open PySem L2 PySem.Spec PyProof.Rows
/-- a promise that is kept where no repr is under way, with all that a call asks -/
structure FBG (P : Program) (w : World) (K : PySem.W.Frag) (mg : Str → Option Value) (base : Heap) (x : Str) (k : Nat) (sp : Sp) : Prop where
  ex : ∃ f : Addr, FnG P w K mg base k f sp ∧ mg x = some (.ref f) ∧ PySem.W.keepIn K (.ref f) = true
section
variable {X : Cx} {j k : Nat} {x : Str} {p pos : Pos} {e : Expr} {es : List Expr} {t : TA} {sp : Sp}
theorem FnG.mono {P : Program} {w : World} {K : PySem.W.Frag} {mg : Str → Option Value} {base : Heap} {f : Addr} (F : FnG P w K mg base k f sp) : FnG P w K mg base k f sp := F
theorem pe_fbG (F : FBG X.prog X.w X.K X.mg X.base x k sp) (hg : X.A.guards = some []) (hr : Room j X.A) (hk : k ≤ j) (hgl : Gl X x) (ha : PA X (e :: es) t) (hdb : (x == ("__debug__" : Str)) = false := by decide)
    (he : starEach (e :: es) X.env = (false, eval e X.env) :: starEach es X.env := by rfl) (hpl : (backTo pos (starEach es X.env)).any (·.1) = false := by rfl) :
    PE X (.Call (.Name x p) (e :: es) [] pos) (tCallG sp t) := by
  obtain ⟨f, G, hm, kk⟩ := F.ex
  exact pe_callG G hg (hr.mono hk) hgl hm kk ha hdb he hpl
end
theorem noIn {v : V} {n a b : Int} (h : inI v a b = false) (e : v = .int n) (h1 : a ≤ n) (h2 : n ≤ b) : False := by
  subst e
  have h : (decide (a ≤ n) && decide (n ≤ b)) = false := h
  rw [decide_eq_true h1, decide_eq_true h2] at h
  cases h
theorem inI_in {n a b : Int} (h1 : a ≤ n) (h2 : n ≤ b) : inI (.int n) a b = true := by
  show (decide (a ≤ n) && decide (n ≤ b)) = true
  rw [decide_eq_true h1, decide_eq_true h2]
  rfl
theorem two_it {x a b : V} {i : Nat} (h : [a, b][i]? = some x) : x = a ∨ x = b := by
  have m := List.mem_of_getElem? h
  simpa using m
theorem three_it {x a b c : V} {i : Nat} (h : [a, b, c][i]? = some x) : x = a ∨ x = b ∨ x = c := by
  have m := List.mem_of_getElem? h
  simpa using m
/-! ### promises -/
def spSame2 (K : PySem.W.Frag) : Sp := fun vs H Q _ => ∃ (t : Addr) (x : Str) (v : V) (d : PyData), vs = [.ref t, .str x, v] ∧ H t = some (.tup [.str x, v]) ∧ Sh K H v d ∧ Fits d ∧ Q (.bl true) H
end Sq
namespace Sq
open PySem L2 PySem.Spec PyProof.Rows
/-! ### a set that is told otherwise -/
theorem made_eq {b : Nat} (hb : SB b) {ns : List Nat} {e o : Option Nat} (hl : LsOk ns) (he : TlOk 0 e) (ho : TlOk 1 o)
    (h : ∀ i, 1 ≤ i → i ≤ 202 → (decide (i ∈ ns) || inTail (if i % 2 = 0 then e else o) i) = b.testBit i) : madeN ns e o = b := by
  refine bits_eq (made_sb hl he ho) hb fun n h1 h2 => ?_
  rw [has_lo h2, has_lo h2, made_bit hl he ho (by omega)]
  exact h n h1 h2
/-- each size is listed or within a tail -/
theorem bit_split {b i : Nat} (hi : i < 203) : b.testBit i = (decide (i ∈ listedN b) || (inTail (endOf b i) i && b.testBit i)) := by
  have h : decide (i ∈ listedN b) = (b.testBit i && !inTail (endOf b i) i) := by
    unfold listedN
    rw [Bool.eq_iff_iff]
    simp only [decide_eq_true_eq, List.mem_filter, List.mem_range]
    rw [tails_bit hi]
    simp [hi]
  rw [h]
  cases b.testBit i <;> cases inTail (endOf b i) i <;> rfl
theorem tail_in {b i : Nat} (h1 : 1 ≤ i) (h2 : i ≤ 202) (h : inTail (endOf b i) i = true) : b.testBit i = true := by
  have g : ∀ l, 201 ≤ l → l ≤ 202 → i % 2 = l % 2 → inTail (tailN b l) i = true → b.testBit i = true := by
    intro l l1 l2 hp ht
    unfold tailN at ht
    by_cases hb : b.testBit l = true
    · rw [if_pos hb] at ht
      have hd : downN b l ≤ i := of_decide_eq_true ht
      by_cases hl : i = l
      · rw [hl]; exact hb
      · exact (down_spec b l (by omega)).2.2.2.1 i hd (by omega) hp
    · rw [if_neg hb] at ht
      cases ht
  unfold endOf at h
  split at h
  · rename_i hp; exact g 202 (by omega) (by omega) (by omega) h
  · rename_i hp; exact g 201 (by omega) (by omega) (by omega) h
/-- the parts of a set -/
theorem bit_parts {b i : Nat} (h1 : 1 ≤ i) (h2 : i ≤ 202) : b.testBit i = (decide (i ∈ listedN b) || inTail (endOf b i) i) := by
  have h := bit_split (b := b) (i := i) (by omega)
  cases ht : inTail (endOf b i) i with
  | false => rw [ht] at h; simpa using h
  | true => rw [tail_in h1 h2 ht]; simp
/-- the same set by other sizes and later tails -/
theorem other_made {b : Nat} (hb : SB b) {ns : List Nat} {e o : Option Nat} (hl : LsOk ns) (he : TlOk 0 e) (ho : TlOk 1 o) (h1 : ∀ i ∈ ns, i ∈ listedN b ∨ inTail (endOf b i) i = true) (h2 : ∀ i ∈ listedN b, i ∈ ns)
    (h3 : ∀ i, inTail (if i % 2 = 0 then e else o) i = true → inTail (endOf b i) i = true) (h4 : ∀ i, 1 ≤ i → i ≤ 202 → inTail (endOf b i) i = true → i ∈ ns ∨ inTail (if i % 2 = 0 then e else o) i = true) : madeN ns e o = b := by
  refine made_eq hb hl he ho fun i i1 i2 => ?_
  rw [bit_parts i1 i2, Bool.eq_iff_iff]
  simp only [Bool.or_eq_true, decide_eq_true_eq]
  constructor
  · rintro (h | h)
    · exact h1 i h
    · exact .inr (h3 i h)
  · rintro (h | h)
    · exact .inl (h2 i h)
    · exact h4 i i1 i2 h
end Sq
namespace Sq
open PySem L2 PySem.Spec PyProof.Rows
/-! ### the law's loop that tells a set otherwise -/
def ComO (b : Nat) (ns : List Nat) : Prop := ns.Nodup ∧ (∀ k ∈ ns, 1 ≤ k ∧ k ≤ 200 ∧ (k ∈ listedN b ∨ inTail (endOf b k) k = true)) ∧ ∀ k ∈ listedN b, k ∈ ns
/-- a parity that the loop has not come to -/
def RawO (b : Nat) (ns : List Nat) (p : Nat) (s : Option Nat) : Prop := s = tailN b (202 - p) ∧ ∀ k ∈ ns, k % 2 = p → k ∈ listedN b
/-- a parity behind it -/
def DoneO (b : Nat) (ns : List Nat) (p : Nat) (s : Option Nat) : Prop := TlOk p s ∧ (∀ i, i % 2 = p → inTail s i = true → inTail (endOf b i) i = true) ∧ ∀ i, 1 ≤ i → i ≤ 202 → i % 2 = p → inTail (endOf b i) i = true → i ∈ ns ∨ inTail s i = true
theorem end_of {b p i : Nat} (hp : p < 2) (hi : i % 2 = p) : endOf b i = tailN b (202 - p) := by
  unfold endOf
  rcases (show p = 0 ∨ p = 1 by omega) with h | h
  · rw [if_pos (by omega), h]
  · rw [if_neg (by omega), h]
theorem listed_out {b k : Nat} (h : k ∈ listedN b) : inTail (endOf b k) k = false := by
  have hk : k < 203 := by
    unfold listedN at h
    exact List.mem_range.mp (List.mem_filter.mp h).1
  unfold listedN at h
  have z := (List.mem_filter.mp h).2
  rw [tails_bit hk] at z
  simpa using (Bool.and_eq_true_iff.mp z).2
theorem RawO.done {b p : Nat} {ns : List Nat} (hp : p < 2) (h : RawO b ns p none) : DoneO b ns p none := by
  refine ⟨fun _ z => (by cases z), fun i _ z => (by cases z), fun i _ _ hi z => ?_⟩
  rw [end_of hp hi, ← h.1] at z
  cases z
theorem oth_step {b p s t : Nat} {ns more : List Nat} (hp : p < 2) (hc : ComO b ns) (hr : RawO b ns p (some s)) (h1 : 1 ≤ s) (hs : s % 2 = p) (hst : s ≤ t) (ht : t ≤ 200) (htp : t % 2 = p) (hn : more.Nodup) (hm : ∀ k ∈ more, s ≤ k ∧ k ≤ 200 ∧ k % 2 = p) (hcov : ∀ i, s ≤ i → i < t → i % 2 = p → i ∈ more) :
    ComO b (ns ++ more) ∧ DoneO b (ns ++ more) p (some t) ∧ (∀ q e, q ≠ p → RawO b ns q e → RawO b (ns ++ more) q e) ∧ ∀ q e, q ≠ p → DoneO b ns q e → DoneO b (ns ++ more) q e := by
  obtain ⟨c1, c2, c3⟩ := hc
  obtain ⟨r1, r2⟩ := hr
  have tl : ∀ i, i % 2 = p → inTail (endOf b i) i = decide (s ≤ i) := fun i hi => by rw [end_of hp hi, ← r1]; rfl
  refine ⟨⟨?_, fun k hk => ?_, fun k hk => List.mem_append_left _ (c3 k hk)⟩, ⟨fun n z => (by cases z; exact ⟨by omega, ht, htp⟩), fun i hi z => ?_, fun i i1 i2 hi z => ?_⟩, fun q e hq h => ⟨h.1, fun k hk hkq => ?_⟩, fun q e hq h => ⟨h.1, h.2.1, fun i i1 i2 hi z => ?_⟩⟩
  · rw [List.nodup_append]
    refine ⟨c1, hn, fun x hx y hy e => ?_⟩
    subst e
    obtain ⟨m1, m2, m3⟩ := hm x hy
    have z := listed_out (r2 x hx m3)
    rw [tl x m3, decide_eq_true m1] at z
    cases z
  · rcases List.mem_append.mp hk with h | h
    · exact c2 k h
    · obtain ⟨m1, m2, m3⟩ := hm k h
      exact ⟨by omega, m2, .inr (by rw [tl k m3, decide_eq_true m1])⟩
  · have z : t ≤ i := of_decide_eq_true z
    rw [tl i hi, decide_eq_true (by omega)]
  · rw [tl i hi] at z
    have z := of_decide_eq_true z
    by_cases h : t ≤ i
    · exact .inr (decide_eq_true h)
    · exact .inl (List.mem_append_right _ (hcov i z (by omega) hi))
  · rcases List.mem_append.mp hk with h' | h'
    · exact h.2 k h' hkq
    · exact absurd ((hm k h').2.2.symm.trans hkq).symm hq
  · rcases h.2.2 i i1 i2 hi z with y | y
    · exact .inl (List.mem_append_left _ y)
    · exact .inr y
/-- numbers, sorted -/
theorem sorted_nats {ns : List Nat} {zs : List Int} (h : zs.Perm (ns.map fun n => ((n : Nat) : Int))) (hs : zs.Pairwise (· ≤ ·)) (hn : ns.Nodup) : ∃ ms : List Nat, zs.map V.int = natsV ms ∧ ms.Pairwise (· < ·) ∧ ∀ k, k ∈ ms ↔ k ∈ ns := by
  have nn : ∀ z ∈ zs, ∃ n ∈ ns, z = ((n : Nat) : Int) := fun z hz => by
    obtain ⟨n, h1, h2⟩ := List.mem_map.mp (h.mem_iff.mp hz)
    exact ⟨n, h1, h2.symm⟩
  have hd : zs.Nodup := h.nodup_iff.mpr (by
    unfold List.Nodup
    rw [List.pairwise_map]
    exact hn.imp fun h e => h (Int.ofNat_inj.mp e))
  refine ⟨zs.map Int.toNat, ?_, ?_, fun k => ⟨fun hk => ?_, fun hk => ?_⟩⟩
  · unfold natsV
    rw [List.map_map]
    refine List.map_congr_left fun z hz => ?_
    obtain ⟨n, _, rfl⟩ := nn z hz
    rfl
  · rw [List.pairwise_map]
    refine List.Pairwise.imp_of_mem (R := fun x y => x ≤ y ∧ x ≠ y) (fun ha hb h => ?_) (hs.and hd)
    obtain ⟨n, _, rfl⟩ := nn _ ha
    obtain ⟨m, _, rfl⟩ := nn _ hb
    obtain ⟨h1, h2⟩ := h
    simp only [Int.toNat_natCast]
    omega
  · obtain ⟨z, hz, rfl⟩ := List.mem_map.mp hk
    obtain ⟨n, h1, rfl⟩ := nn z hz
    exact h1
  · exact List.mem_map.mpr ⟨(k : Int), h.mem_iff.mpr (List.mem_map.mpr ⟨k, hk, rfl⟩), rfl⟩
end Sq
namespace Sq
open PySem L2 PySem.Spec PyProof.Rows TL
/-! ### the numbers of a set that is told otherwise -/
theorem listed_each {b k : Nat} (hb : SB b) (h : k ∈ listedN b) : 1 ≤ k ∧ k ≤ 200 := by
  have ho := listed_out h
  unfold listedN at h
  obtain ⟨h1, h2⟩ := List.mem_filter.mp h
  rw [List.mem_range] at h1
  have hk : b.testBit k = true := (Bool.and_eq_true_iff.mp h2).1
  have k0 : k ≠ 0 := fun e => by rw [e, hb.2] at hk; cases hk
  refine ⟨by omega, ?_⟩
  apply Classical.byContradiction
  intro h3
  have h4 : k = 201 ∨ k = 202 := by omega
  rcases h4 with rfl | rfl
  · have e : endOf b 201 = some (downN b 201) := by
      unfold endOf tailN
      rw [if_neg (by decide), if_pos hk]
    rw [e] at ho
    have := (down_spec b 201 (by decide)).2.2.1
    exact absurd (show downN b 201 ≤ 201 from this) (of_decide_eq_false ho)
  · have e : endOf b 202 = some (downN b 202) := by
      unfold endOf tailN
      rw [if_pos (by decide), if_pos hk]
    rw [e] at ho
    have := (down_spec b 202 (by decide)).2.2.1
    exact absurd (show downN b 202 ≤ 202 from this) (of_decide_eq_false ho)
theorem com_start {b : Nat} (hb : SB b) : ComO b (listedN b) := by
  refine ⟨?_, fun k hk => ?_, fun k hk => hk⟩
  · unfold listedN
    exact List.nodup_range.sublist List.filter_sublist
  · obtain ⟨h1, h2⟩ := listed_each hb hk
    exact ⟨h1, h2, .inl hk⟩
theorem raw_start {b : Nat} (p : Nat) : RawO b (listedN b) p (tailN b (202 - p)) := ⟨rfl, fun _ h _ => h⟩
theorem raw_nums {b p s : Nat} {ns : List Nat} (hp : p < 2) (h : RawO b ns p (some s)) : 1 ≤ s ∧ s % 2 = p := by
  have e := h.1
  unfold tailN at e
  split at e
  · have e := Option.some.inj e
    have d := down_spec b (202 - p) (by omega)
    omega
  · cases e
theorem oth_end {b : Nat} (hb : SB b) {ns ms : List Nat} {e o : Option Nat} (hc : ComO b ns) (d0 : DoneO b ns 0 e) (d1 : DoneO b ns 1 o) (hs : ms.Pairwise (· < ·)) (hm : ∀ k, k ∈ ms ↔ k ∈ ns) : LsOk ms ∧ madeN ms e o = b := by
  have hl : LsOk ms := ⟨fun n hn => by
    have z := hc.2.1 n ((hm n).mp hn)
    exact ⟨z.1, z.2.1⟩, hs⟩
  refine ⟨hl, other_made hb hl d0.1 d1.1 (fun i hi => (hc.2.1 i ((hm i).mp hi)).2.2) (fun i hi => (hm i).mpr (hc.2.2 i hi)) (fun i hi => ?_) (fun i h1 h2 ht => ?_)⟩
  · split at hi
    · rename_i h; exact d0.2.1 i h hi
    · rename_i h; exact d1.2.1 i (by omega) hi
  · split
    · rename_i h
      rcases d0.2.2 i h1 h2 h ht with z | z
      · exact .inl ((hm i).mpr z)
      · exact .inr z
    · rename_i h
      rcases d1.2.2 i h1 h2 (by omega) ht with z | z
      · exact .inl ((hm i).mpr z)
      · exact .inr z
/-- the sizes of a range by twos -/
def twos (s n : Nat) : List Nat := (List.range n).map fun k => s + k * 2
theorem rgC_twos (s n : Nat) : rgC (s : Int) 2 n = natsV (twos s n) := by
  unfold rgC natsV twos
  rw [List.map_map]
  refine List.map_congr_left fun k _ => ?_
  show V.int _ = V.int _
  congr 1
theorem rg_twos {s j : Nat} (h : s ≤ 1000) (hj : j ≤ 1000) : RgC (s : Int) (j : Int) 2 ((j + 1 - s) / 2) := by
  have e : Builtin.Range.rangeSize (s : Int) (j : Int) 2 = (((j + 1 - s) / 2 : Nat) : Int) := by
    unfold Builtin.Range.rangeSize
    rw [if_pos (by decide)]
    split <;> omega
  refine ⟨by decide, by decide, ?_, e⟩
  have fl : ∀ i : Int, -5000 ≤ i → i ≤ 5000 → Builtin.Range.rangeFitsLong i = true := fun i h1 h2 => by
    unfold Builtin.Range.rangeFitsLong
    rw [decide_eq_true (show -(2 ^ 63) ≤ i by omega), decide_eq_true (show i < 2 ^ 63 by omega)]
    rfl
  unfold Builtin.Range.small
  rw [e, fl _ (by omega) (by omega), fl _ (by omega) (by omega), fl _ (by omega) (by omega), fl _ (by omega) (by omega), if_pos (by decide), fl _ (by omega) (by omega)]
  simp
theorem twos_mem {s n k : Nat} : k ∈ twos s n ↔ ∃ i, i < n ∧ k = s + i * 2 := by
  unfold twos
  rw [List.mem_map]
  constructor
  · rintro ⟨i, h, rfl⟩
    exact ⟨i, List.mem_range.mp h, rfl⟩
  · rintro ⟨i, h, rfl⟩
    exact ⟨i, List.mem_range.mpr h, rfl⟩
def upTo (l : List Nat) : List Nat := l.filter fun k => decide (k ≤ 200)
theorem twos_ok {s t d p : Nat} (hs : s % 2 = p) (hst : s ≤ t) (ht : t ≤ 200) (htp : t % 2 = p) : (upTo (twos s ((t + 2 * d + 1 - s) / 2))).Nodup ∧ (∀ k ∈ upTo (twos s ((t + 2 * d + 1 - s) / 2)), s ≤ k ∧ k ≤ 200 ∧ k % 2 = p) ∧ (∀ i, s ≤ i → i < t → i % 2 = p → i ∈ upTo (twos s ((t + 2 * d + 1 - s) / 2))) := by
  refine ⟨?_, fun k hk => ?_, fun i h1 h2 h3 => ?_⟩
  · refine List.Nodup.sublist List.filter_sublist ?_
    unfold twos List.Nodup
    rw [List.pairwise_map]
    exact List.nodup_range.imp fun h e => h (by omega)
  · obtain ⟨h1, h2⟩ := List.mem_filter.mp hk
    obtain ⟨i, h3, rfl⟩ := twos_mem.mp h1
    have h2 := of_decide_eq_true h2
    exact ⟨by omega, h2, by omega⟩
  · refine List.mem_filter.mpr ⟨twos_mem.mpr ⟨(i - s) / 2, by omega, by omega⟩, decide_eq_true (by omega)⟩
theorem twos_len (s n : Nat) : (twos s n).length = n := by unfold twos; rw [List.length_map, List.length_range]
end Sq
namespace Sq
open PySem L2 TL
section
variable {P : Program} {w : World} {K : PySem.W.Frag} {mg : Str → Option Value} {base : Heap}
theorem far_has (b : Nat) {z : Int} (h : 203 ≤ z) : hasV b (.int z) = hasN b (204 - (z % 2).toNat) := by
  show (decide (0 < z) && hasN b z.toNat) = _
  rw [decide_eq_true (by omega)]
  unfold hasN stN
  rw [if_neg (by omega), if_neg (by omega)]
  show b.testBit _ = b.testBit _
  congr 1
  omega
theorem tails_ok0 {b : Nat} (h : ∀ n, tailN b 202 = some n → n ≤ 200) : TlOk 0 (tailN b 202) := fun n e => by
  have h1 := h n e
  unfold tailN at e
  split at e
  · have e := Option.some.inj e
    have d := down_spec b 202 (by decide)
    omega
  · cases e
theorem tails_ok1 {b : Nat} (h : ∀ n, tailN b 201 = some n → n ≤ 199) : TlOk 1 (tailN b 201) := fun n e => by
  have h1 := h n e
  unfold tailN at e
  split at e
  · have e := Option.some.inj e
    have d := down_spec b 201 (by decide)
    omega
  · cases e
theorem ls_listed {b : Nat} (hb : SB b) : LsOk (listedN b) := ⟨fun _ h => listed_each hb h, by unfold listedN; exact List.pairwise_lt_range.sublist List.filter_sublist⟩
theorem made_self {b : Nat} (hb : SB b) (h0 : TlOk 0 (tailN b 202)) (h1 : TlOk 1 (tailN b 201)) : madeN (listedN b) (tailN b 202) (tailN b 201) = b :=
  made_eq hb (ls_listed hb) h0 h1 fun i i1 i2 => (bit_parts i1 i2).symm

theorem gen_S {t : TS} {D : Ends} {σ : L2.St} {H : Hp} (P : L2.St → Hp → Prop) (h : ∀ nx' : L2.St → Hp → Prop, (∀ σ' H', P σ' H' → nx' σ' H') → t { D with nx := nx' } σ H) (k : ∀ σ' H', P σ' H' → D.nx σ' H') : t D σ H := h D.nx k
theorem tail_max {b l p : Nat} (hl : 1 ≤ l) (lp : l % 2 = p) (h : ∀ n, tailN b l = some n → n ≤ 200) : TlOk p (tailN b l) := fun n e => by
  have h1 := h n e
  unfold tailN at e
  split at e
  · have e := Option.some.inj e
    have d := down_spec b l hl
    omega
  · cases e
def dNums (ns : List Nat) : PyData := .list (ns.map fun n => .int (n : Nat))
theorem nums_fits {ns : List Nat} (h : ∀ n ∈ ns, n ≤ 100000) (hl : ns.length ≤ 1000) : (dNums ns).showable = true ∧ (dNums ns).hasDict = false ∧ (dNums ns).depth ≤ 20 ∧ (dNums ns).shown.length ≤ sizeLine := by
  obtain ⟨e1, e2⟩ := nums_b ns
  have f : F0 (dNums ns) := f0_lst fun d hd => by
    obtain ⟨n, hn, rfl⟩ := List.mem_map.mp hd
    have := h n hn
    exact f0_int (by unfold lim40; omega) (by unfold lim40; omega)
  have z := PyData.shown_le_bulk 1921 (by decide) (dNums ns) f.2.1
  have bk : (dNums ns).bulk ≤ 1100 := by
    simp only [dNums, PyData.bulk, e1]
    omega
  refine ⟨f.1, f.2.2, ?_, ?_⟩
  · simp only [dNums, PyData.depth]
    omega
  · rw [sizeLine_eq]
    omega
theorem fsts_each {b n : Nat} (hn : n ≤ 1000) : (∀ k ∈ fstsN b n, k ≤ 100000) ∧ (fstsN b n).length ≤ 1000 := by
  unfold fstsN
  refine ⟨fun k hk => ?_, by rw [List.length_take]; omega⟩
  have := ct_each (List.mem_of_mem_take hk)
  omega
def spSingle (C : Addr) : Sp := fun vs H Q _ => ∃ (p x r : Addr) (b : Nat), vs = [.ref p, .ref x, .ref r] ∧ PurlAt H p ∧ SetAt C H x b ∧ H r = some (.lst (truthsV b)) ∧ SB b ∧ x ≠ p ∧ r ≠ p ∧ ∀ H', PurlAt H' p → Off p H H' → Q (.bl true) H'
abbrev s__law_single : Stmt := top 38
theorem sc__law_single : FnScope ["_law_purl_here", "_law_box", "_law_truths_here", "_law_shape_here", "_law_ends", "_law_end", "_law_many", "_law_far"] ["_law_purl_here", "_law_box", "_law_truths_here"] (defScope s__law_single) := ⟨rfl, rfl, rfl, by decide +kernel, rfl, by decide +kernel, by decide +kernel⟩
theorem ok__law_single {f : Addr} {fd : FuncData} {C tE : Addr} (W0 : ZW P w K mg base C tE) (G__law_dig : FB P w K mg base "_law_dig" 1 ["_law_purl_here", "_law_many"] spDig) (G__law_shape : FB P w K mg base "_law_shape" 2 ["_law_truths_here"] (spShape K)) (G__law_told : FB P w K mg base "_law_told" 10 ["_law_box"] (spTold C)) (G__law_made : FB P w K mg base "_law_made" 6 ["_law_chosen", "_law_tails"] (spMadeZ K C)) (G__law_firsts : FB P w K mg base "_law_firsts" 1 ["_law_truths_here", "_law_many"] (spFirstsL K)) (F : Fun K "_law_single" "_law_single" s__law_single f fd) (B : Binds K fd ["_law_purl_here", "_law_box", "_law_truths_here"] []) (T : Bt mg) (rp : mg "repr" = none) : FnG P w K mg base 12 f (spSingle C) := by
  refine FnG.of F sc__law_single B (fun vs H Q h => ?_) (fun cdv A fr s H vs Q hgd hr h => ?_)
  · obtain ⟨p, x, r, b, rfl, _⟩ := h
    rfl
  · obtain ⟨fQ, hQ1, hQ2, FQ⟩ := W0.y.eq
    obtain ⟨fC, hC1, hC2, FC⟩ := W0.co
    obtain ⟨fG, dG, MG, FG, BG⟩ := W0.asc
    have N := W0.y.x.z.zc
    obtain ⟨p, x, r, b, rfl, hp, hx, hr0, hb, hxp, hrp, q⟩ := h
    obtain ⟨dx, kx⟩ := id hx
    refine ⟨_, (pss_cons (ps_set (i := 3) sc__law_single.nd rfl (by first | exact .inl rfl | exact .inr rfl) (pe_fb G__law_shape hr (by decide) (by rfl) (pa_cons (pv 2) pa_nil)))
        (pss_cons (ps_if (pt_cmpR op_ne (pe_callB (call_repr hgd hr) (by rfl) rp (by decide +kernel) (pa_cons (pe_fb G__law_told hr (by decide) (by rfl) (pa_cons (pv 1) pa_nil)) pa_nil)) (pe_callB (call_repr hgd hr) (by rfl) rp (by decide +kernel) (pa_cons (pv 3) pa_nil)) (nomark _))
        (pss_one (ps_ret pe_bl))
        pss_nil)
        (pss_cons (ps_set (i := 4) sc__law_single.nd rfl (by first | exact .inl rfl | exact .inr rfl) (pe_lst (pa_cons (pe_ix (show IxR _ (rIxL K) from ix_list) (pv 3) pe_int (fun _ _ => rfl)) (pa_cons (pe_ix (show IxR _ (rIxL K) from ix_list) (pv 3) pe_int (fun _ _ => rfl)) pa_nil))))
        (pss_cons (ps_if (pt_cmpR op_le (pe_callB (cr_max (by rfl)) (by rfl) T.max (by decide +kernel) (pa_cons (pe_op op_cat (pe_op op_cat (pe_lst (pa_cons pe_int pa_nil)) (pe_callTy call_list_of (by rfl) T.list (by decide +kernel) (pa_cons (pe_ix (show IxR _ (rIxL K) from ix_list) (pv 3) pe_int (fun _ _ => rfl)) pa_nil))) (pe_lc (own := [("_law_end", 5)]) (g := gName 5) (by rfl) sc__law_single.nd (pi_list (pv 4)) (blkOk_by (own := [("_law_end", 5)]) (N := ["_law_purl_here", "_law_box", "_law_truths_here", "_law_shape_here", "_law_ends", "_law_end", "_law_many", "_law_far"]) (sc := defScope s__law_single) (by decide +kernel))
            (fun _ _ _ _ _ => (pg_name (i := 5) sc__law_single.nd rfl (by first | exact .inl rfl | exact .inr rfl))) (fun _ _ _ _ _ => (pts_one (pt_cmpR op_notN (pv 5) pe_non (nomark _)))) (fun _ _ _ _ _ => (pv 5)))) pa_nil)) pe_int (nomark _))
        (pss_one (ps_if (pt_cmpR (op_neO W0.ne W0.ob hQ1 hQ2 FQ (hr.mono (show 2 ≤ 11 by decide))) (pe_fb G__law_made hr (by decide) (by rfl) (pa_cons (pe_callTy call_list_of (by rfl) T.list (by decide +kernel) (pa_cons (pe_ix (show IxR _ (rIxL K) from ix_list) (pv 3) pe_int (fun _ _ => rfl)) pa_nil)) (pa_cons (pv 4) pa_nil))) (pv 1) (nomark _))
        (pss_one (ps_ret pe_bl))
        pss_nil))
        pss_nil)
        (pss_cons (ps_set (i := 6) sc__law_single.nd rfl (by first | exact .inl rfl | exact .inr rfl) (pe_ix (show IxR _ (rIxL K) from ix_list) (pe_lst (pa_cons pe_int (pa_cons pe_int (pa_cons pe_int (pa_cons (pe_fb G__law_dig hr (by decide) (by rfl) (pa_cons (pv 0) (pa_cons pe_int pa_nil))) (pa_cons pe_int pa_nil)))))) (pe_fb G__law_dig hr (by decide) (by rfl) (pa_cons (pv 0) (pa_cons pe_int pa_nil))) (fun _ _ => rfl)))
        (pss_cons (ps_if (pt_cmpR op_ne (pe_callB (call_repr hgd hr) (by rfl) rp (by decide +kernel) (pa_cons (pe_listG (pgen_meth (pv 1) N.cl MG FG (hr.mono (show 3 ≤ 11 by decide)) BG .nil (pa_cons (pv 6) pa_nil)) passE0 noStop0 (hr.mono (show 6 ≤ 11 by decide)) (by rfl) T.list (by decide +kernel)) pa_nil)) (pe_callB (call_repr hgd hr) (by rfl) rp (by decide +kernel) (pa_cons (pe_fb G__law_firsts hr (by decide) (by rfl) (pa_cons (pv 2) (pa_cons (pv 6) pa_nil))) pa_nil)) (nomark _))
        (pss_one (ps_ret pe_bl))
        pss_nil)
        (pss_cons (ps_set (i := 7) sc__law_single.nd rfl (by first | exact .inl rfl | exact .inr rfl) (pe_op op_add (pe_op op_add pe_int (pe_fb G__law_dig hr (by decide) (by rfl) (pa_cons (pv 0) (pa_cons pe_int pa_nil)))) (pe_op op_mul (pe_fb G__law_dig hr (by decide) (by rfl) (pa_cons (pv 0) (pa_cons pe_int pa_nil))) (pe_op op_pow pe_int pe_int))))
        (pss_one (ps_ret (pe_cmpR op_eq (pe_cmpR (op_inO hC1 hC2 FC (hr.mono (show 2 ≤ 11 by decide)) pass0) (pv 7) (pv 1) (by with_unfolding_all rfl)) (pe_ix (show IxR _ (rIxL K) from ix_list) (pv 2) (pe_op op_sub pe_int (pe_op op_mod (pe_callTy call_int1 (by rfl) T.int (by decide +kernel) (pa_cons (pv 7) pa_nil)) pe_int)) (fun _ _ => rfl)) (nomark _))))))))))), ?_⟩
    refine ⟨_, rfl, r, b, rfl, SqL.of hr0, hb, fun D H1 nD s1 bk => ?_⟩
    obtain ⟨f1, f2, f3, f4⟩ := told_fits b
    refine ⟨_, rfl, x, b, rfl, hx.ext s1, hb.1, fun D2 H2 n2 s2 k2 => ?_⟩
    refine ⟨D2, dTold b, rfl, k2.dp, f1, f2, f3, f4, ?_⟩
    refine ⟨_, rfl, D, dTold b, rfl, (bk.ext s2).dp, f1, f2, f3, f4, rfl, _, rfl, ?_⟩
    rw [decide_eq_true rfl]
    refine iteF ?_
    have w2 := s1.trans s2
    obtain ⟨t, hD2, ht2⟩ := bk.ext s2
    refine ⟨_, rfl, D, _, 1, _, rfl, rfl, SqL.of hD2, rfl, ?_⟩
    refine ⟨_, rfl, D, _, 2, _, rfl, rfl, SqL.of hD2, rfl, ?_⟩
    refine ⟨by show 2 ≤ sizeLine; decide, fun E0a nE => ?_⟩
    have s3 := same_new (o := .lst [natO (tailN b 202), natO (tailN b 201)]) nE
    have w3 := w2.trans s3
    have hE3 : (upd H2 E0a (.lst [natO (tailN b 202), natO (tailN b 201)])) E0a = some (.lst [natO (tailN b 202), natO (tailN b 201)]) := upd_same
    have hD3 := s3 _ _ hD2
    have ht3 := s3 _ _ ht2
    generalize upd H2 E0a (.lst [natO (tailN b 202), natO (tailN b 201)]) = H3 at w3 hE3 hD3 ht3
    show gName 4 (V.ref E0a) _ _ _
    refine nm_seq (gen_S (t := tIfS _ _ _) (fun σ' H' => σ' = [some (.ref p), some (.ref x), some (.ref r), some (.ref D), some (.ref E0a), none, none, none] ∧ Same H3 H') (fun nx' hnx => ?_) ?_)
    · refine ⟨by show 1 ≤ sizeLine; decide, fun c1 n1 => ?_⟩
      have a1 := same_new (o := .lst [V.int 0]) n1
      refine ⟨_, rfl, D, _, 0, _, rfl, rfl, SqL.of (a1 _ _ hD3), rfl, t, _, rfl, .inr (SqT.of (a1 _ _ ht3)), fun c2 n2' => ?_⟩
      have a2 := same_new (o := .lst (natsV (listedN b))) n2'
      refine ⟨c1, c2, _, _, rfl, rfl, a2 _ _ upd_same, upd_same, ?_, fun c3 n3 => ?_⟩
      · unfold natsV
        have := listed_len b
        rw [List.length_map, sizeLine_eq]
        show 1 + (listedN b).length ≤ _
        omega
      have a3 := same_new (o := .lst ([V.int 0] ++ natsV (listedN b))) n3
      have hc3 : (upd (upd (upd H3 c1 (.lst [V.int 0])) c2 (.lst (natsV (listedN b)))) c3 (.lst ([V.int 0] ++ natsV (listedN b)))) c3 = some (.lst ([V.int 0] ++ natsV (listedN b))) := upd_same
      have a13 := (a1.trans a2).trans a3
      generalize upd (upd (upd H3 c1 (.lst [V.int 0])) c2 (.lst (natsV (listedN b)))) c3 (.lst ([V.int 0] ++ natsV (listedN b))) = H4 at a13 hc3
      refine ⟨_, rfl, E0a, rfl, ⟨_, SqL.of (a13 _ _ hE3)⟩, fun M nM => ?_⟩
      refine lc_list (K := K) (a := E0a) (xs := [natO (tailN b 202), natO (tailN b 201)]) (fun j H' => Same H4 H' ∧ H' M = some (.lst (natsV (([tailN b 202, tailN b 201].take j).filterMap id)))) ⟨same_new nM, upd_same⟩ (fun j H' _ h => SqL.of (h.1 _ _ (a13 _ _ hE3))) (fun j y H' hy h => ?_) (fun H5 h => ?_)
      · obtain ⟨sm, hM⟩ := h
        have hy : ([tailN b 202, tailN b 201].map natO)[j]? = some y := hy
        rw [List.getElem?_map] at hy
        cases hn : [tailN b 202, tailN b 201][j]? with
        | none => rw [hn] at hy; cases hy
        | some s =>
          rw [hn] at hy
          cases hy
          refine ⟨rfl, ?_⟩
          refine ⟨_, rfl, rfl, _, rfl, ?_⟩
          have et : ([tailN b 202, tailN b 201].take (j + 1)).filterMap id = ([tailN b 202, tailN b 201].take j).filterMap id ++ s.toList := by
            rw [List.take_add_one, hn, List.filterMap_append]
            cases s <;> rfl
          have ll : (([tailN b 202, tailN b 201].take j).filterMap id).length ≤ 2 := by
            refine Nat.le_trans (List.length_filterMap_le ..) ?_
            rw [List.length_take]
            exact Nat.le_trans (Nat.min_le_right ..) (Nat.le_refl 2)
          cases s with
          | none =>
            refine iteF ?_
            refine ⟨sm, ?_⟩
            rw [et]
            simpa using hM
          | some n =>
            refine iteT ?_
            refine ⟨_, rfl, _, hM, ?_, fun e o ho => ?_, ?_⟩
            · unfold natsV
              rw [List.length_map, sizeLine_eq]
              omega
            · rw [upd_ne (fun e' => by rw [e', nM] at ho; cases ho)]
              exact sm _ _ ho
            · rw [upd_same, et]
              unfold natsV
              rw [List.map_append]
              rfl
      obtain ⟨a5, hM⟩ := h
      have hM : H5 M = some (.lst (natsV ([tailN b 202, tailN b 201].filterMap id))) := hM
      refine ⟨c3, M, _, _, rfl, rfl, a5 _ _ hc3, hM, ?_, fun c6 n6 => ?_⟩
      · have h1 := List.length_filterMap_le id [tailN b 202, tailN b 201]
        have h2 := listed_len b
        have h3 : [tailN b 202, tailN b 201].length = 2 := rfl
        unfold natsV
        rw [List.length_append, List.length_map, List.length_map, sizeLine_eq]
        show 1 + (listedN b).length + _ ≤ _
        omega
      have a6 := same_new (o := .lst (([V.int 0] ++ natsV (listedN b)) ++ natsV ([tailN b 202, tailN b 201].filterMap id))) n6
      have w6 := (a13.trans a5).trans a6
      refine ⟨c6, (0 :: listedN b ++ [tailN b 202, tailN b 201].filterMap id).map fun n => ((n : Nat) : Int), rfl, SqL.of (by rw [upd_same]; unfold natsV; rw [List.map_map, List.map_append]; rfl), by simp, fun m hm hle => ?_⟩
      refine ⟨_, _, rfl, rfl, decide (m ≤ 200), rfl, ?_⟩
      by_cases hm2 : m ≤ 200
      · rw [decide_eq_true hm2]
        refine iteT ?_
        have each : ∀ s ∈ [tailN b 202, tailN b 201], ∀ n, s = some n → n ≤ 200 := by
          intro s hs n e
          have z := hle (n : Int) (List.mem_map.mpr ⟨n, List.mem_append_right _ (List.mem_filterMap.mpr ⟨s, hs, e⟩), rfl⟩)
          omega
        have T0 := tail_max (b := b) (l := 202) (p := 0) (by decide) rfl fun n e => each _ (by simp) n e
        have T1 := tail_max (b := b) (l := 201) (p := 1) (by decide) rfl fun n e => each _ (by simp) n e
        have hD6 := w6 _ _ hD3
        refine ⟨_, rfl, D, _, 0, _, rfl, rfl, SqL.of hD6, rfl, t, _, rfl, .inr (SqT.of (w6 _ _ ht3)), fun c7 n7 => ?_⟩
        have a7 := same_new (o := .lst (natsV (listedN b))) n7
        refine ⟨_, rfl, c7, E0a, listedN b, _, _, rfl, ⟨SqL.of upd_same, SqL.of (a7 _ _ (w6 _ _ hE3)), ls_listed hb, T0, T1⟩, fun y H8 ny a8 hy => ?_⟩
        rw [made_self hb T0 T1] at hy
        obtain ⟨dy, ky⟩ := id hy
        have w8 := (w6.trans a7).trans a8
        have v8 := w3.trans w8
        refine ⟨_, rfl, y, x, dy, dx, _, _, rfl, rfl, ky, v8 _ _ kx, y, x, b, b, rfl, hy, hx.ext v8, _, rfl, _, rfl, ?_⟩
        rw [decide_eq_true (rfl : b = b)]
        refine iteF ?_
        exact hnx _ _ ⟨rfl, w8⟩
      · rw [decide_eq_false hm2]
        refine iteF ?_
        exact hnx _ _ ⟨rfl, w6⟩
    rintro σ' H4 ⟨rfl, s4⟩
    have w4 := w3.trans s4
    have hp4 := hp.same w4
    refine ⟨_, rfl, p, 60, rfl, hp4, by decide, by decide, fun u H5 u0 u1 hp5 o5 => ?_⟩
    refine ⟨by show 5 ≤ sizeLine; decide, fun l nl => ?_⟩
    have s6 := same_new (o := .lst [V.int 0, .int 1, .int 2, .int u, .int 7]) nl
    have hlp : l ≠ p := purl_neQ nl hp5
    have hl6 : (upd H5 l (.lst [V.int 0, .int 1, .int 2, .int u, .int 7])) l = some (.lst [V.int 0, .int 1, .int 2, .int u, .int 7]) := upd_same
    generalize upd H5 l (.lst [V.int 0, .int 1, .int 2, .int u, .int 7]) = H6 at s6 hl6
    refine ⟨_, rfl, p, 5, rfl, hp5.same s6, by decide, by decide, fun v H7 v0 v1 hp7 o7 => ?_⟩
    have hk : ∃ k : Nat, atI [V.int 0, .int 1, .int 2, .int u, .int 7] v = some (.int (k : Nat)) ∧ k ≤ 60 := by
      rcases (show v = 0 ∨ v = 1 ∨ v = 2 ∨ v = 3 ∨ v = 4 by omega) with h | h | h | h | h <;> subst h
      · exact ⟨0, rfl, by decide⟩
      · exact ⟨1, rfl, by decide⟩
      · exact ⟨2, rfl, by decide⟩
      · exact ⟨u.toNat, by rw [Int.toNat_of_nonneg u0]; rfl, by omega⟩
      · exact ⟨7, rfl, by decide⟩
    obtain ⟨k, ek, k60⟩ := hk
    refine ⟨l, _, v, _, rfl, rfl, SqL.of (o7 _ _ hlp hl6), ek, ?_⟩
    have o47 : Off p H H7 := (Same.off w4).trans ((o5.trans (Same.off s6)).trans o7)
    have hx7 : SetAt C H7 x b := ⟨dx, o47 _ _ hxp kx⟩
    have kx7 := o47 _ _ hxp kx
    have hr7 := o47 _ _ hrp hr0
    obtain ⟨g1, g2⟩ := fsts_each (b := b) (n := k) (by omega)
    obtain ⟨m1, m2, m3, m4⟩ := nums_fits g1 g2
    refine ⟨_, rfl, x, dx, _, rfl, kx7, zfl_noA b, _, rfl, x, b, k, rfl, hx7, hb, by omega, fun P8 n8 => ?_⟩
    have s8 := same_new (o := .lst (natsV (fstsN b k))) n8
    refine ⟨P8, dNums (fstsN b k), rfl, .lst (SqL.of upd_same) (dp_nats _), m1, m2, m3, m4, ?_⟩
    refine ⟨_, rfl, _, rfl, r, b, k, rfl, SqL.of (s8 _ _ hr7), by omega, fun D9 H9 n9 s9 h9 => ?_⟩
    refine ⟨D9, dNums (fstsN b k), rfl, .lst (SqL.of h9) (dp_nats _), m1, m2, m3, m4, rfl, _, rfl, ?_⟩
    rw [decide_eq_true rfl]
    refine iteF ?_
    have s79 := s8.trans s9
    have hp9 := hp7.same s79
    refine ⟨_, rfl, p, 2, rfl, hp9, by decide, by decide, fun a H10 a0 a1 hp10 o10 => ?_⟩
    refine ⟨_, _, rfl, rfl, ?_⟩
    refine ⟨_, rfl, p, 1000003, rfl, hp10, by decide, by decide, fun c H11 c0 c1 hp11 o11 => ?_⟩
    refine ⟨_, _, rfl, rfl, ⟨by decide, by decide, by decide⟩, ?_⟩
    refine ⟨_, _, rfl, rfl, .inl ⟨by omega, by omega⟩, ?_⟩
    refine ⟨_, _, rfl, rfl, ?_⟩
    have o11' : Off p H H11 := o47.trans ((Same.off s79).trans (o10.trans o11))
    have hz : 203 ≤ 205 + a + c * 10 ^ (20 : Int).toNat := by
      have : 0 ≤ c * 10 ^ (20 : Int).toNat := Int.mul_nonneg c0 (by decide)
      omega
    have kx11 := o11' _ _ hxp kx
    have hx11 : SetAt C H11 x b := ⟨dx, kx11⟩
    have hr11 := o11' _ _ hrp hr0
    show gName 7 (V.int (205 + a + c * 10 ^ (20 : Int).toNat)) _ _ _
    generalize 205 + a + c * 10 ^ (20 : Int).toNat = z at hz ⊢
    refine ⟨_, rfl, _, rfl, x, dx, _, rfl, kx11, x, .int z, b, rfl, hx11, pl_int _, _, rfl, ?_⟩
    refine ⟨_, rfl, _, rfl, .inl ⟨z, rfl, _, _, rfl, rfl, (by show (0 : Int) < 2; decide), _, _, rfl, rfl, r, _, ((203 - (z % 2).toNat : Nat) : Int), _, rfl, congrArg V.int (by omega), SqL.of hr11, tr_at (by omega), rfl, ?_⟩⟩
    rw [far_has b hz, show 203 - (z % 2).toNat + 1 = 204 - (z % 2).toNat by omega]
    rw [show decide (V.bl (id (hasN b (204 - (z % 2).toNat))) = V.bl (hasN b (204 - (z % 2).toNat))) = true from decide_eq_true rfl]
    exact q _ hp11 o11'
end
end Sq
namespace Sq
open PySem L2 TL
section
variable {P : Program} {w : World} {K : PySem.W.Frag} {mg : Str → Option Value} {base : Heap}
theorem atI_wrap {l : List V} {i d : Nat} (hl : l.length = 10) (hi : i < 10) (hd : d < 10) : atI l ((i : Int) - (d : Int)) = l[(i + 10 - d) % 10]? := by
  unfold atI ixN
  rw [hl]
  by_cases h : d ≤ i
  · rw [if_pos (by omega), if_pos (by omega)]
    show l[((i : Int) - d).toNat]? = _
    congr 1
    omega
  · rw [if_neg (by omega), if_pos (by omega)]
    show l[((i : Int) - d + (10 : Nat)).toNat]? = _
    congr 1
    omega
theorem eqv_rows {b d : Nat} (hb : SB b) (hd : SB d) : PyData.eqv (.list ((truthsB b).map .bool)) (.list ((truthsB d).map .bool)) = decide (b = d) := by
  show PyData.eqvAll _ _ = _
  rw [eqv_bools]
  by_cases h : b = d
  · subst h; rw [decide_eq_true rfl, decide_eq_true rfl]
  · rw [decide_eq_false h, decide_eq_false (fun z => h (truths_eq hb hd z))]
def spRight46 : Sp := fun vs H Q _ => ∃ p : Addr, vs = [.ref p] ∧ PurlAt H p ∧ ∀ H', Off p H H' → Q (.bl true) H'
abbrev s__law_right : Stmt := top 39
theorem sc__law_right : FnScope ["_law_purl_here", "_law_boxes", "_law_rows", "_law_k", "_law_chosen", "_law_tails", "_law_rest", "_law_many"] ["_law_purl_here"] (defScope s__law_right) := ⟨rfl, rfl, rfl, by decide +kernel, rfl, by decide +kernel, by decide +kernel⟩
theorem ok__law_right {f : Addr} {fd : FuncData} {C tE : Addr} (W0 : ZW P w K mg base C tE) (G__law_dig : FB P w K mg base "_law_dig" 1 ["_law_purl_here", "_law_many"] spDig) (G__law_listed : FB P w K mg base "_law_listed" 2 ["_law_purl_here"] spListedL) (G__law_tail : FB P w K mg base "_law_tail" 2 ["_law_purl_here", "_law_chosen", "_law_rest"] (spTailL K)) (G__law_made : FB P w K mg base "_law_made" 6 ["_law_chosen", "_law_tails"] (spMadeZ K C)) (G__law_truths : FB P w K mg base "_law_truths" 2 ["_law_chosen", "_law_tails"] (spTruths K)) (G__law_step : FB P w K mg base "_law_step" 8 ["_law_purl_here", "_law_boxes", "_law_rows"] (spStep K C)) (G__law_laws : FB P w K mg base "_law_laws" 8 ["_law_one", "_law_two"] (spLaws C)) (G__law_firsts : FB P w K mg base "_law_firsts" 1 ["_law_truths_here", "_law_many"] (spFirstsL K)) (G__law_single : FBG P w K mg base "_law_single" 12 (spSingle C)) (F : Fun K "_law_right" "_law_right" s__law_right f fd) (B : Binds K fd ["_law_purl_here"] []) (T : Bt mg) (rp : mg "repr" = none) : FnG P w K mg base 14 f spRight46 := by
  refine FnG.of F sc__law_right B (fun vs H Q h => ?_) (fun cdv A fr s H vs Q hgd hr h => ?_)
  · obtain ⟨p, rfl, _⟩ := h
    rfl
  · obtain ⟨fQ, hQ1, hQ2, FQ⟩ := W0.y.eq
    obtain ⟨fC, hC1, hC2, FC⟩ := W0.co
    obtain ⟨fG, dG, MG, FG, BG⟩ := W0.asc
    have N := W0.y.x.z.zc
    obtain ⟨p, rfl, hp, q⟩ := h
    refine ⟨_, (pss_cons (ps_par (i := 1) (j := 2) (by rfl) sc__law_right.nd rfl rfl (by decide) rfl rfl (pa_cons (pe_lst pa_nil) (pa_cons (pe_lst pa_nil) pa_nil)) (by rfl))
        (pss_cons (ps_for PassesOwn.never rfl (pi_range1 (by rfl) T.range (pa_cons pe_int pa_nil)) (pg_name (i := 3) sc__law_right.nd rfl (by first | exact .inl rfl | exact .inr rfl))
        (pss_cons (ps_set (i := 4) sc__law_right.nd rfl (by first | exact .inl rfl | exact .inr rfl) (pe_fb G__law_listed hr (by decide) (by rfl) (pa_cons (pv 0) pa_nil)))
        (pss_cons (ps_setLc (i := 5) (own := [("_law_rest", 6)]) (g := gName 6) (by rfl) sc__law_right.nd rfl rfl (by rfl) (pi_range1 (by rfl) T.range (pa_cons pe_int pa_nil)) (blkOk_by (own := [("_law_rest", 6)]) (N := ["_law_purl_here", "_law_boxes", "_law_rows", "_law_k", "_law_chosen", "_law_tails", "_law_rest", "_law_many"]) (sc := defScope s__law_right) (by decide +kernel))
            (fun _ _ _ _ _ => (pg_name (i := 6) sc__law_right.nd rfl (by first | exact .inl rfl | exact .inr rfl))) (fun _ _ _ _ _ => pts_nil) (fun _ _ _ _ _ => (pe_fb G__law_tail hr (by decide) (by rfl) (pa_cons (pv 0) (pa_cons (pv 4) (pa_cons (pv 6) pa_nil))))))
        (pss_cons (ps_expr (pe_bm PySem.F.plainAttrs_list PySem.F.slot_list_append PySem.F.type_list_append mt_append (pv 1) (pa_cons (pe_fb G__law_made hr (by decide) (by rfl) (pa_cons (pv 4) (pa_cons (pv 5) pa_nil))) pa_nil)))
        (pss_one (ps_expr (pe_bm PySem.F.plainAttrs_list PySem.F.slot_list_append PySem.F.type_list_append mt_append (pv 2) (pa_cons (pe_fb G__law_truths hr (by decide) (by rfl) (pa_cons (pv 4) (pa_cons (pv 5) pa_nil))) pa_nil))))))))
        (pss_cons (ps_for PassesOwn.never rfl (pi_range1 (by rfl) T.range (pa_cons pe_int pa_nil)) (pg_name (i := 3) sc__law_right.nd rfl (by first | exact .inl rfl | exact .inr rfl))
        (pss_one (ps_expr (pe_fb G__law_step hr (by decide) (by rfl) (pa_cons (pv 0) (pa_cons (pv 1) (pa_cons (pv 2) pa_nil)))))))
        (pss_cons (ps_for PassesOwn.never rfl (pi_range1 (by rfl) T.range (pa_cons pe_int pa_nil)) (pg_name (i := 3) sc__law_right.nd rfl (by first | exact .inl rfl | exact .inr rfl))
        (pss_cons (ps_if (PW.pt (pw_or (pt_not (pt_val (pe_fbG G__law_single hgd hr (by decide) (by rfl) (pa_cons (pv 0) (pa_cons (pe_ix (show IxR _ (rIxL K) from ix_list) (pv 1) (pv 3) (fun _ _ => rfl)) (pa_cons (pe_ix (show IxR _ (rIxL K) from ix_list) (pv 2) (pv 3) (fun _ _ => rfl)) pa_nil)))))) (pw_or1 (pt_not (pt_val (pe_fb G__law_laws hr (by decide) (by rfl) (pa_cons (pe_ix (show IxR _ (rIxL K) from ix_list) (pv 1) (pv 3) (fun _ _ => rfl)) (pa_cons (pe_ix (show IxR _ (rIxL K) from ix_list) (pv 1) (pe_op op_sub (pv 3) pe_int) (fun _ _ => rfl)) pa_nil))))))))
        (pss_one (ps_ret pe_bl))
        pss_nil)
        (pss_one (ps_if (pt_cmpR op_ne (pe_cmpR (op_eqO hQ1 hQ2 FQ (hr.mono (show 1 ≤ 13 by decide))) (pe_ix (show IxR _ (rIxL K) from ix_list) (pv 1) (pv 3) (fun _ _ => rfl)) (pe_ix (show IxR _ (rIxL K) from ix_list) (pv 1) (pe_op op_sub (pv 3) pe_int) (fun _ _ => rfl)) (nomark _)) (pe_cmpR (op_eqD hr.units) (pe_ix (show IxR _ (rIxL K) from ix_list) (pv 2) (pv 3) (fun _ _ => rfl)) (pe_ix (show IxR _ (rIxL K) from ix_list) (pv 2) (pe_op op_sub (pv 3) pe_int) (fun _ _ => rfl)) (nomark _)) (nomark _))
        (pss_one (ps_ret pe_bl))
        pss_nil))))
        (pss_cons (ps_set (i := 7) sc__law_right.nd rfl (by first | exact .inl rfl | exact .inr rfl) (pe_op op_sub pe_int (pe_op op_mul (pe_fb G__law_dig hr (by decide) (by rfl) (pa_cons (pv 0) (pa_cons pe_int pa_nil))) (pe_fb G__law_dig hr (by decide) (by rfl) (pa_cons (pv 0) (pa_cons pe_int pa_nil))))))
        (pss_one (ps_ret (pe_cmpR op_eq (pe_callB (call_repr hgd hr) (by rfl) rp (by decide +kernel) (pa_cons (pe_listG (pgen_meth (pe_ix (show IxR _ (rIxL K) from ix_list) (pv 1) pe_int (fun _ _ => rfl)) N.cl MG FG (hr.mono (show 3 ≤ 13 by decide)) BG .nil (pa_cons (pv 7) pa_nil)) passE0 noStop0 (hr.mono (show 6 ≤ 13 by decide)) (by rfl) T.list (by decide +kernel)) pa_nil)) (pe_callB (call_repr hgd hr) (by rfl) rp (by decide +kernel) (pa_cons (pe_fb G__law_firsts hr (by decide) (by rfl) (pa_cons (pe_ix (show IxR _ (rIxL K) from ix_list) (pv 2) pe_int (fun _ _ => rfl)) (pa_cons (pv 7) pa_nil))) pa_nil)) (nomark _))))))))), ?_⟩
    have two : 10 ≤ sizeLine := by decide
    refine ⟨Nat.zero_le _, fun Bx nB => ?_⟩
    have s1 : Same H (upd H Bx (.lst [])) := same_new nB
    refine ⟨Nat.zero_le _, fun R nR => ?_⟩
    have s2 := same_new (o := .lst []) nR
    refine ⟨_, _, rfl, ?_⟩
    have hBp : Bx ≠ p := purl_ne nB hp
    have hRp : R ≠ p := purl_ne nR (hp.same s1)
    have hBR : Bx ≠ R := fun e => by rw [← e, upd_same] at nR; cases nR
    refine ⟨3, rfl, by decide, by decide, ?_⟩
    refine for_range (n := 3) (fun i σ H' => ∃ (v3 v4 v5 : Option V) (xs rs : List Addr) (bs : List Nat), σ = [some (.ref p), some (.ref Bx), some (.ref R), v3, v4, v5, none, none] ∧ PurlAt H' p ∧ BoxAt C H' p Bx R xs rs bs ∧ bs.length = i ∧ Off p H H')
      ⟨none, none, none, [], [], [], rfl, hp.same (s1.trans s2), ⟨by rw [upd_ne hBR]; exact upd_same, upd_same, hBp, hRp, hBR, rfl, rfl, (fun i b x r e _ _ => by cases e)⟩, rfl, Same.off (s1.trans s2)⟩ (fun i σ H' hi h => ?_) (fun σ H' h => ?_)
    · obtain ⟨v3, v4, v5, xs, rs, bs, rfl, hp', bx, hl, oH⟩ := h
      refine ⟨_, rfl, p, rfl, hp', fun D ns H1 nD hp1 o1 hD hls => ?_⟩
      have hDp : D ≠ p := purl_ne nD hp'
      have bx1 := bx.off o1
      have hDB : D ≠ Bx := ne_of_none nD bx.hB
      refine ⟨2, rfl, by decide, by decide, fun T0 nT => ?_⟩
      have hTp : T0 ≠ p := purl_ne nT hp1
      have hTB : T0 ≠ Bx := ne_of_none nT bx1.hB
      have sT : Same H1 (upd H1 T0 (.lst [])) := same_new nT
      refine lc_range (lo := 0) (n := 2) (fun j H2 => PurlAt H2 p ∧ Off p H1 H2 ∧ ∃ ss : List (Option Nat), ss.length = j ∧ (∀ (i : Nat) s, ss[i]? = some s → TlOk i s) ∧ H2 T0 = some (.lst (ss.map natO)))
        ⟨hp1.same sT, Same.off sT, [], rfl, (fun i s e => by cases e), upd_same⟩ (fun j H2 hj h => ?_) (fun H2 h => ?_)
      · obtain ⟨hp2, o2, ss, hss, hok, hT⟩ := h
        have en : ((0 : Int) + (j : Nat)) = (j : Nat) := by omega
        rw [en]
        refine ⟨rfl, ?_⟩
        refine ⟨_, rfl, _, rfl, _, rfl, p, D, ns, j, rfl, hp2, o2 _ _ hDp hD, hDp, hls, hj, fun s0 H3 hp3 o3 ht => ?_⟩
        have hT3 := o3 _ _ hTp hT
        refine ⟨_, hT3, by rw [List.length_map]; omega, ?_, fun c y hc z => ?_, ss ++ [s0], by simp [hss], fun i' s' e => ?_, ?_⟩
        · obtain ⟨m, d, z⟩ := hp3
          exact ⟨m, d, by rw [upd_ne (Ne.symm hTp)]; exact z⟩
        · rw [upd_ne (ne_of_none nT z).symm]
          exact (o2.trans o3) c y hc z
        · rcases snoc_at e with ⟨_, e⟩ | ⟨l1, rfl⟩
          · exact hok i' s' e
          · rw [l1, hss]; exact ht
        · rw [upd_same, List.map_append]
          rfl
      obtain ⟨hp2, o2, ss, hss, hok, hT⟩ := h
      match ss, hss, hok, hT with
      | [s0, s1'], _, hok, hT =>
        have t0 : TlOk 0 s0 := hok 0 s0 rfl
        have t1 : TlOk 1 s1' := hok 1 s1' rfl
        have bx2 := bx1.off o2
        have hD2 := o2 _ _ hDp hD
        have desc : DescAt K H2 D T0 ns s0 s1' := ⟨SqL.of hD2, SqL.of hT, hls, t0, t1⟩
        refine ⟨_, rfl, .inl ⟨rfl, _, SqL.of bx2.hB⟩, _, rfl, _, rfl, D, T0, ns, s0, s1', rfl, desc, fun x H3 nx s3 kx => ?_⟩
        have hxp : x ≠ p := purl_ne nx hp2
        have hxB : x ≠ Bx := ne_of_none nx bx2.hB
        have hxR : x ≠ R := ne_of_none nx bx2.hR
        refine ⟨Bx, _, _, rfl, rfl, s3 _ _ bx2.hB, by rw [List.length_map, bx2.lx]; omega, ?_⟩
        have hR3 : (upd H3 Bx (.lst (xs.map V.ref ++ [V.ref x]))) R = some (.lst (rs.map V.ref)) := by rw [upd_ne hBR.symm]; exact s3 _ _ bx2.hR
        have hB3 : (upd H3 Bx (.lst (xs.map V.ref ++ [V.ref x]))) Bx = some (.lst (xs.map V.ref ++ [V.ref x])) := upd_same
        have desc3 : DescAt K (upd H3 Bx (.lst (xs.map V.ref ++ [V.ref x]))) D T0 ns s0 s1' := ⟨SqL.of (by rw [upd_ne hDB]; exact s3 _ _ hD2), SqL.of (by rw [upd_ne hTB]; exact s3 _ _ hT), hls, t0, t1⟩
        have hp3 : PurlAt (upd H3 Bx (.lst (xs.map V.ref ++ [V.ref x]))) p := by
          obtain ⟨m, d, z⟩ := hp2
          exact ⟨m, d, by rw [upd_ne hBp.symm]; exact s3 _ _ z⟩
        refine ⟨_, rfl, .inl ⟨rfl, _, SqL.of hR3⟩, _, rfl, _, rfl, D, T0, ns, s0, s1', rfl, desc3, fun r H4 nr s4 kr => ?_⟩
        have hrp : r ≠ p := purl_ne nr hp3
        have hrB : r ≠ Bx := ne_of_none nr hB3
        have hrR : r ≠ R := ne_of_none nr hR3
        refine ⟨R, _, _, rfl, rfl, s4 _ _ hR3, by rw [List.length_map, bx2.lr]; omega, ?_⟩
        refine ⟨_, _, _, xs ++ [x], rs ++ [r], bs ++ [madeN ns s0 s1'], rfl, ?_, ?_, by simp [hl], fun c y hc hy => ?_⟩
        · obtain ⟨m, d, z⟩ := hp3
          exact ⟨m, d, by rw [upd_ne hRp.symm]; exact s4 _ _ z⟩
        · obtain ⟨dx, kx⟩ := kx
          refine bx2.snoc (fun c y c1 c2 c3 hc => ?_) ?_ upd_same (made_sb hls t0 t1) ⟨dx, ?_⟩ ?_ hxp hrp hxB hxR hrB hrR
          · rw [upd_ne c3]
            refine s4 _ _ ?_
            rw [upd_ne c2]
            exact s3 _ _ hc
          · rw [upd_ne hBR]; exact s4 _ _ hB3
          · rw [upd_ne hxR]
            refine s4 _ _ ?_
            rw [upd_ne hxB]
            exact kx
          · rw [upd_ne hrR]; exact kr
        · have nRH : H R = none := by
            cases z : H R with
            | none => rfl
            | some y => rw [s1 _ _ z] at nR; cases nR
          rw [upd_ne (ne_of_none nRH hy).symm]
          refine s4 _ _ ?_
          rw [upd_ne (ne_of_none nB hy).symm]
          exact s3 _ _ (o2 _ _ hc (o1 _ _ hc (oH _ _ hc hy)))
    obtain ⟨v3, v4, v5, xs, rs, bs, rfl, hp', bx, hl, oH⟩ := h
    refine ⟨7, rfl, by decide, by decide, ?_⟩
    refine for_range (n := 7) (fun i σ H' => ∃ (v3 : Option V) (xs rs : List Addr) (bs : List Nat), σ = [some (.ref p), some (.ref Bx), some (.ref R), v3, v4, v5, none, none] ∧ PurlAt H' p ∧ BoxAt C H' p Bx R xs rs bs ∧ bs.length = 3 + i ∧ Off p H H')
      ⟨v3, xs, rs, bs, rfl, hp', bx, by omega, oH⟩ (fun i σ H' hi h => ?_) (fun σ H' h => ?_)
    · obtain ⟨v3, xs, rs, bs, rfl, hp', bx, hl, oH⟩ := h
      refine ⟨_, rfl, _, rfl, _, rfl, p, Bx, R, xs, rs, bs, rfl, hp', bx, by omega, by omega, fun x r b' H2 hp2 bx2 keep => ?_⟩
      refine ⟨_, _, _, _, rfl, hp2, bx2, by rw [List.length_append, List.length_singleton]; omega, fun c y hc hy => ?_⟩
      have nRH : H R = none := by
        cases z : H R with
        | none => rfl
        | some y => rw [s1 _ _ z] at nR; cases nR
      exact keep _ _ hc (ne_of_none nB hy).symm (ne_of_none nRH hy).symm (oH _ _ hc hy)
    obtain ⟨v3, xs, rs, bs, rfl, hp', bx, hl, oH⟩ := h
    have hl10 : bs.length = 10 := hl
    have lx10 : (xs.map V.ref).length = 10 := by rw [List.length_map, bx.lx, hl10]
    have lr10 : (rs.map V.ref).length = 10 := by rw [List.length_map, bx.lr, hl10]
    have get : ∀ i : Nat, i < 10 → ∃ (x r : Addr) (b : Nat), (xs.map V.ref)[i]? = some (.ref x) ∧ (rs.map V.ref)[i]? = some (.ref r) ∧ SB b ∧ SetAt C H' x b ∧ H' r = some (.lst (truthsV b)) ∧ x ≠ p ∧ r ≠ p := by
      intro i hi
      have h1 : i < xs.length := by have := bx.lx; omega
      have h2 : i < rs.length := by have := bx.lr; omega
      have h3 : i < bs.length := by omega
      obtain ⟨a1, a2, a3, a4, a5, _⟩ := bx.each i bs[i] xs[i] rs[i] (List.getElem?_eq_getElem h3) (List.getElem?_eq_getElem h1) (List.getElem?_eq_getElem h2)
      exact ⟨xs[i], rs[i], bs[i], by rw [List.getElem?_map, List.getElem?_eq_getElem h1]; rfl, by rw [List.getElem?_map, List.getElem?_eq_getElem h2]; rfl, a1, a2, a3, a4, a5⟩
    refine ⟨10, rfl, by decide, by decide, ?_⟩
    refine for_range (n := 10) (fun i σ H2 => ∃ (v3 : Option V), σ = [some (.ref p), some (.ref Bx), some (.ref R), v3, v4, v5, none, none] ∧ PurlAt H2 p ∧ Off p H' H2) ⟨_, rfl, hp', Off.refl⟩ (fun i σ H2 hi h => ?_) (fun σ H2 h => ?_)
    · obtain ⟨v3', rfl, hp2, o2⟩ := h
      have en : ((0 : Int) + (i : Nat)) = (i : Nat) := by omega
      rw [en]
      obtain ⟨x, r, b, ex, er, hb, hx, hr1, xp, rp1⟩ := get i hi
      obtain ⟨y, r2, d, ey, er2, hd, hy, hr2, yp, rp2⟩ := get ((i + 10 - 1) % 10) (Nat.mod_lt _ (by decide))
      obtain ⟨y3, r3, d3, ey3, er3, hd3, hy3, hr3, yp3, rp3⟩ := get ((i + 10 - 3) % 10) (Nat.mod_lt _ (by decide))
      have aty : atI (xs.map V.ref) ((i : Int) - 1) = some (.ref y) := (atI_wrap (d := 1) lx10 hi (by decide)).trans ey
      have atr : atI (rs.map V.ref) ((i : Int) - 1) = some (.ref r2) := (atI_wrap (d := 1) lr10 hi (by decide)).trans er2
      have aty3 : atI (xs.map V.ref) ((i : Int) - 3) = some (.ref y3) := (atI_wrap (d := 3) lx10 hi (by decide)).trans ey3
      obtain ⟨dx, kx⟩ := id hx
      obtain ⟨dy, ky⟩ := id hy
      obtain ⟨dy3, ky3⟩ := id hy3
      have bx2 := bx.off o2
      refine ⟨_, rfl, _, rfl, _, rfl, Bx, _, _, _, rfl, rfl, SqL.of bx2.hB, atI_nat ex, ?_⟩
      refine ⟨_, rfl, _, rfl, R, _, _, _, rfl, rfl, SqL.of bx2.hR, atI_nat er, ?_⟩
      refine ⟨p, x, r, b, rfl, hp2, ⟨dx, o2 _ _ xp kx⟩, o2 _ _ rp1 hr1, hb, xp, rp1, fun H3 hp3 o3 => ⟨_, rfl, ?_⟩⟩
      refine iteF ?_
      have bx3 := bx2.off o3
      have o23 := o2.trans o3
      refine ⟨_, rfl, _, rfl, Bx, _, _, _, rfl, rfl, SqL.of bx3.hB, atI_nat ex, ?_⟩
      refine ⟨_, rfl, _, rfl, _, _, rfl, rfl, Bx, _, _, _, rfl, rfl, SqL.of bx3.hB, aty3, ?_⟩
      refine ⟨x, y3, b, d3, rfl, ⟨dx, o23 _ _ xp kx⟩, ⟨dy3, o23 _ _ yp3 ky3⟩, hb, hd3, fun H4 s4 => ⟨_, rfl, ?_⟩⟩
      refine iteF ?_
      have bx4 := bx3.off (Same.off s4)
      have o24 := o23.trans (Same.off s4)
      refine ⟨_, rfl, _, rfl, Bx, _, _, _, rfl, rfl, SqL.of bx4.hB, atI_nat ex, ?_⟩
      refine ⟨_, rfl, _, rfl, _, _, rfl, rfl, Bx, _, _, _, rfl, rfl, SqL.of bx4.hB, aty, ?_⟩
      refine ⟨x, y, dx, dy, _, _, rfl, rfl, o24 _ _ xp kx, o24 _ _ yp ky, x, y, b, d, rfl, ⟨dx, o24 _ _ xp kx⟩, ⟨dy, o24 _ _ yp ky⟩, _, rfl, ?_⟩
      refine ⟨_, rfl, _, rfl, R, _, _, _, rfl, rfl, SqL.of bx4.hR, atI_nat er, ?_⟩
      refine ⟨_, rfl, _, rfl, _, _, rfl, rfl, R, _, _, _, rfl, rfl, SqL.of bx4.hR, atr, ?_⟩
      refine ⟨.list ((truthsB b).map .bool), .list ((truthsB d).map .bool), .lst (SqL.of (o24 _ _ rp1 hr1)) (dp_bools _), .lst (SqL.of (o24 _ _ rp2 hr2)) (dp_bools _), shaped_bools _, shaped_bools _, rfl, ?_⟩
      rw [eqv_rows hb hd]
      refine ⟨_, rfl, ?_⟩
      rw [show (!decide (V.bl (id (decide (b = d))) = V.bl (decide (b = d)))) = false by rw [show id (decide (b = d)) = decide (b = d) from rfl, decide_eq_true rfl]; rfl]
      refine iteF ?_
      exact ⟨_, rfl, hp3.same s4, o24⟩
    obtain ⟨v3', rfl, hp2, o2⟩ := h
    have bx2 := bx.off o2
    obtain ⟨x, r, b, ex, er, hb, hx, hr1, xp, rp1⟩ := get 9 (by decide)
    obtain ⟨dx, kx⟩ := id hx
    refine ⟨_, rfl, p, 2, rfl, hp2, by decide, by decide, fun u H3 u0 u1 hp3 o3 => ?_⟩
    refine ⟨_, rfl, p, 900, rfl, hp3, by decide, by decide, fun v H4 v0 v1 hp4 o4 => ?_⟩
    refine ⟨_, _, rfl, rfl, .inl ⟨by omega, by omega⟩, _, _, rfl, rfl, ?_⟩
    have em : ∃ k : Nat, (1000 : Int) - u * v = (k : Nat) ∧ k ≤ 1000 := by
      rcases (show u = 0 ∨ u = 1 by omega) with e | e <;> subst e
      · exact ⟨1000, by omega, by decide⟩
      · exact ⟨(1000 - v).toNat, by omega, by omega⟩
    obtain ⟨k, ek, k1⟩ := em
    show gName 7 (V.int (1000 - u * v)) _ _ _
    rw [ek]
    have o24 := (o2.trans o3).trans o4
    have bx4 := bx.off o24
    obtain ⟨g1, g2⟩ := fsts_each (b := b) (n := k) k1
    obtain ⟨m1, m2, m3, m4⟩ := nums_fits g1 g2
    refine ⟨_, rfl, Bx, _, 9, _, rfl, rfl, SqL.of bx4.hB, atI_nat (j := 9) ex, x, dx, _, rfl, o24 _ _ xp kx, zfl_noA b, _, rfl, x, b, k, rfl, ⟨dx, o24 _ _ xp kx⟩, hb, k1, fun P8 n8 => ?_⟩
    have s8 := same_new (o := .lst (natsV (fstsN b k))) n8
    refine ⟨P8, dNums (fstsN b k), rfl, .lst (SqL.of upd_same) (dp_nats _), m1, m2, m3, m4, ?_⟩
    refine ⟨_, rfl, R, _, 9, _, rfl, rfl, SqL.of (s8 _ _ bx4.hR), atI_nat (j := 9) er, _, rfl, r, b, k, rfl, SqL.of (s8 _ _ (o24 _ _ rp1 hr1)), k1, fun D9 H9 n9 s9 h9 => ?_⟩
    refine ⟨D9, dNums (fstsN b k), rfl, .lst (SqL.of h9) (dp_nats _), m1, m2, m3, m4, rfl, ?_⟩
    rw [decide_eq_true rfl]
    exact q _ (oH.trans (o24.trans (Same.off (s8.trans s9))))
abbrev s_law : Stmt := top 40
theorem sc_law : FnScope ["_law_script", "_law_spot"] ["_law_script"] (defScope s_law) := ⟨rfl, rfl, rfl, by decide +kernel, rfl, by decide +kernel, by decide +kernel⟩
theorem ok_law {f : Addr} {fd : FuncData} (G__law_purl : FB P w K mg base "_law_purl" 1 ["_law_script", "_law_spot"] (spPurl K)) (G__law_right : FBG P w K mg base "_law_right" 14 spRight46) (F : Fun K "law" "law" s_law f fd) (B : Binds K fd ["_law_script"] []) (T : Bt mg) (rp : mg "repr" = none) : FnG P w K mg base 15 f (spLaw K) := by
  refine FnG.of F sc_law B (fun vs H Q h => ?_) (fun cdv A fr s H vs Q hgd hr h => ?_)
  · obtain ⟨a, ns, rfl, _⟩ := h
    rfl
  · obtain ⟨a, ns, rfl, hS, hl, q⟩ := h
    refine ⟨_, (pss_cons (ps_for PassesOwn.never rfl (pi_range1 (by rfl) T.range (pa_cons (pe_callB (call_max2 rfl) (by rfl) T.max (by decide +kernel) (pa_cons pe_int (pa_cons (pe_callB (call_min2 rfl) (by rfl) T.min (by decide +kernel) (pa_cons (pe_callB call_len_seq (by rfl) T.len PySem.boot_len (pa_cons (pv 0) pa_nil)) (pa_cons pe_int pa_nil))) pa_nil))) pa_nil)) (pg_name (i := 1) sc_law.nd rfl (by first | exact .inl rfl | exact .inr rfl))
        (pss_one (ps_if (pt_not (pt_val (pe_fbG G__law_right hgd hr (by decide) (by rfl) (pa_cons (pe_fb G__law_purl hr (by decide) (by rfl) (pa_cons (pv 0) (pa_cons (pv 1) pa_nil))) pa_nil))))
        (pss_one (ps_ret pe_bl))
        pss_nil)))
        (pss_one (ps_ret pe_bl))), ?_⟩
    refine ⟨_, rfl, a, _, rfl, .inl hS, _, _, rfl, _, _, rfl, ?_⟩
    rw [List.length_map]
    have hc : ∀ L : Int, 0 ≤ L → -(2 ^ 62) ≤ (if (if (4 : Int) < L then 4 else L) > 2 then (if (4 : Int) < L then 4 else L) else 2) ∧ (if (if (4 : Int) < L then 4 else L) > 2 then (if (4 : Int) < L then 4 else L) else 2) < 2 ^ 62 ∧
        (if (if (4 : Int) < L then 4 else L) > 2 then (if (4 : Int) < L then 4 else L) else 2).toNat ≤ 4 := by
      intro L hL
      split <;> split <;> refine ⟨?_, ?_, ?_⟩ <;> omega
    obtain ⟨hc1, hc2, hc3⟩ := hc (ns.length : Int) (Int.natCast_nonneg _)
    generalize (if (if (4 : Int) < (ns.length : Int) then 4 else (ns.length : Int)) > 2 then (if (4 : Int) < (ns.length : Int) then 4 else (ns.length : Int)) else 2) = lim at *
    refine ⟨lim, rfl, hc1, hc2, ?_⟩
    refine for_range (n := lim.toNat) (fun j σ H' => ∃ v : Option V, σ = [some (.ref a), v] ∧ Same H H') ⟨_, rfl, Same.refl _⟩ (fun j σ H' hj h => ?_) (fun σ H' h => ?_)
    · obtain ⟨v, rfl, s3⟩ := h
      rw [Int.zero_add]
      refine ⟨_, rfl, _, rfl, a, ns, j, rfl, SqL.ext hS s3, hl, by omega, fun p H3 np hp s4 => ?_⟩
      refine ⟨p, rfl, hp, fun H4 o4 => ⟨_, rfl, ?_⟩⟩
      refine iteF ?_
      refine ⟨_, rfl, fun c y hc => ?_⟩
      have hc2 := s3 _ _ hc
      exact o4 _ _ (ne_of_none np hc2).symm (s4 _ _ hc2)
    · exact q _
end
end Sq
namespace Sq
open PySem L2 TL
/-! ### what the top leaves, and the end -/
theorem all_mk {P : Program} {w : World} {K : PySem.W.Frag} {h : Heap} {mg : Str → Option Value} {fa : Addr}
    {uLE : Tok}
    {uLO : Tok}
    {uML : Tok}
    {uMA : Tok}
    {fhb : Addr} {ochb kVhb dchb pmhb cdhb cthb : Value} {odhb anhb : Option Addr} {slhb : Array (Option Value)}
    {fwb : Addr} {ocwb kVwb dcwb pmwb cdwb ctwb : Value} {odwb anwb : Option Addr} {slwb : Array (Option Value)}
    {flb : Addr} {oclb kVlb dclb pmlb cdlb ctlb : Value} {odlb anlb : Option Addr} {sllb : Array (Option Value)}
    {fbi : Addr} {ocbi kVbi dcbi pmbi cdbi ctbi : Value} {odbi anbi : Option Addr} {slbi : Array (Option Value)}
    {ftb : Addr} {octb kVtb dctb pmtb cdtb cttb : Value} {odtb antb : Option Addr} {sltb : Array (Option Value)}
    {fts : Addr} {octs kVts dcts pmts cdts ctts : Value} {odts ants : Option Addr} {slts : Array (Option Value)}
    {fiw : Addr} {ociw kViw dciw pmiw cdiw ctiw : Value} {odiw aniw : Option Addr} {sliw : Array (Option Value)}
    {fwi : Addr} {ocwi kVwi dcwi pmwi cdwi ctwi : Value} {odwi anwi : Option Addr} {slwi : Array (Option Value)}
    {fsf0 : Addr} {ocsf0 kVsf0 dcsf0 pmsf0 cdsf0 ctsf0 : Value} {odsf0 ansf0 : Option Addr} {slsf0 : Array (Option Value)}
    {fct : Addr} {occt kVct dcct pmct cdct ctct : Value} {odct anct : Option Addr} {slct : Array (Option Value)}
    {fwl : Addr} {ocwl kVwl dcwl pmwl cdwl ctwl : Value} {odwl anwl : Option Addr} {slwl : Array (Option Value)}
    {C : Addr}
    {fm0 tD tK tE : Addr} {ocm0 dcm0 pmm0 cdm0 ctm0 : Value} {odm0 anm0 : Option Addr} {slm0 : Array (Option Value)} {ocD : Value} {ddD ddE : Option Addr} {itD itE : Array Value} {nmD nmE : Nat} {soD soE : Array (Option Value)}
    {fg1 pg1 : Addr} {rsg1 : List Value} {ocg1 kVg1 dcg1 pmg1 cdg1 ctg1 : Value} {odg1 ang1 : Option Addr} {slg1 : Array (Option Value)}
    {fg2 pg2 : Addr} {rsg2 : List Value} {ocg2 kVg2 dcg2 pmg2 cdg2 ctg2 : Value} {odg2 ang2 : Option Addr} {slg2 : Array (Option Value)}
    {fg3 pg3 : Addr} {rsg3 : List Value} {ocg3 kVg3 dcg3 pmg3 cdg3 ctg3 : Value} {odg3 ang3 : Option Addr} {slg3 : Array (Option Value)}
    {fg4 pg4 : Addr} {rsg4 : List Value} {ocg4 kVg4 dcg4 pmg4 cdg4 ctg4 : Value} {odg4 ang4 : Option Addr} {slg4 : Array (Option Value)}
    {fm5 : Addr} {ocm5 kVm5 dcm5 pmm5 cdm5 ctm5 : Value} {odm5 anm5 : Option Addr} {slm5 : Array (Option Value)}
    {fm6 : Addr} {ocm6 kVm6 dcm6 pmm6 cdm6 ctm6 : Value} {odm6 anm6 : Option Addr} {slm6 : Array (Option Value)}
    {fm8 : Addr} {ocm8 kVm8 dcm8 pmm8 cdm8 ctm8 : Value} {odm8 anm8 : Option Addr} {slm8 : Array (Option Value)}
    {fm9 : Addr} {ocm9 kVm9 dcm9 pmm9 cdm9 ctm9 : Value} {odm9 anm9 : Option Addr} {slm9 : Array (Option Value)}
    {fm10 : Addr} {ocm10 kVm10 dcm10 pmm10 cdm10 ctm10 : Value} {odm10 anm10 : Option Addr} {slm10 : Array (Option Value)}
    {fm11 : Addr} {ocm11 kVm11 dcm11 pmm11 cdm11 ctm11 : Value} {odm11 anm11 : Option Addr} {slm11 : Array (Option Value)}
    {fm12 : Addr} {ocm12 kVm12 dcm12 pmm12 cdm12 ctm12 : Value} {odm12 anm12 : Option Addr} {slm12 : Array (Option Value)}
    {fm14 : Addr} {ocm14 kVm14 dcm14 pmm14 cdm14 ctm14 : Value} {odm14 anm14 : Option Addr} {slm14 : Array (Option Value)}
    {fm7 : Addr} {ocm7 kVm7 dcm7 pmm7 cdm7 ctm7 : Value} {odm7 anm7 : Option Addr} {slm7 : Array (Option Value)}
    {fm13 : Addr} {ocm13 kVm13 dcm13 pmm13 cdm13 ctm13 : Value} {odm13 anm13 : Option Addr} {slm13 : Array (Option Value)}
    {fsw : Addr} {ocsw kVsw dcsw pmsw cdsw ctsw : Value} {odsw answ : Option Addr} {slsw : Array (Option Value)}
    {fto : Addr} {octo kVto dcto pmto cdto ctto : Value} {odto anto : Option Addr} {slto : Array (Option Value)}
    {fhl : Addr} {ochl kVhl dchl pmhl cdhl cthl : Value} {odhl anhl : Option Addr} {slhl : Array (Option Value)}
    {ftr : Addr} {octr kVtr dctr pmtr cdtr cttr : Value} {odtr antr : Option Addr} {sltr : Array (Option Value)}
    {fmd : Addr} {ocmd kVmd dcmd pmmd cdmd ctmd : Value} {odmd anmd : Option Addr} {slmd : Array (Option Value)}
    {fpu : Addr} {ocpu kVpu dcpu pmpu cdpu ctpu : Value} {odpu anpu : Option Addr} {slpu : Array (Option Value)}
    {fdg : Addr} {ocdg kVdg dcdg pmdg cddg ctdg : Value} {oddg andg : Option Addr} {sldg : Array (Option Value)}
    {fli : Addr} {ocli kVli dcli pmli cdli ctli : Value} {odli anli : Option Addr} {slli : Array (Option Value)}
    {ftl : Addr} {octl kVtl dctl pmtl cdtl cttl : Value} {odtl antl : Option Addr} {sltl : Array (Option Value)}
    {fsh : Addr} {ocsh kVsh dcsh pmsh cdsh ctsh : Value} {odsh ansh : Option Addr} {slsh : Array (Option Value)}
    {ffr : Addr} {ocfr kVfr dcfr pmfr cdfr ctfr : Value} {odfr anfr : Option Addr} {slfr : Array (Option Value)}
    {fst : Addr} {ocst kVst dcst pmst cdst ctst : Value} {odst anst : Option Addr} {slst : Array (Option Value)}
    {flw : Addr} {oclw kVlw dclw pmlw cdlw ctlw : Value} {odlw anlw : Option Addr} {sllw : Array (Option Value)}
    {fsi : Addr} {ocsi kVsi dcsi pmsi cdsi ctsi : Value} {odsi ansi : Option Addr} {slsi : Array (Option Value)}
    {fri : Addr} {ocri kVri dcri pmri cdri ctri : Value} {odri anri : Option Addr} {slri : Array (Option Value)}
    {fL : Addr} {ocL kVL dcL pmL cdL ctL : Value} {odL anL : Option Addr} {slL : Array (Option Value)}
    (X : K.In h) (G : h.Ns mainGlobals mg) (hfa : mg "law" = some (.ref fa))
    (dLE : PySem.W.nsIn K mainGlobals "LAST_EVEN" = some (some (.int 202 uLE)))
    (dLO : PySem.W.nsIn K mainGlobals "LAST_ODD" = some (some (.int 201 uLO)))
    (dML : PySem.W.nsIn K mainGlobals "MOST_LISTED" = some (some (.int 200 uML)))
    (dMA : PySem.W.nsIn K mainGlobals "MOST_ASCENDING" = some (some (.int 1000 uMA)))
    (ahb : PySem.W.nsIn K mainGlobals "has_bit" = some (some (.ref fhb)))
    (lhb : K.lookup fhb = some ⟨ochb, odhb, .func (PySem.W.fnOf "has_bit" "has_bit" (defArgs s_has_bit) (defBody s_has_bit) (defScope s_has_bit) .none kVhb dchb pmhb anhb cdhb cthb), slhb⟩)
    (chb : PySem.W.codeIn K cdhb "has_bit" = true)
    (khb : PySem.W.keepIn K (.ref fhb) = true)
    (awb : PySem.W.nsIn K mainGlobals "with_bits" = some (some (.ref fwb)))
    (lwb : K.lookup fwb = some ⟨ocwb, odwb, .func (PySem.W.fnOf "with_bits" "with_bits" (defArgs s_with_bits) (defBody s_with_bits) (defScope s_with_bits) .none kVwb dcwb pmwb anwb cdwb ctwb), slwb⟩)
    (cwb : PySem.W.codeIn K cdwb "with_bits" = true)
    (kwb : PySem.W.keepIn K (.ref fwb) = true)
    (alb : PySem.W.nsIn K mainGlobals "least_bit" = some (some (.ref flb)))
    (llb : K.lookup flb = some ⟨oclb, odlb, .func (PySem.W.fnOf "least_bit" "least_bit" (defArgs s_least_bit) (defBody s_least_bit) (defScope s_least_bit) .none kVlb dclb pmlb anlb cdlb ctlb), sllb⟩)
    (clb : PySem.W.codeIn K cdlb "least_bit" = true)
    (klb : PySem.W.keepIn K (.ref flb) = true)
    (abi : PySem.W.nsIn K mainGlobals "bits_in" = some (some (.ref fbi)))
    (lbi : K.lookup fbi = some ⟨ocbi, odbi, .func (PySem.W.fnOf "bits_in" "bits_in" (defArgs s_bits_in) (defBody s_bits_in) (defScope s_bits_in) .none kVbi dcbi pmbi anbi cdbi ctbi), slbi⟩)
    (cbi : PySem.W.codeIn K cdbi "bits_in" = true)
    (kbi : PySem.W.keepIn K (.ref fbi) = true)
    (atb : PySem.W.nsIn K mainGlobals "tail_bits" = some (some (.ref ftb)))
    (ltb : K.lookup ftb = some ⟨octb, odtb, .func (PySem.W.fnOf "tail_bits" "tail_bits" (defArgs s_tail_bits) (defBody s_tail_bits) (defScope s_tail_bits) .none kVtb dctb pmtb antb cdtb cttb), sltb⟩)
    (ctb : PySem.W.codeIn K cdtb "tail_bits" = true)
    (ktb : PySem.W.keepIn K (.ref ftb) = true)
    (ats : PySem.W.nsIn K mainGlobals "tail_start" = some (some (.ref fts)))
    (lts : K.lookup fts = some ⟨octs, odts, .func (PySem.W.fnOf "tail_start" "tail_start" (defArgs s_tail_start) (defBody s_tail_start) (defScope s_tail_start) .none kVts dcts pmts ants cdts ctts), slts⟩)
    (cts : PySem.W.codeIn K cdts "tail_start" = true)
    (kts : PySem.W.keepIn K (.ref fts) = true)
    (aiw : PySem.W.nsIn K mainGlobals "is_whole" = some (some (.ref fiw)))
    (liw : K.lookup fiw = some ⟨ociw, odiw, .func (PySem.W.fnOf "is_whole" "is_whole" (defArgs s_is_whole) (defBody s_is_whole) (defScope s_is_whole) .none kViw dciw pmiw aniw cdiw ctiw), sliw⟩)
    (ciw : PySem.W.codeIn K cdiw "is_whole" = true)
    (kiw : PySem.W.keepIn K (.ref fiw) = true)
    (awi : PySem.W.nsIn K mainGlobals "is_within" = some (some (.ref fwi)))
    (lwi : K.lookup fwi = some ⟨ocwi, odwi, .func (PySem.W.fnOf "is_within" "is_within" (defArgs s_is_within) (defBody s_is_within) (defScope s_is_within) .none kVwi dcwi pmwi anwi cdwi ctwi), slwi⟩)
    (cwi : PySem.W.codeIn K cdwi "is_within" = true)
    (kwi : PySem.W.keepIn K (.ref fwi) = true)
    (asf0 : PySem.W.nsIn K mainGlobals "standing_for" = some (some (.ref fsf0)))
    (lsf0 : K.lookup fsf0 = some ⟨ocsf0, odsf0, .func (PySem.W.fnOf "standing_for" "standing_for" (defArgs s_standing_for) (defBody s_standing_for) (defScope s_standing_for) .none kVsf0 dcsf0 pmsf0 ansf0 cdsf0 ctsf0), slsf0⟩)
    (csf0 : PySem.W.codeIn K cdsf0 "standing_for" = true)
    (ksf0 : PySem.W.keepIn K (.ref fsf0) = true)
    (act : PySem.W.nsIn K mainGlobals "check_tail" = some (some (.ref fct)))
    (lct : K.lookup fct = some ⟨occt, odct, .func (PySem.W.fnOf "check_tail" "check_tail" (defArgs s_check_tail) (defBody s_check_tail) (defScope s_check_tail) .none kVct dcct pmct anct cdct ctct), slct⟩)
    (cct : PySem.W.codeIn K cdct "check_tail" = true)
    (kct : PySem.W.keepIn K (.ref fct) = true)
    (awl : PySem.W.nsIn K mainGlobals "wrong_listed" = some (some (.ref fwl)))
    (lwl : K.lookup fwl = some ⟨ocwl, odwl, .func (PySem.W.fnOf "wrong_listed" "wrong_listed" (defArgs s_wrong_listed) (defBody s_wrong_listed) (defScope s_wrong_listed) .none kVwl dcwl pmwl anwl cdwl ctwl), slwl⟩)
    (cwl : PySem.W.codeIn K cdwl "wrong_listed" = true)
    (kwl : PySem.W.keepIn K (.ref fwl) = true)
    (aC : PySem.W.nsIn K mainGlobals "Sizes" = some (some (.ref C)))
    (am0 : PySem.W.findIn K (.ref C) "__init__" = some (some (.ref fm0)))
    (im0 : PySem.W.isFn K (.ref fm0) = true)
    (lm0 : K.lookup fm0 = some ⟨ocm0, odm0, .func (PySem.W.fnOf "__init__" "Sizes.__init__" (defArgs s_Z0) (defBody s_Z0) (defScope s_Z0) (.ref tD) (.ref tK) dcm0 pmm0 anm0 cdm0 ctm0), slm0⟩)
    (cm0 : PySem.W.codeIn K cdm0 "Sizes.__init__" = true)
    (km0 : PySem.W.keepIn K (.ref fm0) = true)
    (jD : K.lookup tD = some ⟨ocD, ddD, .seq itD nmD, soD⟩)
    (vD : Vals [V.ref tE] itD.toList)
    (jE : K.lookup tE = some ⟨.type "tuple", ddE, .seq itE nmE, soE⟩)
    (vE : Vals [] itE.toList)
    (hE : itE.size ≤ sizeLine)
    (nKe : PySem.W.nsIn K tK "even" = some (some .none))
    (nKo : PySem.W.nsIn K tK "odd" = some (some .none))
    (pg : PySem.W.plainGet K C Str.empty = true)
    (hd : PySem.W.hasDictIn K C = true)
    (po : PySem.W.plainOver K C = true)
    (sa : PySem.W.findIn K (.ref C) "__setattr__" = some (some (.builtin "object.__setattr__")))
    (mk : PySem.W.makesIn K C = true)
    (kc : PySem.W.keepIn K (.ref C) = true)
    (nB : PySem.W.findIn K (.ref C) "_bits" = some none)
    (q1 : PySem.W.findIn K (.ref C) "__class__" = some (some (.builtin "object.__class__")))
    (q2 : PySem.W.specialIn K (.builtin "object.__class__") "__get__" = some (some (.builtin "getset_descriptor.__get__")))
    (q3 : PySem.W.takesIn K (.builtin "object.__class__") = some true)
    (q4 : PySem.W.mroIn K C (.type "object") = some true)
    (sf : PySem.W.selfFirst K C = true)
    (ne : PySem.W.findIn K (.ref C) "__ne__" = some (some (.builtin "object.__ne__")))
    (ob : PySem.W.subIn K (.ref C) (.type "object") = some true)
    (ag1 : PySem.W.findIn K (.ref C) "even" = some (some (.ref pg1)))
    (sg1 : PySem.W.specialIn K (.ref pg1) "__get__" = some (some (.builtin "property.__get__")))
    (tg1 : PySem.W.takesIn K (.ref pg1) = some true)
    (rg1 : PySem.W.recIn K pg1 "property" = some (.ref fg1 :: rsg1))
    (lg1 : K.lookup fg1 = some ⟨ocg1, odg1, .func (PySem.W.fnOf "even" "Sizes.even" (defArgs s_Z1) (defBody s_Z1) (defScope s_Z1) .none kVg1 dcg1 pmg1 ang1 cdg1 ctg1), slg1⟩)
    (cg1 : PySem.W.codeIn K cdg1 "Sizes.even" = true)
    (kg1 : PySem.W.keepIn K (.ref fg1) = true)
    (ag2 : PySem.W.findIn K (.ref C) "odd" = some (some (.ref pg2)))
    (sg2 : PySem.W.specialIn K (.ref pg2) "__get__" = some (some (.builtin "property.__get__")))
    (tg2 : PySem.W.takesIn K (.ref pg2) = some true)
    (rg2 : PySem.W.recIn K pg2 "property" = some (.ref fg2 :: rsg2))
    (lg2 : K.lookup fg2 = some ⟨ocg2, odg2, .func (PySem.W.fnOf "odd" "Sizes.odd" (defArgs s_Z2) (defBody s_Z2) (defScope s_Z2) .none kVg2 dcg2 pmg2 ang2 cdg2 ctg2), slg2⟩)
    (cg2 : PySem.W.codeIn K cdg2 "Sizes.odd" = true)
    (kg2 : PySem.W.keepIn K (.ref fg2) = true)
    (ag3 : PySem.W.findIn K (.ref C) "listed" = some (some (.ref pg3)))
    (sg3 : PySem.W.specialIn K (.ref pg3) "__get__" = some (some (.builtin "property.__get__")))
    (tg3 : PySem.W.takesIn K (.ref pg3) = some true)
    (rg3 : PySem.W.recIn K pg3 "property" = some (.ref fg3 :: rsg3))
    (lg3 : K.lookup fg3 = some ⟨ocg3, odg3, .func (PySem.W.fnOf "listed" "Sizes.listed" (defArgs s_Z3) (defBody s_Z3) (defScope s_Z3) .none kVg3 dcg3 pmg3 ang3 cdg3 ctg3), slg3⟩)
    (cg3 : PySem.W.codeIn K cdg3 "Sizes.listed" = true)
    (kg3 : PySem.W.keepIn K (.ref fg3) = true)
    (ag4 : PySem.W.findIn K (.ref C) "least" = some (some (.ref pg4)))
    (sg4 : PySem.W.specialIn K (.ref pg4) "__get__" = some (some (.builtin "property.__get__")))
    (tg4 : PySem.W.takesIn K (.ref pg4) = some true)
    (rg4 : PySem.W.recIn K pg4 "property" = some (.ref fg4 :: rsg4))
    (lg4 : K.lookup fg4 = some ⟨ocg4, odg4, .func (PySem.W.fnOf "least" "Sizes.least" (defArgs s_Z4) (defBody s_Z4) (defScope s_Z4) .none kVg4 dcg4 pmg4 ang4 cdg4 ctg4), slg4⟩)
    (cg4 : PySem.W.codeIn K cdg4 "Sizes.least" = true)
    (kg4 : PySem.W.keepIn K (.ref fg4) = true)
    (am5 : PySem.W.findIn K (.ref C) "__eq__" = some (some (.ref fm5)))
    (im5 : PySem.W.isFn K (.ref fm5) = true)
    (lm5 : K.lookup fm5 = some ⟨ocm5, odm5, .func (PySem.W.fnOf "__eq__" "Sizes.__eq__" (defArgs s_Z5) (defBody s_Z5) (defScope s_Z5) .none kVm5 dcm5 pmm5 anm5 cdm5 ctm5), slm5⟩)
    (cm5 : PySem.W.codeIn K cdm5 "Sizes.__eq__" = true)
    (km5 : PySem.W.keepIn K (.ref fm5) = true)
    (am6 : PySem.W.findIn K (.ref C) "__bool__" = some (some (.ref fm6)))
    (im6 : PySem.W.isFn K (.ref fm6) = true)
    (lm6 : K.lookup fm6 = some ⟨ocm6, odm6, .func (PySem.W.fnOf "__bool__" "Sizes.__bool__" (defArgs s_Z6) (defBody s_Z6) (defScope s_Z6) .none kVm6 dcm6 pmm6 anm6 cdm6 ctm6), slm6⟩)
    (cm6 : PySem.W.codeIn K cdm6 "Sizes.__bool__" = true)
    (km6 : PySem.W.keepIn K (.ref fm6) = true)
    (am8 : PySem.W.findIn K (.ref C) "__and__" = some (some (.ref fm8)))
    (im8 : PySem.W.isFn K (.ref fm8) = true)
    (lm8 : K.lookup fm8 = some ⟨ocm8, odm8, .func (PySem.W.fnOf "__and__" "Sizes.__and__" (defArgs s_Z8) (defBody s_Z8) (defScope s_Z8) .none kVm8 dcm8 pmm8 anm8 cdm8 ctm8), slm8⟩)
    (cm8 : PySem.W.codeIn K cdm8 "Sizes.__and__" = true)
    (km8 : PySem.W.keepIn K (.ref fm8) = true)
    (am9 : PySem.W.findIn K (.ref C) "__or__" = some (some (.ref fm9)))
    (im9 : PySem.W.isFn K (.ref fm9) = true)
    (lm9 : K.lookup fm9 = some ⟨ocm9, odm9, .func (PySem.W.fnOf "__or__" "Sizes.__or__" (defArgs s_Z9) (defBody s_Z9) (defScope s_Z9) .none kVm9 dcm9 pmm9 anm9 cdm9 ctm9), slm9⟩)
    (cm9 : PySem.W.codeIn K cdm9 "Sizes.__or__" = true)
    (km9 : PySem.W.keepIn K (.ref fm9) = true)
    (am10 : PySem.W.findIn K (.ref C) "__sub__" = some (some (.ref fm10)))
    (im10 : PySem.W.isFn K (.ref fm10) = true)
    (lm10 : K.lookup fm10 = some ⟨ocm10, odm10, .func (PySem.W.fnOf "__sub__" "Sizes.__sub__" (defArgs s_Z10) (defBody s_Z10) (defScope s_Z10) .none kVm10 dcm10 pmm10 anm10 cdm10 ctm10), slm10⟩)
    (cm10 : PySem.W.codeIn K cdm10 "Sizes.__sub__" = true)
    (km10 : PySem.W.keepIn K (.ref fm10) = true)
    (am11 : PySem.W.findIn K (.ref C) "__invert__" = some (some (.ref fm11)))
    (im11 : PySem.W.isFn K (.ref fm11) = true)
    (lm11 : K.lookup fm11 = some ⟨ocm11, odm11, .func (PySem.W.fnOf "__invert__" "Sizes.__invert__" (defArgs s_Z11) (defBody s_Z11) (defScope s_Z11) .none kVm11 dcm11 pmm11 anm11 cdm11 ctm11), slm11⟩)
    (cm11 : PySem.W.codeIn K cdm11 "Sizes.__invert__" = true)
    (km11 : PySem.W.keepIn K (.ref fm11) = true)
    (am12 : PySem.W.findIn K (.ref C) "within" = some (some (.ref fm12)))
    (im12 : PySem.W.isFn K (.ref fm12) = true)
    (lm12 : K.lookup fm12 = some ⟨ocm12, odm12, .func (PySem.W.fnOf "within" "Sizes.within" (defArgs s_Z12) (defBody s_Z12) (defScope s_Z12) .none kVm12 dcm12 pmm12 anm12 cdm12 ctm12), slm12⟩)
    (cm12 : PySem.W.codeIn K cdm12 "Sizes.within" = true)
    (km12 : PySem.W.keepIn K (.ref fm12) = true)
    (am14 : PySem.W.findIn K (.ref C) "__str__" = some (some (.ref fm14)))
    (im14 : PySem.W.isFn K (.ref fm14) = true)
    (lm14 : K.lookup fm14 = some ⟨ocm14, odm14, .func (PySem.W.fnOf "__str__" "Sizes.__str__" (defArgs s_Z14) (defBody s_Z14) (defScope s_Z14) .none kVm14 dcm14 pmm14 anm14 cdm14 ctm14), slm14⟩)
    (cm14 : PySem.W.codeIn K cdm14 "Sizes.__str__" = true)
    (km14 : PySem.W.keepIn K (.ref fm14) = true)
    (am7 : PySem.W.findIn K (.ref C) "__contains__" = some (some (.ref fm7)))
    (im7 : PySem.W.isFn K (.ref fm7) = true)
    (lm7 : K.lookup fm7 = some ⟨ocm7, odm7, .func (PySem.W.fnOf "__contains__" "Sizes.__contains__" (defArgs s_Z7) (defBody s_Z7) (defScope s_Z7) .none kVm7 dcm7 pmm7 anm7 cdm7 ctm7), slm7⟩)
    (cm7 : PySem.W.codeIn K cdm7 "Sizes.__contains__" = true)
    (km7 : PySem.W.keepIn K (.ref fm7) = true)
    (am13 : PySem.W.findIn K (.ref C) "ascending" = some (some (.ref fm13)))
    (im13 : PySem.W.isFn K (.ref fm13) = true)
    (lm13 : K.lookup fm13 = some ⟨ocm13, odm13, .func (PySem.W.fnOf "ascending" "Sizes.ascending" (defArgs s_Z13) (defBody s_Z13) (defScope s_Z13) .none kVm13 dcm13 pmm13 anm13 cdm13 ctm13), slm13⟩)
    (cm13 : PySem.W.codeIn K cdm13 "Sizes.ascending" = true)
    (km13 : PySem.W.keepIn K (.ref fm13) = true)
    (asw : PySem.W.nsIn K mainGlobals "set_with" = some (some (.ref fsw)))
    (lsw : K.lookup fsw = some ⟨ocsw, odsw, .func (PySem.W.fnOf "set_with" "set_with" (defArgs s_set_with) (defBody s_set_with) (defScope s_set_with) .none kVsw dcsw pmsw answ cdsw ctsw), slsw⟩)
    (csw : PySem.W.codeIn K cdsw "set_with" = true)
    (ksw : PySem.W.keepIn K (.ref fsw) = true)
    (ato : PySem.W.nsIn K mainGlobals "_law_told" = some (some (.ref fto)))
    (lto : K.lookup fto = some ⟨octo, odto, .func (PySem.W.fnOf "_law_told" "_law_told" (defArgs s__law_told) (defBody s__law_told) (defScope s__law_told) .none kVto dcto pmto anto cdto ctto), slto⟩)
    (cto : PySem.W.codeIn K cdto "_law_told" = true)
    (kto : PySem.W.keepIn K (.ref fto) = true)
    (ahl : PySem.W.nsIn K mainGlobals "_law_has" = some (some (.ref fhl)))
    (lhl : K.lookup fhl = some ⟨ochl, odhl, .func (PySem.W.fnOf "_law_has" "_law_has" (defArgs s__law_has) (defBody s__law_has) (defScope s__law_has) .none kVhl dchl pmhl anhl cdhl cthl), slhl⟩)
    (chl : PySem.W.codeIn K cdhl "_law_has" = true)
    (khl : PySem.W.keepIn K (.ref fhl) = true)
    (atr : PySem.W.nsIn K mainGlobals "_law_truths" = some (some (.ref ftr)))
    (ltr : K.lookup ftr = some ⟨octr, odtr, .func (PySem.W.fnOf "_law_truths" "_law_truths" (defArgs s__law_truths) (defBody s__law_truths) (defScope s__law_truths) .none kVtr dctr pmtr antr cdtr cttr), sltr⟩)
    (ctr : PySem.W.codeIn K cdtr "_law_truths" = true)
    (ktr : PySem.W.keepIn K (.ref ftr) = true)
    (amd : PySem.W.nsIn K mainGlobals "_law_made" = some (some (.ref fmd)))
    (lmd : K.lookup fmd = some ⟨ocmd, odmd, .func (PySem.W.fnOf "_law_made" "_law_made" (defArgs s__law_made) (defBody s__law_made) (defScope s__law_made) .none kVmd dcmd pmmd anmd cdmd ctmd), slmd⟩)
    (cmd : PySem.W.codeIn K cdmd "_law_made" = true)
    (kmd : PySem.W.keepIn K (.ref fmd) = true)
    (apu : PySem.W.nsIn K mainGlobals "_law_purl" = some (some (.ref fpu)))
    (lpu : K.lookup fpu = some ⟨ocpu, odpu, .func (PySem.W.fnOf "_law_purl" "_law_purl" (defArgs s__law_purl) (defBody s__law_purl) (defScope s__law_purl) .none kVpu dcpu pmpu anpu cdpu ctpu), slpu⟩)
    (cpu : PySem.W.codeIn K cdpu "_law_purl" = true)
    (kpu : PySem.W.keepIn K (.ref fpu) = true)
    (adg : PySem.W.nsIn K mainGlobals "_law_dig" = some (some (.ref fdg)))
    (ldg : K.lookup fdg = some ⟨ocdg, oddg, .func (PySem.W.fnOf "_law_dig" "_law_dig" (defArgs s__law_dig) (defBody s__law_dig) (defScope s__law_dig) .none kVdg dcdg pmdg andg cddg ctdg), sldg⟩)
    (cdg : PySem.W.codeIn K cddg "_law_dig" = true)
    (kdg : PySem.W.keepIn K (.ref fdg) = true)
    (ali : PySem.W.nsIn K mainGlobals "_law_listed" = some (some (.ref fli)))
    (lli : K.lookup fli = some ⟨ocli, odli, .func (PySem.W.fnOf "_law_listed" "_law_listed" (defArgs s__law_listed) (defBody s__law_listed) (defScope s__law_listed) .none kVli dcli pmli anli cdli ctli), slli⟩)
    (cli : PySem.W.codeIn K cdli "_law_listed" = true)
    (kli : PySem.W.keepIn K (.ref fli) = true)
    (atl : PySem.W.nsIn K mainGlobals "_law_tail" = some (some (.ref ftl)))
    (ltl : K.lookup ftl = some ⟨octl, odtl, .func (PySem.W.fnOf "_law_tail" "_law_tail" (defArgs s__law_tail) (defBody s__law_tail) (defScope s__law_tail) .none kVtl dctl pmtl antl cdtl cttl), sltl⟩)
    (ctl : PySem.W.codeIn K cdtl "_law_tail" = true)
    (ktl : PySem.W.keepIn K (.ref ftl) = true)
    (ash : PySem.W.nsIn K mainGlobals "_law_shape" = some (some (.ref fsh)))
    (lsh : K.lookup fsh = some ⟨ocsh, odsh, .func (PySem.W.fnOf "_law_shape" "_law_shape" (defArgs s__law_shape) (defBody s__law_shape) (defScope s__law_shape) .none kVsh dcsh pmsh ansh cdsh ctsh), slsh⟩)
    (csh : PySem.W.codeIn K cdsh "_law_shape" = true)
    (ksh : PySem.W.keepIn K (.ref fsh) = true)
    (afr : PySem.W.nsIn K mainGlobals "_law_firsts" = some (some (.ref ffr)))
    (lfr : K.lookup ffr = some ⟨ocfr, odfr, .func (PySem.W.fnOf "_law_firsts" "_law_firsts" (defArgs s__law_firsts) (defBody s__law_firsts) (defScope s__law_firsts) .none kVfr dcfr pmfr anfr cdfr ctfr), slfr⟩)
    (cfr : PySem.W.codeIn K cdfr "_law_firsts" = true)
    (kfr : PySem.W.keepIn K (.ref ffr) = true)
    (ast : PySem.W.nsIn K mainGlobals "_law_step" = some (some (.ref fst)))
    (lst : K.lookup fst = some ⟨ocst, odst, .func (PySem.W.fnOf "_law_step" "_law_step" (defArgs s__law_step) (defBody s__law_step) (defScope s__law_step) .none kVst dcst pmst anst cdst ctst), slst⟩)
    (cst : PySem.W.codeIn K cdst "_law_step" = true)
    (kst : PySem.W.keepIn K (.ref fst) = true)
    (alw : PySem.W.nsIn K mainGlobals "_law_laws" = some (some (.ref flw)))
    (llw : K.lookup flw = some ⟨oclw, odlw, .func (PySem.W.fnOf "_law_laws" "_law_laws" (defArgs s__law_laws) (defBody s__law_laws) (defScope s__law_laws) .none kVlw dclw pmlw anlw cdlw ctlw), sllw⟩)
    (clw : PySem.W.codeIn K cdlw "_law_laws" = true)
    (klw : PySem.W.keepIn K (.ref flw) = true)
    (asi : PySem.W.nsIn K mainGlobals "_law_single" = some (some (.ref fsi)))
    (lsi : K.lookup fsi = some ⟨ocsi, odsi, .func (PySem.W.fnOf "_law_single" "_law_single" (defArgs s__law_single) (defBody s__law_single) (defScope s__law_single) .none kVsi dcsi pmsi ansi cdsi ctsi), slsi⟩)
    (csi : PySem.W.codeIn K cdsi "_law_single" = true)
    (ksi : PySem.W.keepIn K (.ref fsi) = true)
    (ari : PySem.W.nsIn K mainGlobals "_law_right" = some (some (.ref fri)))
    (lri : K.lookup fri = some ⟨ocri, odri, .func (PySem.W.fnOf "_law_right" "_law_right" (defArgs s__law_right) (defBody s__law_right) (defScope s__law_right) .none kVri dcri pmri anri cdri ctri), slri⟩)
    (cri : PySem.W.codeIn K cdri "_law_right" = true)
    (kri : PySem.W.keepIn K (.ref fri) = true)
    (aL : PySem.W.nsIn K mainGlobals "law" = some (some (.ref fL)))
    (lL : K.lookup fL = some ⟨ocL, odL, .func (PySem.W.fnOf "law" "law" (defArgs s_law) (defBody s_law) (defScope s_law) .none kVL dcL pmL anL cdL ctL), slL⟩)
    (cL : PySem.W.codeIn K cdL "law" = true)
    (kL : PySem.W.keepIn K (.ref fL) = true)
    (z_len : PySem.W.nsIn K mainGlobals "len" = some none)
    (z_int : PySem.W.nsIn K mainGlobals "int" = some none)
    (z_abs : PySem.W.nsIn K mainGlobals "abs" = some none)
    (z_divmod : PySem.W.nsIn K mainGlobals "divmod" = some none)
    (z_range : PySem.W.nsIn K mainGlobals "range" = some none)
    (z_isinstance : PySem.W.nsIn K mainGlobals "isinstance" = some none)
    (z_bool : PySem.W.nsIn K mainGlobals "bool" = some none)
    (z_tuple : PySem.W.nsIn K mainGlobals "tuple" = some none)
    (z_str : PySem.W.nsIn K mainGlobals "str" = some none)
    (z_list : PySem.W.nsIn K mainGlobals "list" = some none)
    (z_min : PySem.W.nsIn K mainGlobals "min" = some none)
    (z_max : PySem.W.nsIn K mainGlobals "max" = some none)
    (z_all : PySem.W.nsIn K mainGlobals "all" = some none)
    (z_any : PySem.W.nsIn K mainGlobals "any" = some none)
    (z_sum : PySem.W.nsIn K mainGlobals "sum" = some none)
    (z_sorted : PySem.W.nsIn K mainGlobals "sorted" = some none)
    (z_enumerate : PySem.W.nsIn K mainGlobals "enumerate" = some none)
    (z_repr : PySem.W.nsIn K mainGlobals "repr" = some none) :
    ∀ base : Heap, FnG P w K mg base 15 fa (spLaw K) := by
  intro base
  have e := hfa.symm.trans (PySem.W.mg_of X G aL)
  cases e
  have T0 : Sq.Bt mg := ⟨(PySem.W.mg_none_of X G z_len), (PySem.W.mg_none_of X G z_int), (PySem.W.mg_none_of X G z_abs), (PySem.W.mg_none_of X G z_divmod), (PySem.W.mg_none_of X G z_range), (PySem.W.mg_none_of X G z_isinstance), (PySem.W.mg_none_of X G z_bool), (PySem.W.mg_none_of X G z_tuple), (PySem.W.mg_none_of X G z_str), (PySem.W.mg_none_of X G z_list), (PySem.W.mg_none_of X G z_min), (PySem.W.mg_none_of X G z_max), (PySem.W.mg_none_of X G z_all), (PySem.W.mg_none_of X G z_any), (PySem.W.mg_none_of X G z_sum), (PySem.W.mg_none_of X G z_sorted), (PySem.W.mg_none_of X G z_enumerate)⟩
  have Fhb := fun_mk (st := s_has_bit) lhb chb khb
  have bhb := Fhb.binds (ps := ["bits", "index"]) fun _ _ _ _ _ _ us hl => match us, hl with | [_, _], _ => rfl
  have Bhb : FB P w K mg base "has_bit" 1 ["bits", "index"] spHas := ⟨fhb, _, ok_has_bit (P := P) (w := w) (base := base) Fhb T0 , (PySem.W.mg_of X G ahb), khb, bhb⟩
  have Fwb := fun_mk (st := s_with_bits) lwb cwb kwb
  have bwb := Fwb.binds (ps := ["indexes"]) fun _ _ _ _ _ _ us hl => match us, hl with | [_], _ => rfl
  have Bwb : FB P w K mg base "with_bits" 1 ["indexes"] (spWithB K) := ⟨fwb, _, ok_with_bits (P := P) (w := w) (base := base) Fwb T0 , (PySem.W.mg_of X G awb), kwb, bwb⟩
  have Flb := fun_mk (st := s_least_bit) llb clb klb
  have blb := Flb.binds (ps := ["bits"]) fun _ _ _ _ _ _ us hl => match us, hl with | [_], _ => rfl
  have Blb : FB P w K mg base "least_bit" 1 ["bits"] spLow := ⟨flb, _, ok_least_bit (P := P) (w := w) (base := base) Flb T0 , (PySem.W.mg_of X G alb), klb, blb⟩
  have Fbi := fun_mk (st := s_bits_in) lbi cbi kbi
  have bbi := Fbi.binds (ps := ["bits"]) fun _ _ _ _ _ _ us hl => match us, hl with | [_], _ => rfl
  have Bbi : FB P w K mg base "bits_in" 2 ["bits"] spBitsIn := ⟨fbi, _, ok_bits_in (P := P) (w := w) (base := base) Fbi T0 Blb, (PySem.W.mg_of X G abi), kbi, bbi⟩
  have Ftb := fun_mk (st := s_tail_bits) ltb ctb ktb
  have btb := Ftb.binds (ps := ["start"]) fun _ _ _ _ _ _ us hl => match us, hl with | [_], _ => rfl
  have Btb : FB P w K mg base "tail_bits" 2 ["start"] spTailB := ⟨ftb, _, ok_tail_bits (P := P) (w := w) (base := base) Ftb T0 Bwb (PySem.W.mg_of X G dLE), (PySem.W.mg_of X G atb), ktb, btb⟩
  have Fts := fun_mk (st := s_tail_start) lts cts kts
  have bts := Fts.binds (ps := ["bits", "last"]) fun _ _ _ _ _ _ us hl => match us, hl with | [_, _], _ => rfl
  have Bts : FB P w K mg base "tail_start" 2 ["bits", "last"] spStart := ⟨fts, _, ok_tail_start (P := P) (w := w) (base := base) Fts T0 Bhb, (PySem.W.mg_of X G ats), kts, bts⟩
  have Fiw := fun_mk (st := s_is_whole) liw ciw kiw
  have biw := Fiw.binds (ps := ["value"]) fun _ _ _ _ _ _ us hl => match us, hl with | [_], _ => rfl
  have Biw : FB P w K mg base "is_whole" 1 ["value"] spWhole := ⟨fiw, _, ok_is_whole (P := P) (w := w) (base := base) Fiw T0 , (PySem.W.mg_of X G aiw), kiw, biw⟩
  have Fwi := fun_mk (st := s_is_within) lwi cwi kwi
  have bwi := Fwi.binds (ps := ["value", "least", "most"]) fun _ _ _ _ _ _ us hl => match us, hl with | [_, _, _], _ => rfl
  have Bwi : FB P w K mg base "is_within" 2 ["value", "least", "most"] spWithin := ⟨fwi, _, ok_is_within (P := P) (w := w) (base := base) Fwi T0 Biw, (PySem.W.mg_of X G awi), kwi, bwi⟩
  have Fsf0 := fun_mk (st := s_standing_for) lsf0 csf0 ksf0
  have bsf0 := Fsf0.binds (ps := ["size"]) fun _ _ _ _ _ _ us hl => match us, hl with | [_], _ => rfl
  have Bsf0 : FB P w K mg base "standing_for" 1 ["size"] spStand := ⟨fsf0, _, ok_standing_for (P := P) (w := w) (base := base) Fsf0 T0 (PySem.W.mg_of X G dLE), (PySem.W.mg_of X G asf0), ksf0, bsf0⟩
  have Biw2 : FB P w K mg base "is_whole" 1 ["value"] (spWholeA K) := ⟨fiw, _, ok_is_wholeA (P := P) (w := w) (base := base) Fiw T0, (PySem.W.mg_of X G aiw), kiw, biw⟩
  have Fct := fun_mk (st := s_check_tail) lct cct kct
  have bct := Fct.binds (ps := ["start", "parity"]) fun _ _ _ _ _ _ us hl => match us, hl with | [_, _], _ => rfl
  have Bct : FB P w K mg base "check_tail" 3 ["start", "parity"] spCheckT := ⟨fct, _, ok_check_tail (P := P) (w := w) (base := base) Fct T0 Bwi (PySem.W.mg_of X G dML), (PySem.W.mg_of X G act), kct, bct⟩
  have Fwl := fun_mk (st := s_wrong_listed) lwl cwl kwl
  have bwl := Fwl.binds (ps := ["listed"]) fun _ _ _ _ _ _ us hl => match us, hl with | [_], _ => rfl
  have Bwl : FB P w K mg base "wrong_listed" 3 ["listed"] (spWrongL K) := ⟨fwl, _, ok_wrong_listed (P := P) (w := w) (base := base) Fwl T0 Bwi (PySem.W.mg_of X G dML), (PySem.W.mg_of X G awl), kwl, bwl⟩
  have Fg1 := fun_mk (st := s_Z1) lg1 cg1 kg1
  have bg1 := Fg1.binds (ps := ["self"]) fun _ _ _ _ _ _ us hl => match us, hl with | [_], _ => rfl
  have Fg2 := fun_mk (st := s_Z2) lg2 cg2 kg2
  have bg2 := Fg2.binds (ps := ["self"]) fun _ _ _ _ _ _ us hl => match us, hl with | [_], _ => rfl
  have Fg3 := fun_mk (st := s_Z3) lg3 cg3 kg3
  have bg3 := Fg3.binds (ps := ["self"]) fun _ _ _ _ _ _ us hl => match us, hl with | [_], _ => rfl
  have Fg4 := fun_mk (st := s_Z4) lg4 cg4 kg4
  have bg4 := Fg4.binds (ps := ["self"]) fun _ _ _ _ _ _ us hl => match us, hl with | [_], _ => rfl
  have Fm5 := fun_mk (st := s_Z5) lm5 cm5 km5
  have bm5 := Fm5.binds (ps := ["self", "other"]) fun _ _ _ _ _ _ us hl => match us, hl with | [_, _], _ => rfl
  have Fm6 := fun_mk (st := s_Z6) lm6 cm6 km6
  have bm6 := Fm6.binds (ps := ["self"]) fun _ _ _ _ _ _ us hl => match us, hl with | [_], _ => rfl
  have Fm8 := fun_mk (st := s_Z8) lm8 cm8 km8
  have bm8 := Fm8.binds (ps := ["self", "other"]) fun _ _ _ _ _ _ us hl => match us, hl with | [_, _], _ => rfl
  have Fm9 := fun_mk (st := s_Z9) lm9 cm9 km9
  have bm9 := Fm9.binds (ps := ["self", "other"]) fun _ _ _ _ _ _ us hl => match us, hl with | [_, _], _ => rfl
  have Fm10 := fun_mk (st := s_Z10) lm10 cm10 km10
  have bm10 := Fm10.binds (ps := ["self", "other"]) fun _ _ _ _ _ _ us hl => match us, hl with | [_, _], _ => rfl
  have Fm11 := fun_mk (st := s_Z11) lm11 cm11 km11
  have bm11 := Fm11.binds (ps := ["self"]) fun _ _ _ _ _ _ us hl => match us, hl with | [_], _ => rfl
  have Fm12 := fun_mk (st := s_Z12) lm12 cm12 km12
  have bm12 := Fm12.binds (ps := ["self", "other"]) fun _ _ _ _ _ _ us hl => match us, hl with | [_, _], _ => rfl
  have Fm14 := fun_mk (st := s_Z14) lm14 cm14 km14
  have bm14 := Fm14.binds (ps := ["self"]) fun _ _ _ _ _ _ us hl => match us, hl with | [_], _ => rfl
  have Fm7 := fun_mk (st := s_Z7) lm7 cm7 km7
  have bm7 := Fm7.binds (ps := ["self", "value"]) fun _ _ _ _ _ _ us hl => match us, hl with | [_, _], _ => rfl
  have Fm13 := fun_mk (st := s_Z13) lm13 cm13 km13
  have bm13 := Fm13.binds (ps := ["self", "count"]) fun _ _ _ _ _ _ us hl => match us, hl with | [_, _], _ => rfl
  have N : Zc K C := ⟨⟨pg, hd, po, sa⟩, nB⟩
  have I : Isn K C := ⟨q1, q2, q3, q4⟩
  have FZ : FunZ K tE fm0 _ := ⟨⟨ocm0, odm0, _, _, dcm0, pmm0, anm0, cdm0, ctm0, slm0, rfl, lm0, cm0, .inr ⟨by simp, tD, _, itD.toList, nmD, rfl, jD, by simp, vD⟩, .inr ⟨tK, rfl, fun q hq => by
    simp only [kwZ, List.mem_cons, List.not_mem_nil, or_false] at hq
    rcases hq with rfl | rfl
    · exact ⟨_, nKe, rfl⟩
    · exact ⟨_, nKo, rfl⟩⟩⟩, km0⟩
  have E0' : ∀ H, SqT K H tE [] := fun H => .inr ⟨_, itE, nmE, jE, rfl, rfl, hE, vE⟩
  have G0 := ok_Z0 (P := P) (w := w) (base := base) FZ N T0 Bwl Bct Bwb Btb
  have Gg1 := ok_Z1 (P := P) (w := w) (base := base) Fg1 N T0 Bts (PySem.W.mg_of X G dLE)
  have Gg2 := ok_Z2 (P := P) (w := w) (base := base) Fg2 N T0 Bts (PySem.W.mg_of X G dLO)
  have Z : ZK P w K mg base C tE := ⟨N, (PySem.W.mg_of X G aC), I, E0', ⟨fm0, _, ⟨mk, am0, im0, kc⟩, G0, FZ⟩, ⟨pg1, fg1, _, ⟨ag1, sg1, tg1, _, rg1⟩, Gg1, bg1⟩, ⟨pg2, fg2, _, ⟨ag2, sg2, tg2, _, rg2⟩, Gg2, bg2⟩⟩
  have Gg3 := ok_Z3 Fg3 N T0 Z Btb Bbi
  have Gg4 := ok_Z4 (P := P) (w := w) (base := base) Fg4 N T0 Blb
  have Gm14 := ok_Z14 Fm14 N T0 Z (⟨ag3, sg3, tg3, _, rg3⟩ : PropOf K C "listed" pg3 fg3) Gg3 bg3
  have Gm6 := ok_Z6 (P := P) (w := w) (base := base) Fm6 N T0
  have XX : ZX P w K mg base C tE := ⟨Z, ⟨pg3, fg3, _, ⟨ag3, sg3, tg3, _, rg3⟩, Gg3, bg3⟩, ⟨pg4, fg4, _, ⟨ag4, sg4, tg4, _, rg4⟩, Gg4, bg4⟩, ⟨fm14, am14, im14, Sq.FnOk.asR Gm14 bm14⟩, ⟨fm6, am6, im6, Sq.FnOk.asR Gm6 bm6⟩⟩
  have Fsw := fun_mk (st := s_set_with) lsw csw ksw
  have bsw := Fsw.binds (ps := ["bits"]) fun _ _ _ _ _ _ us hl => match us, hl with | [_], _ => rfl
  have Bsw : FB P w K mg base "set_with" 6 ["bits"] (spSetWith C) := ⟨fsw, _, ok_set_with (P := P) (w := w) (base := base) Fsw T0 Z, (PySem.W.mg_of X G asw), ksw, bsw⟩
  have Gm8 := ok_Z8 (P := P) (w := w) (base := base) Fm8 N T0 Bsw
  have Gm9 := ok_Z9 (P := P) (w := w) (base := base) Fm9 N T0 Bsw
  have Gm10 := ok_Z10 (P := P) (w := w) (base := base) Fm10 N T0 Bsw
  have Gm11 := ok_Z11 (P := P) (w := w) (base := base) Fm11 N T0 Bsw Btb
  have Gm5 := ok_Z5 (P := P) (w := w) (base := base) Fm5 N T0 I (PySem.W.mg_of X G aC)
  have Gm12 := ok_Z12 (P := P) (w := w) (base := base) Fm12 N T0
  have YY : ZY P w K mg base C tE := ⟨XX, sf, ⟨fm8, am8, im8, Sq.FnOk.asR Gm8 bm8⟩, ⟨fm9, am9, im9, Sq.FnOk.asR Gm9 bm9⟩, ⟨fm10, am10, im10, Sq.FnOk.asR Gm10 bm10⟩, ⟨fm11, am11, im11, Sq.FnOk.asR Gm11 bm11⟩, ⟨fm5, am5, im5, Sq.FnOk.asR Gm5 bm5⟩, ⟨fm12, _, ⟨am12, im12, km12⟩, Gm12, bm12⟩⟩
  have Gm7 := ok_Z7 (P := P) (w := w) (base := base) Fm7 N T0 Biw2 Bhb Bsf0
  have Gm13 := ok_Z13 (P := P) (w := w) (base := base) Fm13 N T0 Bwi Bhb Bsf0 (PySem.W.mg_of X G dLO) (PySem.W.mg_of X G dLE) (PySem.W.mg_of X G dMA)
  have WW : ZW P w K mg base C tE := ⟨YY, ne, ob, ⟨fm7, am7, im7, Sq.FnOk.asR Gm7 bm7⟩, ⟨fm13, _, ⟨am13, im13, km13⟩, Gm13, bm13⟩⟩
  have Fto := fun_mk (st := s__law_told) lto cto kto
  have bto := Fto.binds (ps := ["_law_box"]) fun _ _ _ _ _ _ us hl => match us, hl with | [_], _ => rfl
  have Bto : FB P w K mg base "_law_told" 10 ["_law_box"] (spTold C) := ⟨fto, _, ok__law_told (P := P) (w := w) (base := base) Fto T0 XX, (PySem.W.mg_of X G ato), kto, bto⟩
  have Fhl := fun_mk (st := s__law_has) lhl chl khl
  have bhl := Fhl.binds (ps := ["_law_chosen", "_law_tails", "_law_size"]) fun _ _ _ _ _ _ us hl => match us, hl with | [_, _, _], _ => rfl
  have Bhl : FB P w K mg base "_law_has" 1 ["_law_chosen", "_law_tails", "_law_size"] (spHasL K) := ⟨fhl, _, ok__law_has (P := P) (w := w) (base := base) Fhl T0 , (PySem.W.mg_of X G ahl), khl, bhl⟩
  have Ftr := fun_mk (st := s__law_truths) ltr ctr ktr
  have btr := Ftr.binds (ps := ["_law_chosen", "_law_tails"]) fun _ _ _ _ _ _ us hl => match us, hl with | [_, _], _ => rfl
  have Btr : FB P w K mg base "_law_truths" 2 ["_law_chosen", "_law_tails"] (spTruths K) := ⟨ftr, _, ok__law_truths (P := P) (w := w) (base := base) Ftr T0 Bhl, (PySem.W.mg_of X G atr), ktr, btr⟩
  have Fmd := fun_mk (st := s__law_made) lmd cmd kmd
  have bmd := Fmd.binds (ps := ["_law_chosen", "_law_tails"]) fun _ _ _ _ _ _ us hl => match us, hl with | [_, _], _ => rfl
  have Bmd : FB P w K mg base "_law_made" 6 ["_law_chosen", "_law_tails"] (spMadeZ K C) := ⟨fmd, _, ok__law_made (P := P) (w := w) (base := base) Fmd T0 XX, (PySem.W.mg_of X G amd), kmd, bmd⟩
  have Fpu := fun_mk (st := s__law_purl) lpu cpu kpu
  have bpu := Fpu.binds (ps := ["_law_script", "_law_spot"]) fun _ _ _ _ _ _ us hl => match us, hl with | [_, _], _ => rfl
  have Bpu : FB P w K mg base "_law_purl" 1 ["_law_script", "_law_spot"] (spPurl K) := ⟨fpu, _, ok__law_purl (P := P) (w := w) (base := base) Fpu T0 , (PySem.W.mg_of X G apu), kpu, bpu⟩
  have Fdg := fun_mk (st := s__law_dig) ldg cdg kdg
  have bdg := Fdg.binds (ps := ["_law_purl_here", "_law_many"]) fun _ _ _ _ _ _ us hl => match us, hl with | [_, _], _ => rfl
  have Bdg : FB P w K mg base "_law_dig" 1 ["_law_purl_here", "_law_many"] spDig := ⟨fdg, _, ok__law_dig (P := P) (w := w) (base := base) Fdg T0 , (PySem.W.mg_of X G adg), kdg, bdg⟩
  have Fli := fun_mk (st := s__law_listed) lli cli kli
  have bli := Fli.binds (ps := ["_law_purl_here"]) fun _ _ _ _ _ _ us hl => match us, hl with | [_], _ => rfl
  have Bli : FB P w K mg base "_law_listed" 2 ["_law_purl_here"] spListedL := ⟨fli, _, ok__law_listed (P := P) (w := w) (base := base) Fli T0 Bdg, (PySem.W.mg_of X G ali), kli, bli⟩
  have Ftl := fun_mk (st := s__law_tail) ltl ctl ktl
  have btl := Ftl.binds (ps := ["_law_purl_here", "_law_chosen", "_law_rest"]) fun _ _ _ _ _ _ us hl => match us, hl with | [_, _, _], _ => rfl
  have Btl : FB P w K mg base "_law_tail" 2 ["_law_purl_here", "_law_chosen", "_law_rest"] (spTailL K) := ⟨ftl, _, ok__law_tail (P := P) (w := w) (base := base) Ftl T0 Bdg, (PySem.W.mg_of X G atl), ktl, btl⟩
  have Fsh := fun_mk (st := s__law_shape) lsh csh ksh
  have bsh := Fsh.binds (ps := ["_law_truths_here"]) fun _ _ _ _ _ _ us hl => match us, hl with | [_], _ => rfl
  have Bsh : FB P w K mg base "_law_shape" 2 ["_law_truths_here"] (spShape K) := ⟨fsh, _, ok__law_shape (P := P) (w := w) (base := base) Fsh T0 Bhl, (PySem.W.mg_of X G ash), ksh, bsh⟩
  have Ffr := fun_mk (st := s__law_firsts) lfr cfr kfr
  have bfr := Ffr.binds (ps := ["_law_truths_here", "_law_many"]) fun _ _ _ _ _ _ us hl => match us, hl with | [_, _], _ => rfl
  have Bfr : FB P w K mg base "_law_firsts" 1 ["_law_truths_here", "_law_many"] (spFirstsL K) := ⟨ffr, _, ok__law_firsts (P := P) (w := w) (base := base) Ffr T0 , (PySem.W.mg_of X G afr), kfr, bfr⟩
  have Fst := fun_mk (st := s__law_step) lst cst kst
  have bst := Fst.binds (ps := ["_law_purl_here", "_law_boxes", "_law_rows"]) fun _ _ _ _ _ _ us hl => match us, hl with | [_, _, _], _ => rfl
  have Bst : FB P w K mg base "_law_step" 8 ["_law_purl_here", "_law_boxes", "_law_rows"] (spStep K C) := ⟨fst, _, ok__law_step (P := P) (w := w) (base := base) Fst T0 WW Bdg, (PySem.W.mg_of X G ast), kst, bst⟩
  have Flw := fun_mk (st := s__law_laws) llw clw klw
  have blw := Flw.binds (ps := ["_law_one", "_law_two"]) fun _ _ _ _ _ _ us hl => match us, hl with | [_, _], _ => rfl
  have Blw : FB P w K mg base "_law_laws" 8 ["_law_one", "_law_two"] (spLaws C) := ⟨flw, _, ok__law_laws (P := P) (w := w) (base := base) Flw T0 WW, (PySem.W.mg_of X G alw), klw, blw⟩
  have Fsi := fun_mk (st := s__law_single) lsi csi ksi
  have bsi := Fsi.binds (ps := ["_law_purl_here", "_law_box", "_law_truths_here"]) fun _ _ _ _ _ _ us hl => match us, hl with | [_, _, _], _ => rfl
  have Fri := fun_mk (st := s__law_right) lri cri kri
  have bri := Fri.binds (ps := ["_law_purl_here"]) fun _ _ _ _ _ _ us hl => match us, hl with | [_], _ => rfl
  have FL := fun_mk (st := s_law) lL cL kL
  have bL := FL.binds (ps := ["_law_script"]) fun _ _ _ _ _ _ us hl => match us, hl with | [_], _ => rfl
  have Bsi : FBG P w K mg base "_law_single" 12 (spSingle C) := ⟨fsi, ok__law_single WW Bdg Bsh Bto Bmd Bfr Fsi bsi T0 (PySem.W.mg_none_of X G z_repr), (PySem.W.mg_of X G asi), ksi⟩
  have Bri : FBG P w K mg base "_law_right" 14 spRight46 := ⟨fri, ok__law_right WW Bdg Bli Btl Bmd Btr Bst Blw Bfr Bsi Fri bri T0 (PySem.W.mg_none_of X G z_repr), (PySem.W.mg_of X G ari), kri⟩
  exact ok_law Bpu Bri FL bL T0 (PySem.W.mg_none_of X G z_repr)
end Sq
open PySem PySem.W PyProof.Rows
set_option maxRecDepth 100000 in
set_option maxHeartbeats 0 in
theorem PySem.Challenge.cw_squareloops_k46_whole_sizes_as_sets_holds : PySem.Challenge.rw_squareloops_k46_whole_sizes_as_sets.Holds := by
  w_on; o_law; k_head; (case hw => w_witness2)
  k_fill
  refine Sq.walkG (l := PySem.Challenge.rw_squareloops_k46_whole_sizes_as_sets) (k := 15) (sp := Sq.spLaw) rfl (by decide) rfl ⟨rfl, by decide, by decide⟩ (fun w h Y => PySem.W.kIn_of Y) ?F (fun K H a ns h1 _ h2 => ⟨a, ns, rfl, h2, h1, fun _ => rfl⟩)
  case F =>
    intro w mg fa h KX G hmg base _ _
    refine' Sq.all_mk KX G hmg ?dLE ?dLO ?dML ?dMA ?ahb ?lhb ?chb ?khb ?awb ?lwb ?cwb ?kwb ?alb ?llb ?clb ?klb ?abi ?lbi ?cbi ?kbi ?atb ?ltb ?ctb ?ktb ?ats ?lts ?cts ?kts ?aiw ?liw ?ciw ?kiw ?awi ?lwi ?cwi ?kwi ?asf0 ?lsf0 ?csf0 ?ksf0 ?act ?lct ?cct ?kct ?awl ?lwl ?cwl ?kwl ?aC ?am0 ?im0 ?lm0 ?cm0 ?km0 ?jD ?vD ?jE ?vE ?hE ?nKe ?nKo ?pg ?hd ?po ?sa ?mk ?kc ?nB ?q1 ?q2 ?q3 ?q4 ?sf ?ne ?ob ?ag1 ?sg1 ?tg1 ?rg1 ?lg1 ?cg1 ?kg1 ?ag2 ?sg2 ?tg2 ?rg2 ?lg2 ?cg2 ?kg2 ?ag3 ?sg3 ?tg3 ?rg3 ?lg3 ?cg3 ?kg3 ?ag4 ?sg4 ?tg4 ?rg4 ?lg4 ?cg4 ?kg4 ?am5 ?im5 ?lm5 ?cm5 ?km5 ?am6 ?im6 ?lm6 ?cm6 ?km6 ?am8 ?im8 ?lm8 ?cm8 ?km8 ?am9 ?im9 ?lm9 ?cm9 ?km9 ?am10 ?im10 ?lm10 ?cm10 ?km10 ?am11 ?im11 ?lm11 ?cm11 ?km11 ?am12 ?im12 ?lm12 ?cm12 ?km12 ?am14 ?im14 ?lm14 ?cm14 ?km14 ?am7 ?im7 ?lm7 ?cm7 ?km7 ?am13 ?im13 ?lm13 ?cm13 ?km13 ?asw ?lsw ?csw ?ksw ?ato ?lto ?cto ?kto ?ahl ?lhl ?chl ?khl ?atr ?ltr ?ctr ?ktr ?amd ?lmd ?cmd ?kmd ?apu ?lpu ?cpu ?kpu ?adg ?ldg ?cdg ?kdg ?ali ?lli ?cli ?kli ?atl ?ltl ?ctl ?ktl ?ash ?lsh ?csh ?ksh ?afr ?lfr ?cfr ?kfr ?ast ?lst ?cst ?kst ?alw ?llw ?clw ?klw ?asi ?lsi ?csi ?ksi ?ari ?lri ?cri ?kri ?aL ?lL ?cL ?kL ?z_len ?z_int ?z_abs ?z_divmod ?z_range ?z_isinstance ?z_bool ?z_tuple ?z_str ?z_list ?z_min ?z_max ?z_all ?z_any ?z_sum ?z_sorted ?z_enumerate ?z_repr base
    (case dLE => k_is)
    (case dLO => k_is)
    (case dML => k_is)
    (case dMA => k_is)
    (case ahb => k_is)
    (case lhb => k_is)
    (case chb => k_is)
    (case khb => k_is)
    (case awb => k_is)
    (case lwb => k_is)
    (case cwb => k_is)
    (case kwb => k_is)
    (case alb => k_is)
    (case llb => k_is)
    (case clb => k_is)
    (case klb => k_is)
    (case abi => k_is)
    (case lbi => k_is)
    (case cbi => k_is)
    (case kbi => k_is)
    (case atb => k_is)
    (case ltb => k_is)
    (case ctb => k_is)
    (case ktb => k_is)
    (case ats => k_is)
    (case lts => k_is)
    (case cts => k_is)
    (case kts => k_is)
    (case aiw => k_is)
    (case liw => k_is)
    (case ciw => k_is)
    (case kiw => k_is)
    (case awi => k_is)
    (case lwi => k_is)
    (case cwi => k_is)
    (case kwi => k_is)
    (case asf0 => k_is)
    (case lsf0 => k_is)
    (case csf0 => k_is)
    (case ksf0 => k_is)
    (case act => k_is)
    (case lct => k_is)
    (case cct => k_is)
    (case kct => k_is)
    (case awl => k_is)
    (case lwl => k_is)
    (case cwl => k_is)
    (case kwl => k_is)
    (case aC => k_is)
    (case am0 => k_is)
    (case im0 => k_is)
    (case lm0 => k_is)
    (case cm0 => k_is)
    (case km0 => k_is)
    (case jD => k_is)
    (case vD => exact .cons rfl .nil)
    (case jE => k_is)
    (case vE => exact .nil)
    (case hE => decide)
    (case nKe => k_is)
    (case nKo => k_is)
    (case pg => k_is)
    (case hd => k_is)
    (case po => k_is)
    (case sa => k_is)
    (case mk => k_is)
    (case kc => k_is)
    (case nB => k_is)
    (case q1 => k_is)
    (case q2 => k_is)
    (case q3 => k_is)
    (case q4 => k_is)
    (case sf => k_is)
    (case ne => k_is)
    (case ob => k_is)
    (case ag1 => k_is)
    (case sg1 => k_is)
    (case tg1 => k_is)
    (case rg1 => k_is)
    (case lg1 => k_is)
    (case cg1 => k_is)
    (case kg1 => k_is)
    (case ag2 => k_is)
    (case sg2 => k_is)
    (case tg2 => k_is)
    (case rg2 => k_is)
    (case lg2 => k_is)
    (case cg2 => k_is)
    (case kg2 => k_is)
    (case ag3 => k_is)
    (case sg3 => k_is)
    (case tg3 => k_is)
    (case rg3 => k_is)
    (case lg3 => k_is)
    (case cg3 => k_is)
    (case kg3 => k_is)
    (case ag4 => k_is)
    (case sg4 => k_is)
    (case tg4 => k_is)
    (case rg4 => k_is)
    (case lg4 => k_is)
    (case cg4 => k_is)
    (case kg4 => k_is)
    (case am5 => k_is)
    (case im5 => k_is)
    (case lm5 => k_is)
    (case cm5 => k_is)
    (case km5 => k_is)
    (case am6 => k_is)
    (case im6 => k_is)
    (case lm6 => k_is)
    (case cm6 => k_is)
    (case km6 => k_is)
    (case am8 => k_is)
    (case im8 => k_is)
    (case lm8 => k_is)
    (case cm8 => k_is)
    (case km8 => k_is)
    (case am9 => k_is)
    (case im9 => k_is)
    (case lm9 => k_is)
    (case cm9 => k_is)
    (case km9 => k_is)
    (case am10 => k_is)
    (case im10 => k_is)
    (case lm10 => k_is)
    (case cm10 => k_is)
    (case km10 => k_is)
    (case am11 => k_is)
    (case im11 => k_is)
    (case lm11 => k_is)
    (case cm11 => k_is)
    (case km11 => k_is)
    (case am12 => k_is)
    (case im12 => k_is)
    (case lm12 => k_is)
    (case cm12 => k_is)
    (case km12 => k_is)
    (case am14 => k_is)
    (case im14 => k_is)
    (case lm14 => k_is)
    (case cm14 => k_is)
    (case km14 => k_is)
    (case am7 => k_is)
    (case im7 => k_is)
    (case lm7 => k_is)
    (case cm7 => k_is)
    (case km7 => k_is)
    (case am13 => k_is)
    (case im13 => k_is)
    (case lm13 => k_is)
    (case cm13 => k_is)
    (case km13 => k_is)
    (case asw => k_is)
    (case lsw => k_is)
    (case csw => k_is)
    (case ksw => k_is)
    (case ato => k_is)
    (case lto => k_is)
    (case cto => k_is)
    (case kto => k_is)
    (case ahl => k_is)
    (case lhl => k_is)
    (case chl => k_is)
    (case khl => k_is)
    (case atr => k_is)
    (case ltr => k_is)
    (case ctr => k_is)
    (case ktr => k_is)
    (case amd => k_is)
    (case lmd => k_is)
    (case cmd => k_is)
    (case kmd => k_is)
    (case apu => k_is)
    (case lpu => k_is)
    (case cpu => k_is)
    (case kpu => k_is)
    (case adg => k_is)
    (case ldg => k_is)
    (case cdg => k_is)
    (case kdg => k_is)
    (case ali => k_is)
    (case lli => k_is)
    (case cli => k_is)
    (case kli => k_is)
    (case atl => k_is)
    (case ltl => k_is)
    (case ctl => k_is)
    (case ktl => k_is)
    (case ash => k_is)
    (case lsh => k_is)
    (case csh => k_is)
    (case ksh => k_is)
    (case afr => k_is)
    (case lfr => k_is)
    (case cfr => k_is)
    (case kfr => k_is)
    (case ast => k_is)
    (case lst => k_is)
    (case cst => k_is)
    (case kst => k_is)
    (case alw => k_is)
    (case llw => k_is)
    (case clw => k_is)
    (case klw => k_is)
    (case asi => k_is)
    (case lsi => k_is)
    (case csi => k_is)
    (case ksi => k_is)
    (case ari => k_is)
    (case lri => k_is)
    (case cri => k_is)
    (case kri => k_is)
    (case aL => k_is)
    (case lL => k_is)
    (case cL => k_is)
    (case kL => k_is)
    (case z_len => k_is)
    (case z_int => k_is)
    (case z_abs => k_is)
    (case z_divmod => k_is)
    (case z_range => k_is)
    (case z_isinstance => k_is)
    (case z_bool => k_is)
    (case z_tuple => k_is)
    (case z_str => k_is)
    (case z_list => k_is)
    (case z_min => k_is)
    (case z_max => k_is)
    (case z_all => k_is)
    (case z_any => k_is)
    (case z_sum => k_is)
    (case z_sorted => k_is)
    (case z_enumerate => k_is)
    (case z_repr => k_is)
