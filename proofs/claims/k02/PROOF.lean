import PyProof.Rows.All
import PySem.Challenge.RW_silentbeats_k02_whole_polynomials
import HandS.ForMost
import HandS.Gcd
import HandS.Wide
import HandS.Star
import HandS.Conv
import HandS.Strs
import HandS.Flow
import HandS.IsInst
import HandS.Codes
import HandS.Walk
import HandS.SortInts
import HandS.SetFor
import HandS.Defaults
import PyProof.ReprRoads
import PyProof.ReprLen
import PyProof.FitsInt
import HandS.Style
import HandS.TupMul
import HandS.Zip
import HandS.TupAny
import PyProof.WalkInts
import PyProof.Rows.SumAny
import PyProof.Rows.StrOr
import KE.GoesEnum
import KE.GoesMore
import PyProof.EnumMake
import HandS.NoneIn
import HandS.Rev
import HandS.RevRange
import HandS.WideBits
import PyProof.Rows.Digits
set_option Elab.async false
set_option linter.all false
set_option maxRecDepth 100000
/-! Defs that run where no repr is under way; repr of data. -/
namespace Gd
open PySem PySem.Spec PyProof.Rows L2

/-- a def's promise, given that no guard stands around the call -/
structure FnG (P : Program) (w : World) (K : PySem.W.Frag) (mg : Str → Option Value) (base : Heap) (k : Nat) (f : Addr) (fd : FuncData) (ps : List Str) (sp : Sp) : Prop where
  len : ∀ vs H Q E, sp vs H Q E → vs.length = ps.length
  go : ∀ {A : Around} {outer : List Env} {s : Shared} {H : Hp} {args : Args} {us : List Value} {vs : List V} {Q : VK} {E : XK},
    Room k A → A.guards = some [] → Env0 P w K mg base A outer s H → BindsTo s fd args (ps.zip us) → Vals vs us → sp vs H Q E →
    codeAny (model P w) A (.call (.ref f) args) (CR CX0 outer P w H s Q E) s

section
variable {P : Program} {w : World} {K : PySem.W.Frag} {mg : Str → Option Value} {base : Heap}

theorem FnG.of {k : Nat} {f : Addr} {fd : FuncData} {ps : List Str} {sp : Sp} (F : FnOk P w K mg base CX0 k f fd ps sp) : FnG P w K mg base k f fd ps sp :=
  ⟨F.len, fun hr _ e b v q => F.run _ _ _ _ _ _ _ _ _ hr e b v q⟩
theorem FnG.mono {j k : Nat} {f : Addr} {fd : FuncData} {ps : List Str} {sp : Sp} (F : FnG P w K mg base j f fd ps sp) (h : j ≤ k) : FnG P w K mg base k f fd ps sp :=
  ⟨F.len, fun hr g e b v q => F.go (hr.mono h) g e b v q⟩

/-- the rule for such a def, by its body -/
theorem okG {x qual : Str} {st : Stmt} {f : Addr} {fd : FuncData} {N ps : List Str} {k : Nat} {sp : Sp} (F : Fun K x qual st f fd) (S : FnScope N ps (defScope st))
    (len : ∀ vs H Q E, sp vs H Q E → vs.length = ps.length)
    (body : ∀ (cdv : Value) (A : Around) (outer : List Env) (s : Shared) (H : Hp) (vs : List V) (Q : VK) (E : XK),
      Room k (A.deeper (envOfC qual (defScope st) s.heap.objs.size f cdv)) → (A.deeper (envOfC qual (defScope st) s.heap.objs.size f cdv)).guards = some [] → sp vs H Q E →
      ∃ t, PSs (cxOf CX0 P w K mg base N qual (defScope st) f cdv A outer s H E).nox (defBody st) t ∧ t { nx := fun _ H' => Q .non H', rt := Q } (start N vs) H) :
    FnG P w K mg base (k + 1) f fd ps sp := by
  obtain ⟨oc, od, kV, doc, pm, an, cdv, ct, osl, rfl, lk, hcd⟩ := F.ex
  refine ⟨len, ?_⟩
  intro A outer s H args us vs Q E hr hg e0 hb r hsp
  have hlen := len _ _ _ _ hsp
  have keep : ∀ b o, base.get? b = some o → s.heap.get? b = some o := fun b o e => (e0.bs b o e).1
  have kin := e0.mod.kin.keeps keep
  have nolim := e0.mod.nolimit.keeps keep
  refine codeAny_call_function hr.depth (kin _ _ lk) rfl S.co S.gen rfl (PySem.W.codeRec_of kin hcd) (hb _ _ _ _ ?_)
  refine wpAny_newFunctionEnv_cells S.kind (fun y hy => ?kinds) (fun env he s1 x => ?run)
  case kinds =>
    have hp := List.of_mem_zip (a := y.1) (b := y.2) hy
    exact (S.par y.1 hp.1).imp id fun q => ⟨q, PySem.W.cellsFrom_some _ _ _ (.inl q)⟩
  case run =>
    cases he
    refine ⟨nolim.keeps x.toInCall.keep, codeAny_func ?_⟩
    obtain ⟨t, ht, hq⟩ := body cdv A outer s H vs Q E (hr.deeper _) hg hsp
    have I := inv_start (CX := CX0) (P := P) (w := w) (mg := mg) (E := E) S hr.hd e0 hlen r x
    have fin : ∀ {σ' : L2.St} {H' : Hp} {s' : Shared} {v : V} {u : Value}, Inv (cxOf CX0 P w K mg base N qual (defScope st) f cdv A outer s H E) [] σ' H' s' → RelV v u → Q v H' → CE outer P w H s Q u s' :=
      fun J rv q => ⟨_, _, J.os, J.bare, J.base, J.hok, rv, q⟩
    refine wpAny_mono (ht.nox.run [] s1 (start N vs) H _ I hq) (fun fl s' hs => ?_) (fun _ _ hs => hs)
    match fl, hs with
    | .ret u, ⟨_, _, _, J, rv, q⟩ => exact fin J rv q
    | .next, ⟨_, _, J, q⟩ => exact fin (v := V.non) (u := Value.none) J rfl q
    | .brk, ⟨_, _, _, q⟩ => exact q.elim
    | .cont, ⟨_, _, _, q⟩ => exact q.elim
end

section
variable {X : Cx} {k : Nat} {f : Addr} {fd : FuncData} {ps : List Str} {sp : Sp} {dvs : List V} {ds : List Value} {E : XK} {x : Str} {p pos : Pos} {e : Expr} {es : List Expr} {t : TA}

theorem runG {pins : List (Addr × Obj)} {σ : L2.St} {H : Hp} {s : Shared} {Q : VK} {us : List Value} {vs : List V} (F : FnG X.prog X.w X.K X.mg X.base k f fd ps sp) (hr : Room k X.A) (hG : X.A.guards = some []) (hb : Binds X.K fd ps [])
    (I : Inv X pins σ H s) (r : Vals vs us) (h : sp vs H Q E) : wpAny (model X.prog X.w) X.A (call (.ref f) us) (EP X pins σ Q) X.xe s := by
  have hl : (us ++ ([] : List Value)).length = ps.length := by
    rw [List.append_nil, ← r.length]
    exact F.len _ _ _ _ h
  have bt := hb s us I.kIn hl
  rw [List.append_nil] at bt
  refine wpAny_call (codeAny_mono (F.go hr hG I.env0 bt r h) fun res s' hq => ?_)
  match res, hq with
  | .ok (.ret _), hq => exact I.after hq
  | .ok .next, hq => exact hq.elim
  | .ok .brk, hq => exact hq.elim
  | .ok .cont, hq => exact hq.elim
  | .error _, hq => exact hq.elim

/-- f(e, ..) of such a def -/
theorem pe_callG (F : FnG X.prog X.w X.K X.mg X.base k f fd ps sp) (hr : Room k X.A) (hG : X.A.guards = some []) (hg : Gl X x) (hm : X.mg x = some (.ref f)) (hk : PySem.W.keepIn X.K (.ref f) = true) (hb : Binds X.K fd ps [])
    (ha : PA X (e :: es) t) (hdb : (x == ("__debug__" : Str)) = false := by decide) (he : starEach (e :: es) X.env = (false, eval e X.env) :: starEach es X.env := by rfl)
    (hpl : (backTo pos (starEach es X.env)).any (·.1) = false := by rfl) :
    PE X (.Call (.Name x p) (e :: es) [] pos) (fun σ H Q => t σ H fun vs H1 => sp vs H1 Q E0) := by
  constructor
  intro pins s σ H Q I h
  refine wpAny_Call_Name_kw (ld_glob I hg hm ?_ hdb)
  refine PySem.W.callWith_K (h₀ := X.base) I.ok.mod.kin hk ?_ he hpl
  refine thn (ha.run pos pins s σ H _ I h) ?_
  rintro us s1 ⟨vs, H1, I1, r, q⟩
  exact ⟨I1.kIn, runG F hr hG hb I1 r q⟩

/-- repr of data -/
def rRepr (K : PySem.W.Frag) : List V → Hp → VK → Prop := fun xs H Q => ∃ (a : Addr) (d : PyData), xs = [.ref a] ∧ Dp K H (.ref a) d ∧ d.showable = true ∧ d.hasDict = false ∧ d.depth ≤ 20 ∧ d.shown.length ≤ sizeLine ∧ Q (.str d.shown) H
theorem call_repr (hr : Room k X.A) (hG : X.A.guards = some []) : CallR X (.builtin "repr") (rRepr X.K) := by
  intro pins s σ H xs us Q I r h
  obtain ⟨a, d, rfl, hd, hs, hn, hdep, hz, q⟩ := h
  obtain ⟨u, rfl, ru⟩ := vals1 r
  cases ru
  obtain ⟨as, hrd⟩ := Dp.reads I d (.ref a) (.ref a) hd rfl
  refine repr_of_reads' hrd hs (PyData.noDict_hsm hn) hG ?_ (fun _ _ e => e) (fun h' u tk hk => ?_) hz
  · have := hr.units
    omega
  · exact ⟨.str d.shown, H, I.kept hk, ⟨u, rfl⟩, q⟩
end
end Gd

set_option Elab.async false
set_option linter.all false
set_option maxRecDepth 100000
namespace Gd
open PySem PySem.Spec PyProof.Rows L2

/-- the law's end from such a promise: what an abstract heap that tracks at most the script gives -/
theorem endG {P : Program} {w : World} {K : PySem.W.Frag} {mg mb : Str → Option Value} {k : Nat} {fa a : Addr} {fd : FuncData} {x : Str} {sp : Sp} {s1 : Shared} {vs : List Value} {H : Hp}
    (kin : K.In s1.heap) (glob : s1.heap.Ns mainGlobals mg) (bn : s1.heap.Ns builtinsNs mb) (bb : ∀ x : Str, x ≠ "__name__" → mb x = bootBuiltins x) (lim : s1.heap.NoLimit) (gens : s1.gens = #[])
    (hat : s1.heap.get? a = some { cls := .type "list", data := .seq vs.toArray }) (hr : Room k callerA)
    (F : ∀ base : Heap, K.In base → base.Ns mainGlobals mg → FnG P w K mg base k fa fd [x] sp) (bind : ∀ (s : Shared) (u : Value), BindsTo s fd ⟨[u], []⟩ [(x, u)])
    (sps : sp [.ref a] H (fun v _ => v = .bl true) fun _ _ _ => False) (only : Only H) (ok : HOk P w H s1.heap) (isA : ∀ b, H b ≠ none → b = a) (noK : H a ≠ none → K.lookup a = none) :
    codeAny (model P w) callerA (.call (.ref fa) ⟨[.ref a], []⟩) (fun r s' => r = .ok (.ret (.bool true)) ∧ OldK s1.heap s'.heap ∧ s'.os = s1.os ∧ AllBare s'.gens) s1 := by
  have none_of : ∀ {b : Addr}, b ≠ a → H b = none := fun {b} hb => by
    cases q : H b with
    | none => rfl
    | some u => exact absurd (isA b (by rw [q]; exact Option.some_ne_none u)) hb
  have none_dict : ∀ {b : Addr} {o : Obj} {es : Array DictEntry} {n : Nat}, s1.heap.get? b = some o → o.data = .dict es n → H b = none := by
    intro b o es n e d
    refine none_of fun z => ?_
    subst z
    cases hat.symm.trans e
    cases d
  have ns_of : ∀ {b : Addr} {m : Str → Option Value}, s1.heap.Ns b m → (hidT s1.heap H).Ns b m := by
    rintro b m ⟨o, es, n, e, d, more⟩
    exact ⟨o, es, n, hidT_get e (none_dict e d), d, more⟩
  have kinB : K.In (hidT s1.heap H) := by
    intro b o e
    refine hidT_get (kin b o e) ?_
    by_cases hb : b = a
    · subst hb
      cases q : H b with
      | none => rfl
      | some u =>
        have z := noK (by rw [q]; exact Option.some_ne_none u)
        rw [z] at e
        cases e
    · exact none_of hb
  have md : Mod K mg (hidT s1.heap H) := ⟨kinB, ns_of glob, ⟨mb, ns_of bn, bb⟩, let ⟨mc, c1, c2⟩ := lim; ⟨mc, ns_of c1, c2⟩⟩
  have e0 : Env0 P w K mg (hidT s1.heap H) callerA [] s1 H :=
    { frames := rfl, mod := md, bs := fun b o e => of_hidT e, bsz := Nat.le_of_eq (hidT_size _ _), funs := trivial, frf := fun _ z => (List.not_mem_nil z).elim, hok := ok, bare := .of_eq gens }
  refine codeAny_mono ((F _ kinB (ns_of glob)).go (us := [.ref a]) (vs := [.ref a]) hr rfl e0 (bind s1 (.ref a)) (.cons rfl .nil) sps) fun r s' h => ?_
  match r, h with
  | .error _, h => exact h.elim
  | .ok .next, h => exact h.elim
  | .ok .brk, h => exact h.elim
  | .ok .cont, h => exact h.elim
  | .ok (.ret u), ⟨v, H', os, bare, un, ok', rv, (hv : v = .bl true)⟩ =>
    subst hv
    obtain rfl : u = Value.bool true := rv
    refine ⟨rfl, OldK.of_keep fun b o e => ?_, os, bare⟩
    rcases only b with z | ⟨ob, xs, z⟩
    · exact un.keep b o e z List.not_mem_nil List.not_mem_nil
    · have e1 := (ok b _ z).1
      have e2 := (ok' b _ (un.frzs b ob _ z)).1
      exact e2.trans (e1.symm.trans e)

theorem walkG {l : PySem.W.OpenLaw} {n k : Nat} {q : Program} {loose : List Str} {XP : (Str → Option Value) → Heap → Prop} {YP : World → Heap → Prop} {d : DefRec} {K : Params → PySem.W.Frag} {sp : PySem.W.Frag → Sp} {x : Str}
    (hn : l.most = some n) (hn2 : n ≤ sizeLine) (hdf : d.params.defaults = []) (hr : Room k callerA)
    (hY : ∀ (w : World) (h : Heap), YP w h → (K w.params).In h)
    (F : ∀ (w : World) (mg : Str → Option Value) (fa : Addr) (h : Heap), (K w.params).In h → h.Ns mainGlobals mg → mg d.name = some (.ref fa) →
      ∃ fd : FuncData, (∀ (s : Shared) (u : Value), BindsTo s fd ⟨[u], []⟩ [(x, u)]) ∧
        ∀ base : Heap, (K w.params).In base → base.Ns mainGlobals mg → FnG l.prog w (K w.params) mg base k fa fd [x] (sp (K w.params)))
    (hsp : ∀ (K : PySem.W.Frag) (H : Hp) (a : Addr) (ns : List Int), ns.length ≤ n → Only H → SqL K H a (ns.map V.int) → sp K [.ref a] H (fun v _ => v = .bl true) fun _ _ _ => False) :
    PySem.W.WalkO q loose XP YP l.row.toRowW d [] (fun f vs => PySem.call f vs) := by
  refine Att.attach_call hn hdf fun w s0 s1 mg mb fa o pm cd doc a vs ns G Y ho hd hcd hmg hobj hints hlen hg => ?_
  have kin := hY w _ Y
  obtain ⟨fd, hb, hF⟩ := F w mg fa _ kin G.T.g hmg
  have rv := vals_ints hints
  have hz : ns.length ≤ sizeLine := Nat.le_trans hlen hn2
  cases hk : (K w.params).lookup a with
  | some ob =>
    have e := (kin a ob hk).symm.trans hobj
    cases e
    refine endG (H := fun _ => none) kin G.T.g G.T.b G.T.builtins G.T.nolimit hg hobj hr hF hb (hsp _ _ a ns hlen (fun _ => .inl rfl) (.inr ⟨_, vs.toArray, _, hk, rfl, rfl, rfl, ?_, rv⟩)) (fun _ => .inl rfl) (fun b u z => nomatch z) (fun b z => (z rfl).elim) (fun z => (z rfl).elim)
    rw [List.size_toArray, hints.length]
    exact hz
  | none =>
    have at_a : ∀ b, b = a → (if b = a then some (HO.frz { cls := .type "list", data := .seq vs.toArray } (.lst (ns.map V.int))) else none) = some (HO.frz { cls := .type "list", data := .seq vs.toArray } (.lst (ns.map V.int))) := fun b hb => if_pos hb
    refine endG (H := fun b => if b = a then some (.frz { cls := .type "list", data := .seq vs.toArray } (.lst (ns.map V.int))) else none) kin G.T.g G.T.b G.T.builtins G.T.nolimit hg hobj hr hF hb
      (hsp _ _ a ns hlen ?only (.inl (.inr ⟨_, if_pos rfl⟩))) ?only (fun b u z => ?_) (fun b z => ?_) (fun _ => hk)
    case only =>
      intro b
      by_cases hb : b = a
      · exact .inr ⟨_, _, if_pos hb⟩
      · exact .inl (if_neg hb)
    · by_cases hb : b = a
      · subst hb
        cases (if_pos rfl).symm.trans z
        refine ⟨hobj, ?_, vs, _, rv, hobj⟩
        rw [List.length_map]
        exact hz
      · cases (if_neg hb).symm.trans z
    · exact Classical.byContradiction fun hb => z (if_neg hb)
end Gd

set_option Elab.async false
set_option linter.all false
set_option maxRecDepth 100000
/-! What a name of the module promises, without guards (Cal) and where no repr is under way (CalG). -/
namespace Gd
open PySem PySem.Spec PyProof.Rows L2

structure Cal (P : Program) (w : World) (K : PySem.W.Frag) (mg : Str → Option Value) (base : Heap) (k : Nat) (x : Str) (sp : Sp) : Prop where
  ex : ∃ f, mg x = some (.ref f) ∧ PySem.W.keepIn K (.ref f) = true ∧ FnR P w K mg base CX0 k f sp
structure CalG (P : Program) (w : World) (K : PySem.W.Frag) (mg : Str → Option Value) (base : Heap) (k : Nat) (x : Str) (ps : List Str) (sp : Sp) : Prop where
  ex : ∃ f fd, mg x = some (.ref f) ∧ PySem.W.keepIn K (.ref f) = true ∧ Binds K fd ps [] ∧ FnG P w K mg base k f fd ps sp

section
variable {P : Program} {w : World} {K : PySem.W.Frag} {mg : Str → Option Value} {base : Heap}
/-- a def of the text as the name x holds it -/
structure At (K : PySem.W.Frag) (mg : Str → Option Value) (x : String) (st : Stmt) (ps : List Str) : Prop where
  ex : ∃ f fd, mg x = some (.ref f) ∧ Fun K x x st f fd ∧ Binds K fd ps []

theorem okC {x : String} {st : Stmt} {N ps : List Str} {k : Nat} {sp : Sp} (D : At K mg x st ps) (S : FnScope N ps (defScope st)) (len : ∀ vs H Q E, sp vs H Q E → vs.length = ps.length)
    (body : ∀ (f : Addr) (cdv : Value) (A : Around) (outer : List Env) (s : Shared) (H : Hp) (vs : List V) (Q : VK) (E : XK), Room k (A.deeper (envOfC x (defScope st) s.heap.objs.size f cdv)) → sp vs H Q E →
      ∃ t, PSs (cxOf CX0 P w K mg base N x (defScope st) f cdv A outer s H E).nox (defBody st) t ∧ t { nx := fun _ H' => Q .non H', rt := Q } (start N vs) H) : Cal P w K mg base (k + 1) x sp := by
  obtain ⟨f, fd, hm, F, hb⟩ := D.ex
  have G : FnOk P w K mg base CX0 (k + 1) f fd ps sp := F.ok S len (fun cdv A outer s H vs Q E hr h => body f cdv A outer s H vs Q E hr h)
  refine ⟨f, hm, F.kp, fun A outer s H us vs Q E hr e0 r h => ?_⟩
  have kin : K.In s.heap := e0.mod.kin.keeps fun b o e => (e0.bs b o e).1
  have hl : (us ++ ([] : List Value)).length = ps.length := by
    rw [List.append_nil, ← r.length]
    exact len _ _ _ _ h
  have bt := hb s us kin hl
  rw [List.append_nil] at bt
  exact G.run A outer s H _ us vs Q E hr e0 bt r h

theorem okCG {x : String} {st : Stmt} {N ps : List Str} {k : Nat} {sp : Sp} (D : At K mg x st ps) (S : FnScope N ps (defScope st)) (len : ∀ vs H Q E, sp vs H Q E → vs.length = ps.length)
    (body : ∀ (f : Addr) (cdv : Value) (A : Around) (outer : List Env) (s : Shared) (H : Hp) (vs : List V) (Q : VK) (E : XK), Room k (A.deeper (envOfC x (defScope st) s.heap.objs.size f cdv)) →
      (A.deeper (envOfC x (defScope st) s.heap.objs.size f cdv)).guards = some [] → sp vs H Q E →
      ∃ t, PSs (cxOf CX0 P w K mg base N x (defScope st) f cdv A outer s H E).nox (defBody st) t ∧ t { nx := fun _ H' => Q .non H', rt := Q } (start N vs) H) : CalG P w K mg base (k + 1) x ps sp := by
  obtain ⟨f, fd, hm, F, hb⟩ := D.ex
  exact ⟨f, fd, hm, F.kp, hb, okG F S len fun cdv A outer s H vs Q E hr hg h => body f cdv A outer s H vs Q E hr hg h⟩
end

section
variable {X : Cx} {j k : Nat} {ps : List Str} {sp : Sp} {x : Str} {p pos : Pos} {e : Expr} {es : List Expr} {t : TA}
theorem runC {pins : List (Addr × Obj)} {σ : L2.St} {H : Hp} {s : Shared} {Q : VK} {us : List Value} {vs : List V} {f : Addr} (F : FnR X.prog X.w X.K X.mg X.base CX0 k f sp) (hr : Room k X.A)
    (I : Inv X pins σ H s) (r : Vals vs us) (h : sp vs H Q E0) : wpAny (model X.prog X.w) X.A (call (.ref f) us) (EP X pins σ Q) X.xe s := by
  refine wpAny_call (codeAny_mono (F X.A X.stack s H us vs Q E0 hr I.env0 r h) fun res s' hq => ?_)
  match res, hq with
  | .ok (.ret _), hq => exact I.after hq
  | .ok .next, hq => exact hq.elim
  | .ok .brk, hq => exact hq.elim
  | .ok .cont, hq => exact hq.elim
  | .error _, hq => exact hq.elim
def tCal (sp : Sp) (t : TA) : TE := fun σ H Q => t σ H fun vs H1 => sp vs H1 Q E0
theorem pe_k (c : Cal X.prog X.w X.K X.mg X.base k x sp) (hr : Room j X.A) (hk : k ≤ j) (hg : Gl X x) (ha : PA X (e :: es) t) (hdb : (x == ("__debug__" : Str)) = false := by decide)
    (he : starEach (e :: es) X.env = (false, eval e X.env) :: starEach es X.env := by rfl) (hpl : (backTo pos (starEach es X.env)).any (·.1) = false := by rfl) :
    PE X (.Call (.Name x p) (e :: es) [] pos) (tCal sp t) := by
  obtain ⟨f, hm, hkp, F⟩ := c.ex
  constructor
  intro pins s σ H Q I h
  refine wpAny_Call_Name_kw (ld_glob I hg hm ?_ hdb)
  refine PySem.W.callWith_K (h₀ := X.base) I.ok.mod.kin hkp ?_ he hpl
  refine thn (ha.run pos pins s σ H _ I h) ?_
  rintro us s1 ⟨vs, H1, I1, r, q⟩
  exact ⟨I1.kIn, runC F (hr.mono hk) I1 r q⟩
theorem pe_k0 (c : Cal X.prog X.w X.K X.mg X.base k x sp) (hr : Room j X.A) (hk : k ≤ j) (hg : Gl X x) (hdb : (x == ("__debug__" : Str)) = false := by decide) :
    PE X (.Call (.Name x p) [] [] pos) (tCal sp tNil) := by
  obtain ⟨f, hm, hkp, F⟩ := c.ex
  constructor
  intro pins s σ H Q I h
  refine wpAny_Call_Name_kw (ld_glob I hg hm ?_ hdb)
  exact PySem.W.callWith_K0 I.kIn hkp (runC (us := []) F (hr.mono hk) I .nil h)
theorem pe_kG (c : CalG X.prog X.w X.K X.mg X.base k x ps sp) (hr : Room j X.A) (hG : X.A.guards = some []) (hk : k ≤ j) (hg : Gl X x) (ha : PA X (e :: es) t) (hdb : (x == ("__debug__" : Str)) = false := by decide)
    (he : starEach (e :: es) X.env = (false, eval e X.env) :: starEach es X.env := by rfl) (hpl : (backTo pos (starEach es X.env)).any (·.1) = false := by rfl) :
    PE X (.Call (.Name x p) (e :: es) [] pos) (tCal sp t) := by
  obtain ⟨f, fd, hm, hkp, hb, F⟩ := c.ex
  exact pe_callG F (hr.mono hk) hG hg hm hkp hb ha hdb he hpl
end

/-! ### heaps -/
/-- all that was tracked, but for what stands at d, is as it was -/
def Kp (d : Addr) (H H' : Hp) : Prop := ∀ b o, b ≠ d → H b = some o → H' b = some o
theorem Kp.refl (d : Addr) (H : Hp) : Kp d H H := fun _ _ _ h => h
theorem Kp.trans {d : Addr} {H H1 H2 : Hp} (a : Kp d H H1) (b : Kp d H1 H2) : Kp d H H2 := fun c o n h => b c o n (a c o n h)
theorem _root_.L2.Same.kp {d : Addr} {H H' : Hp} (a : Same H H') : Kp d H H' := fun b o _ h => a b o h
theorem Kp.upd_d {d : Addr} {H : Hp} {o : HO} : Kp d H (upd H d o) := fun b u n h => by
  rw [upd_ne n]
  exact h
theorem same_new {H : Hp} {p : Addr} {o : HO} (h : H p = none) : Same H (upd H p o) := fun b u e => by
  rw [upd_ne (ne_of_none e h)]
  exact e
/-- behind new objects and a store to one of them -/
theorem same_own {H H1 : Hp} {p : Addr} {o : HO} (a : Same H H1) (h : H p = none) : Same H (upd H1 p o) := fun b u e => by
  rw [upd_ne (ne_of_none e h)]
  exact a b u e
end Gd

set_option Elab.async false
set_option linter.all false
set_option maxRecDepth 100000
namespace Gd
open PySem PySem.Spec PyProof.Rows L2
/-- a comprehension that makes no change to what was there: what it makes of each item, or that it leaves it out -/
theorem lcF {J : It} {xs : List V} {G : Hp → Prop} (w : Walk J xs.length G (YAt xs)) {g : TG} {tt : TT} {te : TE} {vs : List Nat} {σ : L2.St} {H1 : Hp} {D : Addr} {Qd : Hp → Prop} (f : V → Option V)
    (hD : H1 D = none) (hz : xs.length < sizeLine) (hG : ∀ H', Same H1 H' → G H')
    (hs : ∀ (x : V) (H' : Hp) (R : V → Hp → Prop) (S : Hp → Prop), x ∈ xs → Same H1 H' → (∀ y, f x = some y → ∀ H4, Same H' H4 → R y H4) → (f x = none → ∀ H3, Same H' H3 → S H3) →
      g x (wipe σ vs) H' fun σ2 H2 => wipe σ2 vs = wipe σ vs ∧ tt σ2 H2 fun b H3 => if b = true then te σ2 H3 R else S H3)
    (hd : ∀ H', Same H1 H' → H' D = some (.lst (xs.filterMap f)) → Qd H') :
    ∃ W : Nat → Nat → Hp → Prop, (∃ m, W 0 m (upd H1 D (.lst []))) ∧ ∀ i m H, W i m H →
      (J.stop i H ∧ Qd H) ∨ (J.go i H ∧ ∃ Nx : Hp → Prop, (∀ H', Nx H' → ∃ m', m' < m ∧ W (i + 1) m' H') ∧ ∀ x H', J.yld i H x H' → g x (wipe σ vs) H' fun σ2 H2 => wipe σ2 vs = wipe σ vs ∧ tt σ2 H2 fun b H3 =>
        if b = true then te σ2 H3 fun y H4 => ∃ acc, H4 D = some (.lst acc) ∧ acc.length < sizeLine ∧ Nx (upd H4 D (.lst (acc ++ [y]))) else Nx H3) := by
  have step : ∀ i x, xs[i]? = some x → (xs.take (i + 1)).filterMap f = (xs.take i).filterMap f ++ (f x).toList := by
    intro i x hx
    rw [List.take_add_one, List.filterMap_append, hx]
    show _ ++ List.filterMap f [x] = _
    cases e : f x with
    | none => rw [List.filterMap_cons_none e]; rfl
    | some y => rw [List.filterMap_cons_some e]; rfl
  refine lc_it w (fun i H => Same H1 H ∧ H D = some (.lst ((xs.take i).filterMap f))) ⟨same_new hD, upd_same⟩ (fun i H _ p => hG H p.1) ?_ ?_
  · rintro i x H H' hi ⟨sm, hd'⟩ ⟨rfl, hx⟩
    refine hs x _ _ _ (List.mem_of_getElem? hx) sm (fun y hy H4 s4 => ?_) (fun hn H3 s3 => ?_)
    · refine ⟨_, s4 _ _ hd', ?_, same_own (sm.trans s4) hD, ?_⟩
      · have a1 := List.length_filterMap_le f (xs.take i)
        have a2 := List.length_take_le i xs
        rw [List.length_take] at a1
        omega
      · rw [upd_same, step i x hx, hy]
        rfl
    · refine ⟨sm.trans s3, ?_⟩
      rw [s3 _ _ hd', step i x hx, hn, Option.toList, List.append_nil]
  · rintro H ⟨sm, h⟩
    rw [List.take_length] at h
    exact hd H sm h
/-- the same without a test, what it makes of each item being said -/
theorem lcM {J : It} {xs : List V} {G : Hp → Prop} (w : Walk J xs.length G (YAt xs)) {g : TG} {te : TE} {vs : List Nat} {σ : L2.St} {H1 : Hp} {D : Addr} {Qd : Hp → Prop} (f : V → V)
    (hD : H1 D = none) (hz : xs.length < sizeLine) (hG : ∀ H', Same H1 H' → G H')
    (hs : ∀ (x : V) (H' : Hp) (R : V → Hp → Prop), x ∈ xs → Same H1 H' → (∀ H4, Same H' H4 → R (f x) H4) → g x (wipe σ vs) H' fun σ2 H2 => wipe σ2 vs = wipe σ vs ∧ te σ2 H2 R)
    (hd : ∀ H', Same H1 H' → H' D = some (.lst (xs.map f)) → Qd H') :
    ∃ W : Nat → Nat → Hp → Prop, (∃ m, W 0 m (upd H1 D (.lst []))) ∧ ∀ i m H, W i m H →
      (J.stop i H ∧ Qd H) ∨ (J.go i H ∧ ∃ Nx : Hp → Prop, (∀ H', Nx H' → ∃ m', m' < m ∧ W (i + 1) m' H') ∧ ∀ x H', J.yld i H x H' → g x (wipe σ vs) H' fun σ2 H2 => wipe σ2 vs = wipe σ vs ∧ tYes σ2 H2 fun b H3 =>
        if b = true then te σ2 H3 fun y H4 => ∃ acc, H4 D = some (.lst acc) ∧ acc.length < sizeLine ∧ Nx (upd H4 D (.lst (acc ++ [y]))) else Nx H3) := by
  refine lcF w (fun x => some (f x)) hD hz hG (fun x H' R S hx sm h1 _ => ?_) (fun H' sm h => hd H' sm ?_)
  · exact hs x H' R hx sm (h1 (f x) rfl)
  · rw [h, ← List.filterMap_eq_map]
    rfl
/-- a range as a walk over what it gives -/
def rgG (lo : Int) (n : Nat) : List V := (List.range n).map fun i => V.int (lo + (i : Nat))
theorem rgG_len (lo : Int) (n : Nat) : (rgG lo n).length = n := by
  unfold rgG
  rw [List.length_map, List.length_range]
theorem walk_rg {lo : Int} {n : Nat} : Walk (Itr lo n) (rgG lo n).length (fun _ => True) (YAt (rgG lo n)) := by
  rw [rgG_len]
  refine walk_range.mono (fun _ h => h) (fun i H x H' hi _ y => ⟨y.1, ?_⟩)
  unfold rgG
  rw [List.getElem?_map, List.getElem?_range hi, y.2]
  rfl
end Gd

set_option Elab.async false
set_option linter.all false
set_option maxRecDepth 100000
namespace K2
open PySem PySem.Spec PyProof.Rows L2 Gd
def topS (i : Nat) : Stmt := PySem.Challenge.pw_silentbeats_k02_whole_polynomials.main.body.getD i (.Pass ⟨0, 0, 0, 0⟩)
abbrev s_need : Stmt := topS 5
abbrev N_need : List Str := ["fits", "word"]
theorem sc_need : FnScope N_need ["fits", "word"] (defScope s_need) := ⟨rfl, rfl, rfl, by decide +kernel, rfl, by decide +kernel, by decide +kernel⟩
abbrev s_least_prime : Stmt := topS 8
abbrev N_least_prime : List Str := ["number", "trial"]
theorem sc_least_prime : FnScope N_least_prime ["number"] (defScope s_least_prime) := ⟨rfl, rfl, rfl, by decide +kernel, rfl, by decide +kernel, by decide +kernel⟩
abbrev s_prime_parts : Stmt := topS 9
abbrev N_prime_parts : List Str := ["number", "parts", "left", "prime", "power"]
theorem sc_prime_parts : FnScope N_prime_parts ["number"] (defScope s_prime_parts) := ⟨rfl, rfl, rfl, by decide +kernel, rfl, by decide +kernel, by decide +kernel⟩
abbrev s_is_integer : Stmt := topS 11
abbrev N_is_integer : List Str := ["thing"]
theorem sc_is_integer : FnScope N_is_integer ["thing"] (defScope s_is_integer) := ⟨rfl, rfl, rfl, by decide +kernel, rfl, by decide +kernel, by decide +kernel⟩
abbrev s_is_size : Stmt := topS 12
abbrev N_is_size : List Str := ["thing"]
theorem sc_is_size : FnScope N_is_size ["thing"] (defScope s_is_size) := ⟨rfl, rfl, rfl, by decide +kernel, rfl, by decide +kernel, by decide +kernel⟩
abbrev s_are_integers : Stmt := topS 13
abbrev N_are_integers : List Str := ["thing", "each"]
theorem sc_are_integers : FnScope N_are_integers ["thing"] (defScope s_are_integers) := ⟨rfl, rfl, rfl, by decide +kernel, rfl, by decide +kernel, by decide +kernel⟩
abbrev s_is_voice : Stmt := topS 14
abbrev N_is_voice : List Str := ["thing"]
theorem sc_is_voice : FnScope N_is_voice ["thing"] (defScope s_is_voice) := ⟨rfl, rfl, rfl, by decide +kernel, rfl, by decide +kernel, by decide +kernel⟩
abbrev s_is_voice_of : Stmt := topS 15
abbrev N_is_voice_of : List Str := ["size", "thing"]
theorem sc_is_voice_of : FnScope N_is_voice_of ["size", "thing"] (defScope s_is_voice_of) := ⟨rfl, rfl, rfl, by decide +kernel, rfl, by decide +kernel, by decide +kernel⟩
abbrev s_is_polynomial : Stmt := topS 16
abbrev N_is_polynomial : List Str := ["thing"]
theorem sc_is_polynomial : FnScope N_is_polynomial ["thing"] (defScope s_is_polynomial) := ⟨rfl, rfl, rfl, by decide +kernel, rfl, by decide +kernel, by decide +kernel⟩
abbrev s_is_monic : Stmt := topS 17
abbrev N_is_monic : List Str := ["thing"]
theorem sc_is_monic : FnScope N_is_monic ["thing"] (defScope s_is_monic) := ⟨rfl, rfl, rfl, by decide +kernel, rfl, by decide +kernel, by decide +kernel⟩
abbrev s_trimmed : Stmt := topS 19
abbrev N_trimmed : List Str := ["weights", "many"]
theorem sc_trimmed : FnScope N_trimmed ["weights"] (defScope s_trimmed) := ⟨rfl, rfl, rfl, by decide +kernel, rfl, by decide +kernel, by decide +kernel⟩
abbrev s_padded : Stmt := topS 20
abbrev N_padded : List Str := ["one", "many"]
theorem sc_padded : FnScope N_padded ["one", "many"] (defScope s_padded) := ⟨rfl, rfl, rfl, by decide +kernel, rfl, by decide +kernel, by decide +kernel⟩
abbrev s_divided : Stmt := topS 21
abbrev N_divided : List Str := ["one", "divisor", "degree", "rest", "factor", "shift", "lead", "k", "_"]
theorem sc_divided : FnScope N_divided ["one", "divisor"] (defScope s_divided) := ⟨rfl, rfl, rfl, by decide +kernel, rfl, by decide +kernel, by decide +kernel⟩
abbrev s_widened : Stmt := topS 22
abbrev N_widened : List Str := ["one", "step", "weights", "k", "weight", "_"]
theorem sc_widened : FnScope N_widened ["one", "step"] (defScope s_widened) := ⟨rfl, rfl, rfl, by decide +kernel, rfl, by decide +kernel, by decide +kernel⟩
abbrev s_polynomial_of : Stmt := topS 23
abbrev N_polynomial_of : List Str := ["voice"]
theorem sc_polynomial_of : FnScope N_polynomial_of ["voice"] (defScope s_polynomial_of) := ⟨rfl, rfl, rfl, by decide +kernel, rfl, by decide +kernel, by decide +kernel⟩
abbrev s_times : Stmt := topS 24
abbrev N_times : List Str := ["one", "other", "weights", "j", "weight", "_", "k", "factor"]
theorem sc_times : FnScope N_times ["one", "other"] (defScope s_times) := ⟨rfl, rfl, rfl, by decide +kernel, rfl, by decide +kernel, by decide +kernel⟩
abbrev s_plus : Stmt := topS 25
abbrev N_plus : List Str := ["one", "other", "many", "a", "b"]
theorem sc_plus : FnScope N_plus ["one", "other"] (defScope s_plus) := ⟨rfl, rfl, rfl, by decide +kernel, rfl, by decide +kernel, by decide +kernel⟩
abbrev s_rest_by : Stmt := topS 26
abbrev N_rest_by : List Str := ["one", "divisor"]
theorem sc_rest_by : FnScope N_rest_by ["one", "divisor"] (defScope s_rest_by) := ⟨rfl, rfl, rfl, by decide +kernel, rfl, by decide +kernel, by decide +kernel⟩
abbrev s_exact_by : Stmt := topS 27
abbrev N_exact_by : List Str := ["one", "divisor", "factor", "rest"]
theorem sc_exact_by : FnScope N_exact_by ["one", "divisor"] (defScope s_exact_by) := ⟨rfl, rfl, rfl, by decide +kernel, rfl, by decide +kernel, by decide +kernel⟩
abbrev s_value_at : Stmt := topS 28
abbrev N_value_at : List Str := ["one", "number", "value", "weight"]
theorem sc_value_at : FnScope N_value_at ["one", "number"] (defScope s_value_at) := ⟨rfl, rfl, rfl, by decide +kernel, rfl, by decide +kernel, by decide +kernel⟩
abbrev s_cyclotomic : Stmt := topS 29
abbrev N_cyclotomic : List Str := ["number", "found", "left", "prime", "_"]
theorem sc_cyclotomic : FnScope N_cyclotomic ["number"] (defScope s_cyclotomic) := ⟨rfl, rfl, rfl, by decide +kernel, rfl, by decide +kernel, by decide +kernel⟩
abbrev s_need_number : Stmt := topS 31
abbrev N_need_number : List Str := ["number"]
theorem sc_need_number : FnScope N_need_number ["number"] (defScope s_need_number) := ⟨rfl, rfl, rfl, by decide +kernel, rfl, by decide +kernel, by decide +kernel⟩
abbrev s_totient_of : Stmt := topS 32
abbrev N_totient_of : List Str := ["number", "many", "prime", "power"]
theorem sc_totient_of : FnScope N_totient_of ["number"] (defScope s_totient_of) := ⟨rfl, rfl, rfl, by decide +kernel, rfl, by decide +kernel, by decide +kernel⟩
abbrev s_product_of : Stmt := topS 34
abbrev N_product_of : List Str := ["one", "other", "size", "weights", "j", "weight", "k", "_", "beat"]
theorem sc_product_of : FnScope N_product_of ["one", "other"] (defScope s_product_of) := ⟨rfl, rfl, rfl, by decide +kernel, rfl, by decide +kernel, by decide +kernel⟩
abbrev s__law_feed : Stmt := topS 36
abbrev N__law_feed : List Str := ["_law_script", "_law_cell"]
theorem sc__law_feed : FnScope N__law_feed ["_law_script"] (defScope s__law_feed) := ⟨rfl, rfl, rfl, by decide +kernel, rfl, by decide +kernel, by decide +kernel⟩
abbrev s__law_draw : Stmt := topS 37
abbrev N__law_draw : List Str := ["_law_feed_here", "_law_limit", "_law_cell", "_law_stirred", "_law_digit", "_law_cells", "_law_spot"]
theorem sc__law_draw : FnScope N__law_draw ["_law_feed_here", "_law_limit"] (defScope s__law_draw) := ⟨rfl, rfl, rfl, by decide +kernel, rfl, by decide +kernel, by decide +kernel⟩
abbrev s__law_any : Stmt := topS 38
abbrev N__law_any : List Str := ["_law_feed_here", "_law_some"]
theorem sc__law_any : FnScope N__law_any ["_law_feed_here", "_law_some"] (defScope s__law_any) := ⟨rfl, rfl, rfl, by decide +kernel, rfl, by decide +kernel, by decide +kernel⟩
abbrev s__law_same : Stmt := topS 39
abbrev N__law_same : List Str := ["_law_told", "_law_due"]
theorem sc__law_same : FnScope N__law_same ["_law_told", "_law_due"] (defScope s__law_same) := ⟨rfl, rfl, rfl, by decide +kernel, rfl, by decide +kernel, by decide +kernel⟩
abbrev s__law_primes : Stmt := topS 40
abbrev N__law_primes : List Str := ["_law_whole", "_law_found", "_law_rest", "_law_step"]
theorem sc__law_primes : FnScope N__law_primes ["_law_whole"] (defScope s__law_primes) := ⟨rfl, rfl, rfl, by decide +kernel, rfl, by decide +kernel, by decide +kernel⟩
abbrev s__law_divisors : Stmt := topS 41
abbrev N__law_divisors : List Str := ["_law_whole", "_law_found", "_law_step", "_law_part"]
theorem sc__law_divisors : FnScope N__law_divisors ["_law_whole"] (defScope s__law_divisors) := ⟨rfl, rfl, rfl, by decide +kernel, rfl, by decide +kernel, by decide +kernel⟩
abbrev s__law_bare : Stmt := topS 42
abbrev N__law_bare : List Str := ["_law_row_here", "_law_found"]
theorem sc__law_bare : FnScope N__law_bare ["_law_row_here"] (defScope s__law_bare) := ⟨rfl, rfl, rfl, by decide +kernel, rfl, by decide +kernel, by decide +kernel⟩
abbrev s__law_times : Stmt := topS 43
abbrev N__law_times : List Str := ["_law_first", "_law_second", "_law_found", "_law_i", "_law_j"]
theorem sc__law_times : FnScope N__law_times ["_law_first", "_law_second"] (defScope s__law_times) := ⟨rfl, rfl, rfl, by decide +kernel, rfl, by decide +kernel, by decide +kernel⟩
abbrev s__law_split : Stmt := topS 44
abbrev N__law_split : List Str := ["_law_first", "_law_base_here", "_law_spot", "_law_rest", "_law_found", "_law_many_in", "_law_j"]
theorem sc__law_split : FnScope N__law_split ["_law_first", "_law_base_here"] (defScope s__law_split) := ⟨rfl, rfl, rfl, by decide +kernel, rfl, by decide +kernel, by decide +kernel⟩
abbrev s__law_round : Stmt := topS 45
abbrev N__law_round : List Str := ["_law_whole", "_law_step", "_law_found", "_law_seen", "_law_late", "_law_j"]
theorem sc__law_round : FnScope N__law_round ["_law_whole"] (defScope s__law_round) := ⟨rfl, rfl, rfl, by decide +kernel, rfl, by decide +kernel, by decide +kernel⟩
abbrev s__law_product : Stmt := topS 46
abbrev N__law_product : List Str := ["_law_first", "_law_second", "_law_size_in", "_law_found", "_law_i", "_law_j", "_law_spot"]
theorem sc__law_product : FnScope N__law_product ["_law_first", "_law_second"] (defScope s__law_product) := ⟨rfl, rfl, rfl, by decide +kernel, rfl, by decide +kernel, by decide +kernel⟩
abbrev s__law_turned : Stmt := topS 47
abbrev N__law_turned : List Str := ["_law_tune_here", "_law_step", "_law_j"]
theorem sc__law_turned : FnScope N__law_turned ["_law_tune_here", "_law_step"] (defScope s__law_turned) := ⟨rfl, rfl, rfl, by decide +kernel, rfl, by decide +kernel, by decide +kernel⟩
abbrev s__law_strokes : Stmt := topS 48
abbrev N__law_strokes : List Str := ["_law_size_in", "_law_spots", "_law_j"]
theorem sc__law_strokes : FnScope N__law_strokes ["_law_size_in", "_law_spots"] (defScope s__law_strokes) := ⟨rfl, rfl, rfl, by decide +kernel, rfl, by decide +kernel, by decide +kernel⟩
abbrev s__law_tune : Stmt := topS 49
abbrev N__law_tune : List Str := ["_law_feed_here", "_law_size_in", "_law_way", "_law_step", "_law_great", "_law_j", "_law_part"]
theorem sc__law_tune : FnScope N__law_tune ["_law_feed_here", "_law_size_in"] (defScope s__law_tune) := ⟨rfl, rfl, rfl, by decide +kernel, rfl, by decide +kernel, by decide +kernel⟩
abbrev s__law_row : Stmt := topS 50
abbrev N__law_row : List Str := ["_law_feed_here", "_law_great", "_law_lap"]
theorem sc__law_row : FnScope N__law_row ["_law_feed_here"] (defScope s__law_row) := ⟨rfl, rfl, rfl, by decide +kernel, rfl, by decide +kernel, by decide +kernel⟩
abbrev s__law_base : Stmt := topS 51
abbrev N__law_base : List Str := ["_law_feed_here", "_law_lap"]
theorem sc__law_base : FnScope N__law_base ["_law_feed_here"] (defScope s__law_base) := ⟨rfl, rfl, rfl, by decide +kernel, rfl, by decide +kernel, by decide +kernel⟩
abbrev s__law_sum : Stmt := topS 52
abbrev N__law_sum : List Str := ["_law_first", "_law_second", "_law_found", "_law_j"]
theorem sc__law_sum : FnScope N__law_sum ["_law_first", "_law_second"] (defScope s__law_sum) := ⟨rfl, rfl, rfl, by decide +kernel, rfl, by decide +kernel, by decide +kernel⟩
abbrev s__law_value : Stmt := topS 53
abbrev N__law_value : List Str := ["_law_row_here", "_law_spot", "_law_found", "_law_part"]
theorem sc__law_value : FnScope N__law_value ["_law_row_here", "_law_spot"] (defScope s__law_value) := ⟨rfl, rfl, rfl, by decide +kernel, rfl, by decide +kernel, by decide +kernel⟩
abbrev s__law_are_rows_right : Stmt := topS 54
abbrev N__law_are_rows_right : List Str := ["_law_feed_here", "_law_base_here", "_law_told", "_law_comes", "_law_spot", "_law_first", "_law_second", "_law_late", "_law_both", "_law_left", "_law_more", "_law_high", "_law_low"]
theorem sc__law_are_rows_right : FnScope N__law_are_rows_right ["_law_feed_here"] (defScope s__law_are_rows_right) := ⟨rfl, rfl, rfl, by decide +kernel, rfl, by decide +kernel, by decide +kernel⟩
abbrev s__law_is_round_right : Stmt := topS 55
abbrev N__law_is_round_right : List Str := ["_law_whole", "_law_parts", "_law_one_in", "_law_found", "_law_part", "_law_told", "_law_due"]
theorem sc__law_is_round_right : FnScope N__law_is_round_right ["_law_whole"] (defScope s__law_is_round_right) := ⟨rfl, rfl, rfl, by decide +kernel, rfl, by decide +kernel, by decide +kernel⟩
abbrev s__law_are_voices_right : Stmt := topS 56
abbrev N__law_are_voices_right : List Str := ["_law_feed_here", "_law_size_in", "_law_told", "_law_base_here", "_law_late", "_law_first", "_law_second"]
theorem sc__law_are_voices_right : FnScope N__law_are_voices_right ["_law_feed_here"] (defScope s__law_are_voices_right) := ⟨rfl, rfl, rfl, by decide +kernel, rfl, by decide +kernel, by decide +kernel⟩
abbrev s_law : Stmt := topS 57
abbrev N_law : List Str := ["_law_script", "_law_feed_here", "_law_lap", "_law_some", "_law_whole"]
theorem sc_law : FnScope N_law ["_law_script"] (defScope s_law) := ⟨rfl, rfl, rfl, by decide +kernel, rfl, by decide +kernel, by decide +kernel⟩
end K2

set_option Elab.async false
set_option linter.all false
set_option maxRecDepth 100000
namespace K2
open PySem PySem.Spec PyProof.Rows L2 Gd
section
variable {P : Program} {w : World} {K : PySem.W.Frag} {mg : Str → Option Value} {base : Heap}
def spNeed : Sp := fun vs H Q _ => ∃ z, vs = [.bl true, z] ∧ Q .non H
theorem c_need (D : At K mg "need" s_need ["fits", "word"]) : Cal P w K mg base 1 "need" spNeed := by
  refine okC D sc_need (fun vs H Q E h => ?_) (fun f cdv A outer s H vs Q E hr h => ?_)
  · obtain ⟨z, rfl, _⟩ := h
    rfl
  · obtain ⟨z, rfl, q⟩ := h
    have nd := sc_need.nd
    refine ⟨_, (pss_one (ps_if (pt_not (pt_val (pv 0)))
 (pss_one ps_never)
 pss_nil)), ?_⟩
    refine ⟨_, rfl, true, rfl, iteF ?_⟩
    exact q
def spNeedEach (K : PySem.W.Frag) : Sp := fun vs H Q _ => ∃ (a : Addr) (n : Nat) (z : V), vs = [.ref a, z] ∧ SqL K H a (List.replicate n (V.bl true)) ∧ ∀ H', Same H H' → Q .non H'
def spIsInt : Sp := fun vs H Q _ => ∃ i, vs = [.int i] ∧ Q (.bl true) H
theorem c_is_integer (D : At K mg "is_integer" s_is_integer ["thing"]) (z_isinstance : mg "isinstance" = none) (z_int : mg "int" = none) (z_bool : mg "bool" = none) : Cal P w K mg base 1 "is_integer" spIsInt := by
  refine okC D sc_is_integer (fun vs H Q E h => ?_) (fun f cdv A outer s H vs Q E hr h => ?_)
  · obtain ⟨z, rfl, _⟩ := h
    rfl
  · obtain ⟨z, rfl, q⟩ := h
    have nd := sc_is_integer.nd
    refine ⟨_, (pss_one (ps_ret (pe_and (pe_callB call_isi (by rfl) z_isinstance (by decide +kernel) (pa_cons (pv 0) (pa_cons (pe_bltn (by rfl) z_int (by decide +kernel) (v := .ty "int") rfl) pa_nil))) (pe_one (pe_not (pe_callB call_isi (by rfl) z_isinstance (by decide +kernel) (pa_cons (pv 0) (pa_cons (pe_bltn (by rfl) z_bool (by decide +kernel) (v := .ty "bool") rfl) pa_nil)))))))), ?_⟩
    refine ⟨_, rfl, _, _, _, _, true, rfl, .ty "int", .base (.int z), kit_ty (by decide +kernel), true, rfl, iteT ?_⟩
    refine ⟨_, rfl, _, _, _, _, false, rfl, .ty "bool", .base (.int z), kit_ty (by decide +kernel), false, rfl, ?_⟩
    exact q
def spIsSize : Sp := fun vs H Q _ => ∃ i : Int, vs = [.int i] ∧ Q (.bl (decide (1 ≤ i))) H
theorem c_is_size (D : At K mg "is_size" s_is_size ["thing"]) (c_is_integer : Cal P w K mg base 1 "is_integer" spIsInt) : Cal P w K mg base 2 "is_size" spIsSize := by
  refine okC D sc_is_size (fun vs H Q E h => ?_) (fun f cdv A outer s H vs Q E hr h => ?_)
  · obtain ⟨z, rfl, _⟩ := h
    rfl
  · obtain ⟨z, rfl, q⟩ := h
    have nd := sc_is_size.nd
    refine ⟨_, (pss_one (ps_ret (pe_and (pe_k c_is_integer hr (by decide) (by rfl) (pa_cons (pv 0) pa_nil)) (pe_one (pe_cmpR op_ge (pv 0) pe_int (nomark _)))))), ?_⟩
    refine ⟨_, rfl, z, rfl, true, rfl, iteT ?_⟩
    exact ⟨_, rfl, z, 1, rfl, rfl, q⟩
def spAreInts (K : PySem.W.Frag) : Sp := fun vs H Q _ => ∃ (a : Addr) (ns : List Int), vs = [.ref a] ∧ H a = some (.tup (ns.map V.int)) ∧ ns.length ≤ 1000 ∧ ∀ H', Same H H' → Q (.bl true) H'
theorem c_are_integers (D : At K mg "are_integers" s_are_integers ["thing"]) (c_is_integer : Cal P w K mg base 1 "is_integer" spIsInt) (z_isinstance : mg "isinstance" = none) (z_tuple : mg "tuple" = none) (z_all : mg "all" = none) :
    Cal P w K mg base 2 "are_integers" (spAreInts K) := by
  refine okC D sc_are_integers (fun vs H Q E h => ?_) (fun f cdv A outer s H vs Q E hr h => ?_)
  · obtain ⟨a, ns, rfl, _⟩ := h
    rfl
  · obtain ⟨a, ns, rfl, ha, hz, q⟩ := h
    have nd := sc_are_integers.nd
    refine ⟨_, (pss_one (ps_ret (pe_and (pe_callB call_isi (by rfl) z_isinstance (by decide +kernel) (pa_cons (pv 0) (pa_cons (pe_bltn (by rfl) z_tuple (by decide +kernel) (v := .ty "tuple") rfl) pa_nil))) (pe_one (pe_callB (cr_all rfl) (by rfl) z_all (by decide +kernel) (pa_cons (pe_lc (own := [("each", 1)]) rfl nd (pi_tup (pv 0)) (blkOk_by (N := N_are_integers) (sc := defScope s_are_integers) (by decide +kernel)) (fun _ _ _ _ _ => pg_name (i := 1) nd rfl (Or.inl rfl)) (fun _ _ _ _ _ => pts_nil) (fun _ _ _ _ _ => (pe_k c_is_integer hr (by decide) (by rfl) (pa_cons (pv 1) pa_nil)))) pa_nil)))))), ?_⟩
    refine ⟨_, rfl, _, _, _, _, true, rfl, .ty "tuple", .base (.tup ha), kit_ty (by decide +kernel), true, rfl, iteT ?_⟩
    refine ⟨_, rfl, a, rfl, ⟨_, .inl (.inl ha)⟩, fun D hD => lcM (walk_tup (xs := ns.map V.int)) (fun _ => .bl true) hD ?_ (fun H' sm => .inl (.inl (sm _ _ ha))) ?_ ?_⟩
    · rw [List.length_map]
      exact small1000 hz
    · intro x H' R hx sm h1
      obtain ⟨i, _, rfl⟩ := List.mem_map.mp hx
      refine ⟨rfl, _, rfl, i, rfl, h1 H' (Same.refl _)⟩
    · intro H' sm hd
      have e : (ns.map V.int).map (fun _ => V.bl true) = (List.replicate ns.length true).map V.bl := by
        rw [List.map_map, List.map_replicate]
        exact List.map_eq_replicate_iff.mpr fun _ _ => rfl
      rw [e] at hd
      refine ⟨D, _, rfl, .inl (.inl hd), ?_⟩
      rw [List.all_eq_true.mpr fun b hb => by rw [List.eq_of_mem_replicate hb]; rfl]
      exact q H' sm
end
end K2

/-! Quotients in lowest terms, plainly. -/
namespace Qu
def gq (a b : Int) : Int := ((Nat.gcd a.natAbs b.natAbs : Nat) : Int)
def cut (a b : Int) : Int × Int := ((if 0 < b then a else -a) / gq a b, (b.natAbs : Int) / gq a b)
structure IsQ (q : Int × Int) : Prop where
  pos : 0 < q.2
  cop : Nat.gcd q.1.natAbs q.2.natAbs = 1
theorem gq_pos {a b : Int} (h : b ≠ 0) : 0 < gq a b := by
  unfold gq
  have := Nat.gcd_pos_of_pos_right a.natAbs (n := b.natAbs) (by omega)
  omega
theorem gq_l (a b : Int) : gq a b ∣ a := by
  unfold gq
  exact Int.gcd_dvd_left a b
theorem gq_r (a b : Int) : gq a b ∣ b := by
  unfold gq
  exact Int.gcd_dvd_right a b
theorem cut_1 {a b : Int} : (cut a b).1 * gq a b = if 0 < b then a else -a := by
  unfold cut
  refine Int.ediv_mul_cancel ?_
  split
  · exact gq_l a b
  · exact (Int.dvd_neg).mpr (gq_l a b)
theorem cut_2 {a b : Int} : (cut a b).2 * gq a b = (b.natAbs : Int) := by
  unfold cut
  refine Int.ediv_mul_cancel ?_
  exact Int.dvd_natAbs.mpr (gq_r a b)
theorem cut_pos {a b : Int} (h : b ≠ 0) : 0 < (cut a b).2 := by
  have h1 := cut_2 (a := a) (b := b)
  have h2 := gq_pos (a := a) h
  have h3 : 0 < (b.natAbs : Int) := by omega
  rw [← h1] at h3
  exact Int.pos_of_mul_pos_left h3 h2 |> fun z => z
theorem cut_isQ {a b : Int} (h : b ≠ 0) : IsQ (cut a b) := by
  refine ⟨cut_pos h, ?_⟩
  have hg := gq_pos (a := a) h
  have e1 : (cut a b).1.natAbs * (gq a b).natAbs = a.natAbs := by
    rw [← Int.natAbs_mul, cut_1]
    split
    · rfl
    · exact Int.natAbs_neg a
  have e2 : (cut a b).2.natAbs * (gq a b).natAbs = b.natAbs := by
    rw [← Int.natAbs_mul, cut_2, Int.natAbs_natCast]
  have e3 : (gq a b).natAbs = Nat.gcd a.natAbs b.natAbs := by
    unfold gq
    exact Int.natAbs_natCast _
  have e4 : Nat.gcd ((cut a b).1.natAbs * (gq a b).natAbs) ((cut a b).2.natAbs * (gq a b).natAbs) = (gq a b).natAbs := by rw [e1, e2, e3]
  rw [Nat.gcd_mul_right] at e4
  have e5 : 0 < (gq a b).natAbs := by omega
  exact Nat.eq_of_mul_eq_mul_right e5 (by rw [e4, Nat.one_mul])
theorem cut_eq {a b : Int} (h : b ≠ 0) : (cut a b).1 * b = a * (cut a b).2 := by
  have hg := gq_pos (a := a) h
  have e1 := cut_1 (a := a) (b := b)
  have e2 := cut_2 (a := a) (b := b)
  have hne : gq a b ≠ 0 := by omega
  apply Int.eq_of_mul_eq_mul_right hne
  by_cases hb : 0 < b
  · rw [if_pos hb] at e1
    have e3 : (b.natAbs : Int) = b := by omega
    rw [e3] at e2
    grind
  · rw [if_neg hb] at e1
    have e3 : (b.natAbs : Int) = -b := by omega
    rw [e3] at e2
    grind
theorem q_ext {p q : Int × Int} (hp : IsQ p) (hq : IsQ q) (h : p.1 * q.2 = q.1 * p.2) : p = q := by
  have hn : p.1.natAbs * q.2.natAbs = q.1.natAbs * p.2.natAbs := by rw [← Int.natAbs_mul, ← Int.natAbs_mul, h]
  have d1 : q.2.natAbs ∣ p.2.natAbs := by
    have : q.2.natAbs ∣ q.1.natAbs * p.2.natAbs := ⟨p.1.natAbs, by rw [← hn, Nat.mul_comm]⟩
    exact Nat.Coprime.dvd_of_dvd_mul_left (show Nat.Coprime q.2.natAbs q.1.natAbs by rw [Nat.coprime_comm]; exact hq.cop) this
  have d2 : p.2.natAbs ∣ q.2.natAbs := by
    have : p.2.natAbs ∣ p.1.natAbs * q.2.natAbs := ⟨q.1.natAbs, by rw [hn, Nat.mul_comm]⟩
    exact Nat.Coprime.dvd_of_dvd_mul_left (show Nat.Coprime p.2.natAbs p.1.natAbs by rw [Nat.coprime_comm]; exact hp.cop) this
  have e := Nat.dvd_antisymm d1 d2
  have h2 : p.2 = q.2 := by
    have := hp.pos
    have := hq.pos
    omega
  have h1 : p.1 = q.1 := by
    rw [h2] at h
    exact Int.eq_of_mul_eq_mul_right (by have := hq.pos; omega) h
  exact Prod.ext h1 h2
theorem cut_q {q : Int × Int} (hq : IsQ q) : cut q.1 q.2 = q := by
  have hne : q.2 ≠ 0 := by have := hq.pos; omega
  exact q_ext (cut_isQ hne) hq (cut_eq hne)
theorem cut_congr {a b c d : Int} (hb : b ≠ 0) (hd : d ≠ 0) (h : a * d = c * b) : cut a b = cut c d := by
  refine q_ext (cut_isQ hb) (cut_isQ hd) ?_
  have e1 := cut_eq (a := a) hb
  have e2 := cut_eq (a := c) hd
  have hbd : b * d ≠ 0 := Int.mul_ne_zero hb hd
  apply Int.eq_of_mul_eq_mul_right hbd
  grind
/-- where the cross products agree with a quotient's, it is that one -/
theorem cut_is {a b : Int} {q : Int × Int} (hb : b ≠ 0) (hq : IsQ q) (h : a * q.2 = q.1 * b) : cut a b = q := by
  have hne : q.2 ≠ 0 := by have := hq.pos; omega
  rw [cut_congr hb hne h, cut_q hq]
theorem cut_le1 {a b : Int} (h : b ≠ 0) : (cut a b).1.natAbs ≤ a.natAbs := by
  have hg := gq_pos (a := a) h
  have e1 : (cut a b).1.natAbs * (gq a b).natAbs = a.natAbs := by
    rw [← Int.natAbs_mul, cut_1]
    split
    · rfl
    · exact Int.natAbs_neg a
  rw [← e1]
  exact Nat.le_mul_of_pos_right _ (by omega)
theorem cut_le2 {a b : Int} (h : b ≠ 0) : (cut a b).2.natAbs ≤ b.natAbs := by
  have hg := gq_pos (a := a) h
  have e2 : (cut a b).2.natAbs * (gq a b).natAbs = b.natAbs := by
    rw [← Int.natAbs_mul, cut_2, Int.natAbs_natCast]
  rw [← e2]
  exact Nat.le_mul_of_pos_right _ (by omega)
theorem q01 : IsQ (0, 1) := ⟨by decide, by decide⟩
theorem q11 : IsQ (1, 1) := ⟨by decide, by decide⟩
theorem IsQ.ne {q : Int × Int} (h : IsQ q) : q.2 ≠ 0 := by have := h.pos; omega
def plusQ (r q : Int × Int) : Int × Int := cut (r.1 * q.2 + q.1 * r.2) (r.2 * q.2)
def prodQ (r q : Int × Int) : Int × Int := cut (r.1 * q.1) (r.2 * q.2)
def lessQ (r q : Int × Int) : Int × Int := cut (r.1 * q.2 - q.1 * r.2) (r.2 * q.2)
def overQ (r q : Int × Int) : Int × Int := cut (r.1 * q.2) (r.2 * q.1)
theorem plus_isQ {r q : Int × Int} (hr : IsQ r) (hq : IsQ q) : IsQ (plusQ r q) := cut_isQ (Int.mul_ne_zero hr.ne hq.ne)
theorem prod_isQ {r q : Int × Int} (hr : IsQ r) (hq : IsQ q) : IsQ (prodQ r q) := cut_isQ (Int.mul_ne_zero hr.ne hq.ne)
theorem less_isQ {r q : Int × Int} (hr : IsQ r) (hq : IsQ q) : IsQ (lessQ r q) := cut_isQ (Int.mul_ne_zero hr.ne hq.ne)
theorem over_isQ {r q : Int × Int} (hr : IsQ r) (hq : q.1 ≠ 0) : IsQ (overQ r q) := cut_isQ (Int.mul_ne_zero hr.ne hq)
theorem plus_0 {q : Int × Int} (hq : IsQ q) : plusQ (0, 1) q = q := cut_is (Int.mul_ne_zero (by decide) hq.ne) hq (by grind)
theorem prod_1 {q : Int × Int} (hq : IsQ q) : prodQ (1, 1) q = q := cut_is (Int.mul_ne_zero (by decide) hq.ne) hq (by grind)
theorem prod_cut {a b : Int} {q : Int × Int} (hb : b ≠ 0) (hq : IsQ q) : prodQ (cut a b) q = cut (a * q.1) (b * q.2) := by
  have h := cut_isQ (a := a) hb
  have e := cut_eq (a := a) hb
  refine cut_congr (Int.mul_ne_zero h.ne hq.ne) (Int.mul_ne_zero hb hq.ne) ?_
  grind
theorem less_minus {r q : Int × Int} : lessQ r q = plusQ r (-q.1, q.2) := by
  unfold lessQ plusQ
  congr 1
  grind
theorem less_back {r q : Int × Int} (hr : IsQ r) (hq : IsQ q) : plusQ (lessQ r q) q = r := by
  have h := less_isQ hr hq
  have hm := Int.mul_ne_zero hr.ne hq.ne
  have e : (lessQ r q).1 * (r.2 * q.2) = (r.1 * q.2 - q.1 * r.2) * (lessQ r q).2 := cut_eq hm
  refine cut_is (Int.mul_ne_zero h.ne hq.ne) hr ?_
  grind
theorem less_self {r : Int × Int} (hr : IsQ r) : lessQ r r = (0, 1) := cut_is (Int.mul_ne_zero hr.ne hr.ne) q01 (by grind)
theorem over_back {r q : Int × Int} (hr : IsQ r) (hq : IsQ q) (h0 : q.1 ≠ 0) : prodQ (overQ r q) q = r := by
  have h := over_isQ hr h0
  have hm := Int.mul_ne_zero hr.ne h0
  have e : (overQ r q).1 * (r.2 * q.1) = (r.1 * q.2) * (overQ r q).2 := cut_eq hm
  refine cut_is (Int.mul_ne_zero h.ne hq.ne) hr ?_
  grind
theorem over_self {r : Int × Int} (hr : IsQ r) (h0 : r.1 ≠ 0) : overQ r r = (1, 1) := cut_is (Int.mul_ne_zero hr.ne h0) q11 (by grind)
theorem prod5 {a b c d e : Int × Int} (ha : IsQ a) (hb : IsQ b) (hc : IsQ c) (hd : IsQ d) (he : IsQ e) :
    prodQ (prodQ (prodQ (prodQ (prodQ (1, 1) e) d) c) b) a = prodQ (prodQ (prodQ (prodQ (prodQ (1, 1) a) b) c) d) e := by
  have n1 : (1 : Int) ≠ 0 := by decide
  have s : ∀ {p : Int × Int}, IsQ p → prodQ (1, 1) p = cut p.1 p.2 := fun {p} hp => by rw [prod_1 hp, cut_q hp]
  rw [s he, s ha, prod_cut he.ne hd, prod_cut (Int.mul_ne_zero he.ne hd.ne) hc, prod_cut (Int.mul_ne_zero (Int.mul_ne_zero he.ne hd.ne) hc.ne) hb,
    prod_cut (Int.mul_ne_zero (Int.mul_ne_zero (Int.mul_ne_zero he.ne hd.ne) hc.ne) hb.ne) ha, prod_cut ha.ne hb, prod_cut (Int.mul_ne_zero ha.ne hb.ne) hc,
    prod_cut (Int.mul_ne_zero (Int.mul_ne_zero ha.ne hb.ne) hc.ne) hd, prod_cut (Int.mul_ne_zero (Int.mul_ne_zero (Int.mul_ne_zero ha.ne hb.ne) hc.ne) hd.ne) he]
  congr 1 <;> grind
/-- the program's way to it -/
theorem low_pos {a b : Int} (h : 0 < b) : cut a b = (a / gq a b, b / gq a b) := by
  unfold cut
  rw [if_pos h, show (b.natAbs : Int) = b by omega]
theorem low_neg {a b : Int} (h : b < 0) : cut a b = (a.fdiv (-gq a b), b.fdiv (-gq a b)) := by
  have hg := gq_pos (a := a) (b := b) (by omega)
  have e1 := cut_1 (a := a) (b := b)
  have e2 := cut_2 (a := a) (b := b)
  rw [if_neg (by omega)] at e1
  rw [show (b.natAbs : Int) = -b by omega] at e2
  refine Prod.ext ?_ ?_
  · exact (Int.fdiv_eq_of_eq_mul_left (by omega) (by grind)).symm
  · exact (Int.fdiv_eq_of_eq_mul_left (by omega) (by grind)).symm
end Qu

set_option Elab.async false
set_option linter.all false
set_option maxRecDepth 100000
namespace Gd
open PySem PySem.Spec PyProof.Rows L2
/-- // by a divisor of either sign -/
def CDivZ (_ j : Int) : Prop := j ≠ 0 ∧ j.natAbs.log2 < 9000
theorem op_fdivZ {X : Cx} : OpR X (binaryOp .FloorDiv) (rI CDivZ fun i j => .int (i.fdiv j)) := by
  refine opI ?_
  intro i j t u s Q E hc q
  exact floordiv_int hc.1 q (.inl (PyProof.noPylong_of_log2 hc.2))
theorem cdivZ {i j : Int} {b : Nat} (h : j ≠ 0) (hb : j.natAbs < 2 ^ b) (h0 : 0 < b) (h9 : b ≤ 9000) : CDivZ i j := ⟨h, Nat.lt_of_lt_of_le (PySem.Flt.log2_lt_of h0 hb) h9⟩
end Gd
namespace K2
open PySem PySem.Spec PyProof.Rows L2 Gd Qu
def QAt (H : Hp) (a : Addr) (q : Int × Int) : Prop := H a = some (.tup [.int q.1, .int q.2])
theorem QAt.same {H H' : Hp} {a : Addr} {q : Int × Int} (s : Same H H') (h : QAt H a q) : QAt H' a q := s _ _ h
theorem QAt.sq {K : PySem.W.Frag} {H : Hp} {a : Addr} {q : Int × Int} (h : QAt H a q) : SqT K H a [.int q.1, .int q.2] := .inl (.inl h)
theorem gq_lt {a b : Int} {n : Nat} (hb : b ≠ 0) (h : b.natAbs < 2 ^ n) : (gq a b).natAbs < 2 ^ n := by
  have : gq a b ≤ (b.natAbs : Int) := Int.le_of_dvd (by omega) (Int.dvd_natAbs.mpr (gq_r a b))
  have := gq_pos (a := a) hb
  omega
section
variable {P : Program} {w : World} {K : PySem.W.Frag} {mg : Str → Option Value} {base : Heap}
def spIsQ : Sp := fun vs H Q _ => ∃ (a : Addr) (q : Int × Int), vs = [.ref a] ∧ QAt H a q ∧ IsQ q ∧ ∀ H', Same H H' → Q (.bl true) H'
def spLow : Sp := fun vs H Q _ => ∃ t b : Int, vs = [.int t, .int b] ∧ b ≠ 0 ∧ t.natAbs < 2 ^ 8000 ∧ b.natAbs < 2 ^ 8000 ∧ ∀ p, H p = none → Q (.ref p) (upd H p (.tup [.int (cut t b).1, .int (cut t b).2]))
end
end K2

set_option Elab.async false
set_option linter.all false
set_option maxRecDepth 100000
namespace Gd
open PySem PySem.Spec PyProof.Rows L2
/-- a def with *v alone, as the name x holds it -/
structure AtS (K : PySem.W.Frag) (mg : Str → Option Value) (x : String) (st : Stmt) (pv : Str) : Prop where
  ex : ∃ f fd, mg x = some (.ref f) ∧ Fun K x x st f fd ∧ ∀ rest : List Value, bindArgs fd ⟨rest, []⟩ = (newTuple rest >>= fun t => pure [(pv, t)])
theorem okS {P : Program} {w : World} {K : PySem.W.Frag} {mg : Str → Option Value} {base : Heap} {x : String} {st : Stmt} {N : List Str} {pv : Str} {k : Nat} {sp : Sp} (D : AtS K mg x st pv) (S : FnScope N [pv] (defScope st))
    (body : ∀ (f : Addr) (cdv : Value) (A : Around) (outer : List Env) (s : Shared) (H : Hp) (vs : List V) (Q : VK) (E : XK), Room k (A.deeper (envOfC x (defScope st) s.heap.objs.size f cdv)) → sp vs H Q E →
      ∃ t, PSs (cxOf CX0 P w K mg base N x (defScope st) f cdv A outer s H E).nox (defBody st) t ∧ t { nx := fun _ H' => Q .non H', rt := Q } (start N vs) H) :
    Cal P w K mg base (k + 1) x (fun vs H Q E => vs.length ≤ sizeLine ∧ ∀ p, H p = none → sp [V.ref p] (upd H p (.tup vs)) Q E) := by
  obtain ⟨f, fd, hm, F, hb⟩ := D.ex
  obtain ⟨oc, od, kV, doc, pm, an, cdv, ct, osl, rfl, lk, hcd⟩ := F.ex
  have G := StX.fn_star (CX := CX0) (P := P) (w := w) (mg := mg) (base := base) (k := k) (ps := []) (pv := pv) (sp := sp) lk hcd S StX.cxUp_none (fun us rest hl => by
    have e : us = [] := List.length_eq_zero_iff.mp hl
    subst e
    exact hb rest) (fun A outer s H vs Q E hr h => let ⟨t, h1, h2⟩ := body f cdv A outer s H vs Q E hr h; ⟨t, h1.nox, h2⟩)
  exact ⟨f, hm, F.kp, G.imp fun vs H Q E h => ⟨[], vs, rfl, rfl, h.1, h.2⟩⟩
end Gd
namespace K2
open PySem PySem.Spec PyProof.Rows L2 Gd Qu
/-- both numbers below 2 ^ n -/
structure Sz (n : Nat) (q : Int × Int) : Prop where
  t : q.1.natAbs < 2 ^ n
  b : q.2.natAbs < 2 ^ n
theorem lt_pow {x a b : Nat} (h : x < 2 ^ a) (hab : a ≤ b) : x < 2 ^ b := Nat.lt_of_lt_of_le h (Nat.pow_le_pow_right (by decide) hab)
theorem Sz.mono {a b : Nat} {q : Int × Int} (h : Sz a q) (hab : a ≤ b) : Sz b q := ⟨lt_pow h.t hab, lt_pow h.b hab⟩
theorem mul_lt {x y : Int} {a b : Nat} (hx : x.natAbs < 2 ^ a) (hy : y.natAbs < 2 ^ b) : (x * y).natAbs < 2 ^ (a + b) := wide_lt hx hy
theorem add_lt {x y : Int} {a : Nat} (hx : x.natAbs < 2 ^ a) (hy : y.natAbs < 2 ^ a) : (x + y).natAbs < 2 ^ (a + 1) := by
  rw [Nat.pow_succ]
  omega
theorem sub_lt {x y : Int} {a : Nat} (hx : x.natAbs < 2 ^ a) (hy : y.natAbs < 2 ^ a) : (x - y).natAbs < 2 ^ (a + 1) := by
  rw [Nat.pow_succ]
  omega
theorem cut_sz {a b : Int} {n : Nat} (h : b ≠ 0) (ha : a.natAbs < 2 ^ n) (hb : b.natAbs < 2 ^ n) : Sz n (cut a b) :=
  ⟨Nat.lt_of_le_of_lt (cut_le1 h) ha, Nat.lt_of_le_of_lt (cut_le2 h) hb⟩
theorem plus_sz {r q : Int × Int} {a b : Nat} (hr : Sz a r) (hq : Sz b q) (ir : IsQ r) (iq : IsQ q) : Sz (a + b + 1) (plusQ r q) := by
  refine cut_sz (Int.mul_ne_zero ir.ne iq.ne) (add_lt (mul_lt hr.t hq.b) ?_) (lt_pow (mul_lt hr.b hq.b) (Nat.le_succ _))
  rw [Nat.add_comm a b]
  exact mul_lt hq.t hr.b
theorem prod_sz {r q : Int × Int} {a b : Nat} (hr : Sz a r) (hq : Sz b q) (ir : IsQ r) (iq : IsQ q) : Sz (a + b) (prodQ r q) :=
  cut_sz (Int.mul_ne_zero ir.ne iq.ne) (mul_lt hr.t hq.t) (mul_lt hr.b hq.b)
theorem sz01 : Sz 1 (0, 1) := ⟨by decide, by decide⟩
theorem sz11 : Sz 1 (1, 1) := ⟨by decide, by decide⟩
section
variable {P : Program} {w : World} {K : PySem.W.Frag} {mg : Str → Option Value} {base : Heap}
/-- refs to quotients -/
def QsAt (H : Hp) (as : List Addr) (qs : List (Int × Int)) : Prop := as.length = qs.length ∧ ∀ (i : Nat) (a : Addr) (q : Int × Int), as[i]? = some a → qs[i]? = some q → QAt H a q
theorem QsAt.same {H H' : Hp} {as : List Addr} {qs : List (Int × Int)} (s : Same H H') (h : QsAt H as qs) : QsAt H' as qs := ⟨h.1, fun i a q e1 e2 => (h.2 i a q e1 e2).same s⟩
def spFoldQ (op : Int × Int → Int × Int → Int × Int) (z : Int × Int) : Sp := fun vs H Q _ => ∃ (as : List Addr) (qs : List (Int × Int)), vs = as.map V.ref ∧ QsAt H as qs ∧ (∀ q ∈ qs, IsQ q ∧ Sz 700 q) ∧ qs.length ≤ 6 ∧
  ∀ p H', Same H H' → QAt H' p (qs.foldl op z) → Q (.ref p) H'
theorem fold_step {α β : Type} (op : β → α → β) (z : β) {l : List α} {i : Nat} {x : α} (h : l[i]? = some x) : (l.take (i + 1)).foldl op z = op ((l.take i).foldl op z) x := by
  rw [List.take_add_one, h, List.foldl_append]
  rfl
end
end K2

set_option Elab.async false
set_option linter.all false
set_option maxRecDepth 100000
namespace K2
open PySem PySem.Spec PyProof.Rows L2 Gd Qu
section
variable {P : Program} {w : World} {K : PySem.W.Frag} {mg : Str → Option Value} {base : Heap}
/-- two quotients in, one out -/
def spTwoQ (op : Int × Int → Int × Int → Int × Int) (ok : Int × Int → Prop) : Sp := fun vs H Q _ => ∃ (a b : Addr) (x y : Int × Int), vs = [.ref a, .ref b] ∧ QAt H a x ∧ QAt H b y ∧ IsQ x ∧ IsQ y ∧ ok y ∧ Sz 700 x ∧ Sz 700 y ∧
  ∀ p H', Same H H' → QAt H' p (op x y) → Q (.ref p) H'
def spQuot : Sp := fun vs H Q _ => ∃ t b : Int, vs = [.int t, .int b] ∧ b ≠ 0 ∧ t.natAbs < 2 ^ 8000 ∧ b.natAbs < 2 ^ 8000 ∧ ∀ p H', Same H H' → QAt H' p (cut t b) → Q (.ref p) H'
end
end K2

/-! Primes, divisors, parts, plainly. -/
namespace Nm
def Pr (p : Nat) : Prop := 2 ≤ p ∧ ∀ d, d ∣ p → d = 1 ∨ d = p
structure Least (n l : Nat) : Prop where
  two : 2 ≤ l
  dvd : l ∣ n
  least : ∀ d, 2 ≤ d → d ∣ n → l ≤ d
theorem Least.pr {n l : Nat} (h : Least n l) : Pr l := by
  refine ⟨h.two, fun d hd => ?_⟩
  by_cases h1 : 2 ≤ d
  · have a := h.least d h1 (Nat.dvd_trans hd h.dvd)
    have b := Nat.le_of_dvd (by have := h.two; omega) hd
    omega
  · have : d ≠ 0 := fun z => by
      subst z
      have := Nat.eq_zero_of_zero_dvd hd
      have := h.two
      omega
    omega
theorem Least.uniq {n l m : Nat} (h : Least n l) (h' : Least n m) : l = m :=
  Nat.le_antisymm (h.least m h'.two h'.dvd) (h'.least l h.two h.dvd)
theorem least_ex {n : Nat} (h : 2 ≤ n) : ∃ l, Least n l := by
  have key : ∀ k, (∃ d, 2 ≤ d ∧ d ≤ k ∧ d ∣ n) → ∃ l, Least n l := by
    intro k
    induction k with
    | zero => rintro ⟨d, h1, h2, _⟩; omega
    | succ k ih =>
      rintro ⟨d, h1, h2, h3⟩
      by_cases hk : ∃ d, 2 ≤ d ∧ d ≤ k ∧ d ∣ n
      · exact ih hk
      · refine ⟨d, h1, h3, fun e he1 he2 => ?_⟩
        by_cases hlt : d ≤ e
        · exact hlt
        · exact absurd ⟨e, he1, by omega, he2⟩ hk
  exact key n ⟨n, h, Nat.le_refl _, Nat.dvd_refl _⟩
/-- trial division that has found none below t, t squared above n -/
theorem least_self {n t : Nat} (hn : 2 ≤ n) (h : ∀ d, 2 ≤ d → d < t → ¬ d ∣ n) (ht : n < t * t) : Least n n := by
  refine ⟨hn, Nat.dvd_refl _, fun d h1 h2 => ?_⟩
  obtain ⟨e, he⟩ := h2
  by_cases hd : d < t
  · exact absurd ⟨e, he⟩ (h d h1 hd)
  · by_cases he1 : e = 1
    · subst he1
      omega
    · have he0 : e ≠ 0 := fun z => by subst z; omega
      have het : e < t := by
        refine Nat.lt_of_not_le fun z => ?_
        have := Nat.mul_le_mul (Nat.le_of_not_lt hd) z
        omega
      exact absurd ⟨d, by rw [he, Nat.mul_comm]⟩ (h e (by omega) het)
theorem least_at {n t : Nat} (ht : 2 ≤ t) (h : ∀ d, 2 ≤ d → d < t → ¬ d ∣ n) (hd : t ∣ n) : Least n t :=
  ⟨ht, hd, fun d h1 h2 => Nat.le_of_not_lt fun z => h d h1 z h2⟩

theorem Pr.pos {p : Nat} (h : Pr p) : 0 < p := by have := h.1; omega
theorem Pr.cop {p a : Nat} (h : Pr p) (ha : ¬ p ∣ a) : Nat.Coprime p a := by
  rcases h.2 _ (Nat.gcd_dvd_left p a) with e | e
  · exact e
  · exact absurd (e ▸ Nat.gcd_dvd_right p a) ha
theorem Pr.mul {p a b : Nat} (h : Pr p) (hd : p ∣ a * b) : p ∣ a ∨ p ∣ b := by
  by_cases ha : p ∣ a
  · exact .inl ha
  · exact .inr (Nat.Coprime.dvd_of_dvd_mul_left (h.cop ha) hd)
theorem Pr.not1 {p : Nat} (h : Pr p) : ¬ p ∣ 1 := fun z => by
  have := Nat.le_of_dvd (by decide) z
  have := h.1
  omega
theorem Pr.pow {p a : Nat} (h : Pr p) : ∀ {e : Nat}, p ∣ a ^ e → p ∣ a
  | 0, hd => absurd (by rw [Nat.pow_zero] at hd; exact hd) h.not1
  | e + 1, hd => by
    rw [Nat.pow_succ] at hd
    rcases h.mul hd with z | z
    · exact h.pow z
    · exact z
theorem Pr.eq {p q : Nat} (h : Pr p) (h' : Pr q) (hd : p ∣ q) : p = q := by
  rcases h'.2 p hd with e | e
  · have := h.1
    omega
  · exact e

def prodN (l : List Nat) : Nat := l.foldr (· * ·) 1
theorem prodN_cons (a : Nat) (l : List Nat) : prodN (a :: l) = a * prodN l := rfl
theorem prodN_append (l m : List Nat) : prodN (l ++ m) = prodN l * prodN m := by
  induction l with
  | nil => show prodN m = 1 * prodN m; rw [Nat.one_mul]
  | cons a l ih => rw [List.cons_append, prodN_cons, prodN_cons, ih, Nat.mul_assoc]
theorem Pr.prod {p : Nat} (h : Pr p) : ∀ {l : List Nat}, p ∣ prodN l → ∃ a ∈ l, p ∣ a
  | [], hd => absurd hd h.not1
  | a :: l, hd => by
    rcases h.mul hd with z | z
    · exact ⟨a, List.mem_cons_self, z⟩
    · obtain ⟨b, hb, hz⟩ := h.prod (l := l) z
      exact ⟨b, List.mem_cons_of_mem _ hb, hz⟩
theorem dvd_prod {a : Nat} : ∀ {l : List Nat}, a ∈ l → a ∣ prodN l
  | b :: l, h => by
    rcases List.mem_cons.mp h with e | h
    · subst e
      exact ⟨prodN l, rfl⟩
    · exact Nat.dvd_trans (dvd_prod h) ⟨b, by rw [prodN_cons, Nat.mul_comm]⟩
theorem prod_pos : ∀ {l : List Nat}, (∀ a ∈ l, 0 < a) → 0 < prodN l
  | [], _ => by decide
  | a :: l, h => Nat.mul_pos (h a List.mem_cons_self) (prod_pos fun b hb => h b (List.mem_cons_of_mem _ hb))

/-- the prime factors, ascending, each as often as it divides -/
structure Facs (n : Nat) (fs : List Nat) : Prop where
  pr : ∀ p ∈ fs, Pr p
  asc : fs.Pairwise (· ≤ ·)
  prod : prodN fs = n
theorem Facs.mem {n : Nat} {fs : List Nat} (h : Facs n fs) (p : Nat) : p ∈ fs ↔ Pr p ∧ p ∣ n := by
  constructor
  · intro hp
    exact ⟨h.pr p hp, h.prod ▸ dvd_prod hp⟩
  · rintro ⟨hp, hd⟩
    rw [← h.prod] at hd
    obtain ⟨a, ha, hz⟩ := hp.prod hd
    rw [hp.eq (h.pr a ha) hz]
    exact ha

/-- the primes with the greatest powers that divide -/
structure Parts (n : Nat) (ps : List (Nat × Nat)) : Prop where
  prod : prodN (ps.map (·.2)) = n
  asc : (ps.map (·.1)).Pairwise (· < ·)
  pw : ∀ x ∈ ps, Pr x.1 ∧ ∃ e, 1 ≤ e ∧ x.2 = x.1 ^ e
theorem Parts.mem {n : Nat} {ps : List (Nat × Nat)} (h : Parts n ps) (p : Nat) : p ∈ ps.map (·.1) ↔ Pr p ∧ p ∣ n := by
  constructor
  · intro hp
    obtain ⟨x, hx, rfl⟩ := List.mem_map.mp hp
    obtain ⟨h1, e, he, h2⟩ := h.pw x hx
    refine ⟨h1, ?_⟩
    rw [← h.prod]
    refine Nat.dvd_trans ?_ (dvd_prod (List.mem_map.mpr ⟨x, hx, rfl⟩))
    rw [h2]
    obtain ⟨k, rfl⟩ : ∃ k, e = k + 1 := ⟨e - 1, by omega⟩
    exact ⟨x.1 ^ k, by rw [Nat.pow_succ, Nat.mul_comm]⟩
  · rintro ⟨hp, hd⟩
    rw [← h.prod] at hd
    obtain ⟨a, ha, hz⟩ := hp.prod hd
    obtain ⟨x, hx, rfl⟩ := List.mem_map.mp ha
    obtain ⟨h1, e, he, h2⟩ := h.pw x hx
    rw [h2] at hz
    rw [hp.eq h1 (hp.pow hz)]
    exact List.mem_map.mpr ⟨x, hx, rfl⟩
/-- two strictly ascending lists with the same members are one -/
theorem asc_ext {α : Type} {r : α → α → Prop} (ir : ∀ a, ¬ r a a) (tr : ∀ a b c, r a b → r b c → r a c) : ∀ {l m : List α}, l.Pairwise r → m.Pairwise r → (∀ a, a ∈ l ↔ a ∈ m) → l = m
  | [], [], _, _, _ => rfl
  | [], b :: m, _, _, h => absurd ((h b).mpr List.mem_cons_self) List.not_mem_nil
  | a :: l, [], _, _, h => absurd ((h a).mp List.mem_cons_self) List.not_mem_nil
  | a :: l, b :: m, h1, h2, h => by
    obtain ⟨a1, a2⟩ := List.pairwise_cons.mp h1
    obtain ⟨b1, b2⟩ := List.pairwise_cons.mp h2
    have e : a = b := by
      rcases List.mem_cons.mp ((h a).mp List.mem_cons_self) with e | e
      · exact e
      · rcases List.mem_cons.mp ((h b).mpr List.mem_cons_self) with e' | e'
        · exact e'.symm
        · exact absurd (tr _ _ _ (b1 a e) (a1 b e')) (ir b)
    subst e
    have hm : ∀ c, c ∈ l ↔ c ∈ m := fun c => by
      constructor
      · intro hc
        rcases List.mem_cons.mp ((h c).mp (List.mem_cons_of_mem _ hc)) with z | z
        · subst z
          exact absurd (a1 c hc) (ir c)
        · exact z
      · intro hc
        rcases List.mem_cons.mp ((h c).mpr (List.mem_cons_of_mem _ hc)) with z | z
        · subst z
          exact absurd (b1 c hc) (ir c)
        · exact z
    rw [asc_ext ir tr a2 b2 hm]
theorem asc_nat {l m : List Nat} (h1 : l.Pairwise (· < ·)) (h2 : m.Pairwise (· < ·)) (h : ∀ a, a ∈ l ↔ a ∈ m) : l = m :=
  asc_ext (fun a => Nat.lt_irrefl a) (fun _ _ _ => Nat.lt_trans) h1 h2 h

/-- how often a prime goes into a number is one number -/
theorem val_uniq {p a b : Nat} (hp : Pr p) (ha : ¬ p ∣ a) (hb : ¬ p ∣ b) : ∀ {e c : Nat}, p ^ e * a = p ^ c * b → e = c
  | 0, 0, _ => rfl
  | 0, c + 1, h => by
    refine absurd ?_ ha
    rw [Nat.pow_zero, Nat.one_mul] at h
    exact ⟨p ^ c * b, by rw [h, Nat.pow_succ]; ac_rfl⟩
  | e + 1, 0, h => by
    refine absurd ?_ hb
    rw [Nat.pow_zero, Nat.one_mul] at h
    exact ⟨p ^ e * a, by rw [← h, Nat.pow_succ]; ac_rfl⟩
  | e + 1, c + 1, h => by
    refine congrArg (· + 1) (val_uniq hp ha hb ?_)
    refine Nat.eq_of_mul_eq_mul_left hp.pos ?_
    rw [Nat.pow_succ, Nat.pow_succ] at h
    calc p * (p ^ e * a) = p ^ e * p * a := by ac_rfl
      _ = p ^ c * p * b := h
      _ = p * (p ^ c * b) := by ac_rfl
theorem facs_split {p : Nat} (hp : Pr p) : ∀ {fs : List Nat}, (∀ q ∈ fs, Pr q) → ∃ b, ¬ p ∣ b ∧ prodN fs = p ^ (fs.count p) * b
  | [], _ => ⟨1, fun z => by
      have := Nat.le_of_dvd (by decide) z
      have := hp.1
      omega, rfl⟩
  | q :: fs, h => by
    obtain ⟨b, h1, h2⟩ := facs_split hp (fs := fs) fun r hr => h r (List.mem_cons_of_mem _ hr)
    by_cases e : q = p
    · subst e
      refine ⟨b, h1, ?_⟩
      rw [prodN_cons, h2, List.count_cons_self, Nat.pow_succ]
      ac_rfl
    · refine ⟨q * b, fun z => ?_, ?_⟩
      · rcases hp.mul z with z | z
        · exact e (hp.eq (h q List.mem_cons_self) z).symm
        · exact h1 z
      · rw [prodN_cons, h2, List.count_cons_of_ne e]
        ac_rfl
theorem parts_split {ps : List (Nat × Nat)} (hpw : ∀ x ∈ ps, Pr x.1 ∧ ∃ e, 1 ≤ e ∧ x.2 = x.1 ^ e) : ∀ {p : Nat}, Pr p → p ∉ ps.map (·.1) → ¬ p ∣ prodN (ps.map (·.2)) := by
  intro p hp hn hd
  obtain ⟨a, ha, hz⟩ := hp.prod hd
  obtain ⟨x, hx, rfl⟩ := List.mem_map.mp ha
  obtain ⟨h1, e, he, h2⟩ := hpw x hx
  rw [h2] at hz
  exact hn (List.mem_map.mpr ⟨x, hx, (hp.eq h1 (hp.pow hz)).symm⟩)
theorem parts_at {ps : List (Nat × Nat)} (hpw : ∀ x ∈ ps, Pr x.1 ∧ ∃ e, 1 ≤ e ∧ x.2 = x.1 ^ e) (hasc : (ps.map (·.1)).Pairwise (· < ·)) : ∀ x ∈ ps, ∃ b, ¬ x.1 ∣ b ∧ prodN (ps.map (·.2)) = x.2 * b := by
  induction ps with
  | nil => intro x hx; exact absurd hx List.not_mem_nil
  | cons y ps ih =>
    intro x hx
    obtain ⟨a1, a2⟩ := List.pairwise_cons.mp hasc
    have hpw' : ∀ x ∈ ps, Pr x.1 ∧ ∃ e, 1 ≤ e ∧ x.2 = x.1 ^ e := fun z hz => hpw z (List.mem_cons_of_mem _ hz)
    rcases List.mem_cons.mp hx with e | hx
    · subst e
      refine ⟨_, parts_split hpw' (hpw x List.mem_cons_self).1 fun z => ?_, rfl⟩
      exact absurd (a1 _ z) (Nat.lt_irrefl _)
    · obtain ⟨b, h1, h2⟩ := ih hpw' a2 x hx
      have hp := (hpw' x hx).1
      refine ⟨y.2 * b, fun z => ?_, ?_⟩
      · rcases hp.mul z with z | z
        · obtain ⟨h3, e, _, h4⟩ := hpw y List.mem_cons_self
          rw [h4] at z
          have e1 := hp.eq h3 (hp.pow z)
          have e2 : y.1 < x.1 := a1 x.1 (List.mem_map.mpr ⟨x, hx, rfl⟩)
          omega
        · exact h1 z
      · show y.2 * prodN (ps.map (·.2)) = _
        rw [h2]
        ac_rfl
/-- each part's power, from the factors -/
theorem Parts.power {n : Nat} {ps : List (Nat × Nat)} {fs : List Nat} (h : Parts n ps) (g : Facs n fs) : ∀ x ∈ ps, x.2 = x.1 ^ (fs.count x.1) := by
  intro x hx
  obtain ⟨h1, e, he, h2⟩ := h.pw x hx
  obtain ⟨b, hb1, hb2⟩ := parts_at h.pw h.asc x hx
  obtain ⟨c, hc1, hc2⟩ := facs_split h1 g.pr
  rw [h2]
  congr 1
  refine val_uniq h1 hb1 hc1 ?_
  rw [← h2, ← hb2, h.prod, ← hc2, g.prod]
theorem Parts.uniq {n : Nat} {ps qs : List (Nat × Nat)} (h : Parts n ps) (g : Parts n qs) : ps = qs := by
  have e1 : ps.map (·.1) = qs.map (·.1) := asc_nat h.asc g.asc fun a => (h.mem a).trans (g.mem a).symm
  have e2 : ∀ x ∈ ps, ∀ y ∈ qs, x.1 = y.1 → x.2 = y.2 := by
    intro x hx y hy e
    obtain ⟨h1, i, hi, h2⟩ := h.pw x hx
    obtain ⟨k1, j, hj, k2⟩ := g.pw y hy
    obtain ⟨b, hb1, hb2⟩ := parts_at h.pw h.asc x hx
    obtain ⟨c, hc1, hc2⟩ := parts_at g.pw g.asc y hy
    rw [h2, k2, ← e]
    congr 1
    refine val_uniq h1 hb1 (e ▸ hc1) ?_
    rw [← h2, ← hb2, h.prod, ← g.prod, hc2, k2, e]
  clear h g
  induction ps generalizing qs with
  | nil =>
    cases qs with
    | nil => rfl
    | cons y qs => cases e1
  | cons x ps ih =>
    cases qs with
    | nil => cases e1
    | cons y qs =>
      injection e1 with a1 a2
      have a3 := e2 x List.mem_cons_self y List.mem_cons_self a1
      rw [show x = y from Prod.ext a1 a3, ih a2 fun u hu v hv => e2 u (List.mem_cons_of_mem _ hu) v (List.mem_cons_of_mem _ hv)]

/-! ### totients -/
def totP (ps : List (Nat × Nat)) : Nat := ps.foldl (fun m x => m * (x.2 - x.2 / x.1)) 1
def totF (n : Nat) (l : List Nat) : Nat := l.foldl (fun m p => m / p * (p - 1)) n
theorem totP_go (ps : List (Nat × Nat)) (m : Nat) : ps.foldl (fun m x => m * (x.2 - x.2 / x.1)) m = m * totP ps := by
  unfold totP
  induction ps generalizing m with
  | nil => show m = m * 1; rw [Nat.mul_one]
  | cons x ps ih =>
    show ps.foldl _ (m * (x.2 - x.2 / x.1)) = m * ps.foldl _ (1 * (x.2 - x.2 / x.1))
    rw [ih, ih (1 * (x.2 - x.2 / x.1)), Nat.one_mul, Nat.mul_assoc]
theorem tot_go (ps : List (Nat × Nat)) (hpw : ∀ x ∈ ps, Pr x.1 ∧ ∃ e, 1 ≤ e ∧ x.2 = x.1 ^ e) (m : Nat) : totF (m * prodN (ps.map (·.2))) (ps.map (·.1)) = m * totP ps := by
  induction ps generalizing m with
  | nil => rfl
  | cons x ps ih =>
    obtain ⟨h1, e, he, h2⟩ := hpw x List.mem_cons_self
    have hp := h1.pos
    obtain ⟨k, rfl⟩ : ∃ k, e = k + 1 := ⟨e - 1, by omega⟩
    rw [Nat.pow_succ] at h2
    have e1 : x.2 / x.1 = x.1 ^ k := by rw [h2]; exact Nat.mul_div_cancel _ hp
    have e2 : x.2 - x.2 / x.1 = x.1 ^ k * (x.1 - 1) := by
      rw [e1, h2, Nat.mul_sub, Nat.mul_one]
    have e3 : m * (x.2 * prodN (ps.map (·.2))) / x.1 * (x.1 - 1) = m * (x.2 - x.2 / x.1) * prodN (ps.map (·.2)) := by
      have : m * (x.2 * prodN (ps.map (·.2))) = m * x.1 ^ k * prodN (ps.map (·.2)) * x.1 := by
        rw [h2]
        ac_rfl
      rw [this, Nat.mul_div_cancel _ hp, e2]
      ac_rfl
    have e4 : totP (x :: ps) = (x.2 - x.2 / x.1) * totP ps := by
      show ps.foldl _ (1 * (x.2 - x.2 / x.1)) = _
      rw [totP_go, Nat.one_mul]
    show totF (m * (x.2 * prodN (ps.map (·.2))) / x.1 * (x.1 - 1)) (ps.map (·.1)) = _
    rw [e3, ih (fun z hz => hpw z (List.mem_cons_of_mem _ hz)), e4, Nat.mul_assoc]
theorem Parts.tot {n : Nat} {ps : List (Nat × Nat)} (h : Parts n ps) : totF n (ps.map (·.1)) = totP ps := by
  have e := tot_go ps h.pw 1
  rw [Nat.one_mul, Nat.one_mul, h.prod] at e
  exact e

/-! ### divisors -/
theorem dvd_step {m p d : Nat} (hp : Pr p) (hm : 0 < m) : d ∣ m * p ↔ d ∣ m ∨ ∃ e, e ∣ m ∧ d = p * e := by
  constructor
  · intro h
    by_cases hd : p ∣ d
    · obtain ⟨e, rfl⟩ := hd
      refine .inr ⟨e, ?_, rfl⟩
      rw [Nat.mul_comm m p] at h
      exact Nat.dvd_of_mul_dvd_mul_left hp.pos h
    · refine .inl (Nat.Coprime.dvd_of_dvd_mul_left (show Nat.Coprime d p from ?_) (show d ∣ p * m by rw [Nat.mul_comm]; exact h))
      rw [Nat.coprime_comm]
      exact hp.cop hd
  · rintro (h | ⟨e, h, rfl⟩)
    · exact Nat.dvd_trans h ⟨p, rfl⟩
    · rw [Nat.mul_comm m p]
      exact Nat.mul_dvd_mul_left p h

/-! ### one prime, one part -/
theorem Facs.one {n l : Nat} {fs : List Nat} (g : Facs n fs) (h : Least n l) : (l = n ↔ fs.length = 1) := by
  constructor
  · intro e
    subst e
    have hp := h.pr
    match fs, g with
    | [], g =>
      have : (1 : Nat) = l := g.prod
      have := h.two
      omega
    | [a], _ => rfl
    | a :: b :: r, g =>
      have ha := g.pr a List.mem_cons_self
      have hb := g.pr b (List.mem_cons_of_mem _ List.mem_cons_self)
      have hd : a ∣ l := g.prod ▸ dvd_prod List.mem_cons_self
      have e := ha.eq hp hd
      have e2 : a * (b * prodN r) = l := g.prod
      have hr : 0 < prodN r := prod_pos fun c hc => (g.pr c (List.mem_cons_of_mem _ (List.mem_cons_of_mem _ hc))).pos
      have : 2 * 1 ≤ b * prodN r := Nat.mul_le_mul hb.1 hr
      have h3 : a * 2 ≤ a * (b * prodN r) := Nat.mul_le_mul_left a (by omega)
      have := ha.1
      omega
  · intro e
    match fs, g, e with
    | [a], g, _ =>
      have e1 : a * 1 = n := g.prod
      have ha := g.pr a List.mem_cons_self
      rw [Nat.mul_one] at e1
      subst e1
      exact (h.pr).eq ha h.dvd
theorem Parts.one {n : Nat} {ps : List (Nat × Nat)} {fs : List Nat} (h : Parts n ps) (g : Facs n fs) : (ps.length = 1 ↔ fs ≠ [] ∧ fs[0]? = fs[fs.length - 1]?) := by
  have hm : ∀ p, p ∈ ps.map (·.1) ↔ p ∈ fs := fun p => (h.mem p).trans (g.mem p).symm
  constructor
  · intro e
    match ps, e, hm with
    | [x], _, hm =>
      have all : ∀ p ∈ fs, p = x.1 := fun p hp => List.mem_singleton.mp ((hm p).mpr hp)
      have hx : x.1 ∈ fs := (hm x.1).mp List.mem_cons_self
      have hl : 0 < fs.length := List.length_pos_of_mem hx
      refine ⟨List.ne_nil_of_mem hx, ?_⟩
      rw [List.getElem?_eq_getElem hl, List.getElem?_eq_getElem (show fs.length - 1 < fs.length by omega), all _ (List.getElem_mem _), all _ (List.getElem_mem _)]
  · rintro ⟨hne, e⟩
    have hl : 0 < fs.length := List.length_pos_iff.mpr hne
    rw [List.getElem?_eq_getElem hl, List.getElem?_eq_getElem (show fs.length - 1 < fs.length by omega)] at e
    have e := Option.some.inj e
    have asc := List.pairwise_iff_getElem.mp g.asc
    have all : ∀ p ∈ fs, p = fs[0] := fun p hp => by
      obtain ⟨i, hi, rfl⟩ := List.mem_iff_getElem.mp hp
      have a : fs[0] ≤ fs[i] := by
        by_cases h0 : i = 0
        · subst h0; exact Nat.le_refl _
        · exact asc 0 i hl hi (by omega)
      have b : fs[i] ≤ fs[fs.length - 1] := by
        by_cases h0 : i = fs.length - 1
        · subst h0; exact Nat.le_refl _
        · exact asc i (fs.length - 1) hi (by omega) (by omega)
      omega
    have h1 : ps.map (·.1) = [fs[0]] := asc_nat h.asc (List.pairwise_singleton _ _) fun a => by
      rw [hm a, List.mem_singleton]
      constructor
      · exact all a
      · intro z
        rw [z]
        exact List.getElem_mem _
    have := congrArg List.length h1
    rw [List.length_map] at this
    exact this
theorem facs_one : Facs 1 [] := ⟨fun _ h => absurd h List.not_mem_nil, List.Pairwise.nil, rfl⟩
end Nm

set_option Elab.async false
set_option linter.all false
set_option maxRecDepth 100000
namespace K2
open PySem PySem.Spec PyProof.Rows L2 Gd Qu Nm
theorem modN (a b : Nat) : (a : Int) % (b : Int) = ((a % b : Nat) : Int) := rfl
theorem divN (a b : Nat) : (a : Int) / (b : Int) = ((a / b : Nat) : Int) := rfl
theorem mod0 {n t : Nat} : V.int ((n : Int) % (t : Int)) = V.int 0 ↔ t ∣ n := by
  rw [modN]
  constructor
  · intro h
    have := V.int.inj h
    exact Nat.dvd_of_mod_eq_zero (by omega)
  · intro h
    rw [Nat.mod_eq_zero_of_dvd h]
    rfl
def cp (x : Nat × Nat) : Int × Int := ((x.1 : Int), (x.2 : Int))
section
variable {P : Program} {w : World} {K : PySem.W.Frag} {mg : Str → Option Value} {base : Heap}
def spLeast : Sp := fun vs H Q _ => ∃ n : Nat, vs = [.int n] ∧ 2 ≤ n ∧ n ≤ 1000000 ∧ ∀ l : Nat, Least n l → Q (.int l) H
theorem c_least_prime (D : At K mg "least_prime" s_least_prime ["number"]) : Cal P w K mg base 1 "least_prime" spLeast := by
  refine okC D sc_least_prime (fun vs H Q E h => ?_) (fun f cdv A outer s H vs Q E hr h => ?_)
  · obtain ⟨n, rfl, _⟩ := h
    rfl
  · obtain ⟨n, rfl, hn, hm, k⟩ := h
    have nd := sc_least_prime.nd
    refine ⟨_, (pss_cons (ps_set (i := 1) nd rfl (.inl rfl) pe_int)
 (pss_cons (ps_while PassesOwn.never (pt_cmpR op_le (pe_op op_mul (pv 1) (pv 1)) (pv 0) (nomark _))
 (pss_cons (ps_if (pt_cmpR op_eq (pe_op op_mod (pv 0) (pv 1)) pe_int (nomark _))
 (pss_one (ps_ret (pv 1)))
 pss_nil)
 (pss_one (ps_aug (i := 1) nd rfl (.inl rfl) pe_int ip_add))))
 (pss_one (ps_ret (pv 0))))), ?_⟩
    refine ⟨fun m σ H' => ∃ t : Nat, σ = [some (.int n), some (.int t)] ∧ H = H' ∧ 2 ≤ t ∧ t ≤ n + 1 ∧ (∀ d, 2 ≤ d → d < t → ¬ d ∣ n) ∧ m = n + 2 - t, ⟨n, 2, rfl, rfl, by decide, by omega, fun d h1 h2 => by omega, by omega⟩, ?_⟩
    rintro m σ _ ⟨t, rfl, rfl, ht, htn, hd, rfl⟩
    refine ⟨_, rfl, _, rfl, _, _, rfl, rfl, .inl ⟨by omega, by omega⟩, _, rfl, _, _, rfl, rfl, _, rfl, ?_⟩
    refine ite2 (fun c => ?_) (fun c => ?_)
    · have c1 : (t : Int) * t ≤ n := of_decide_eq_true c
      have c2 : t * t ≤ n := by exact_mod_cast c1
      have c3 : t ≤ n := Nat.le_trans (Nat.le_mul_of_pos_left t (by omega)) c2
      refine ⟨fun σ' H' => ∃ m', m' < n + 2 - t ∧ ∃ t : Nat, σ' = [some (.int n), some (.int t)] ∧ H = H' ∧ 2 ≤ t ∧ t ≤ n + 1 ∧ (∀ d, 2 ≤ d → d < t → ¬ d ∣ n) ∧ m' = n + 2 - t, fun _ _ z => z, ?_⟩
      refine ⟨_, rfl, _, rfl, _, _, rfl, rfl, (by show (0 : Int) < t; omega), rfl, _, rfl, ite2 (fun e => ?_) (fun e => ?_)⟩
      · have e1 := mod0.mp (of_decide_eq_true e)
        exact ⟨_, rfl, k t (least_at ht hd e1)⟩
      · have e1 : ¬ t ∣ n := fun z => e (decide_eq_true (mod0.mpr z))
        refine ⟨_, rfl, _, _, rfl, rfl, n + 2 - (t + 1), by omega, t + 1, rfl, rfl, by omega, by omega, fun d h1 h2 h3 => ?_, rfl⟩
        by_cases ed : d = t
        · subst ed
          exact e1 h3
        · exact hd d h1 (by omega) h3
    · have c1 : ¬ (t : Int) * t ≤ n := fun z => c (decide_eq_true z)
      have c2 : n < t * t := by
        refine Nat.lt_of_not_le fun z => c1 ?_
        exact_mod_cast z
      exact ⟨_, rfl, k n (least_self hn hd c2)⟩
end
end K2

set_option Elab.async false
set_option linter.all false
set_option maxRecDepth 100000
namespace K2
open PySem PySem.Spec PyProof.Rows L2 Gd Qu Nm
/-- between two turns of the outer loop: what is found, what is left -/
structure Half (n : Nat) (ps : List (Nat × Nat)) (left : Nat) : Prop where
  prod : prodN (ps.map (·.2)) * left = n
  asc : (ps.map (·.1)).Pairwise (· < ·)
  pw : ∀ x ∈ ps, Pr x.1 ∧ ∃ e, 1 ≤ e ∧ x.2 = x.1 ^ e
  more : ∀ x ∈ ps, ∀ p, Pr p → p ∣ left → x.1 < p
  pos : 1 ≤ left
theorem prodN_snoc (l : List Nat) (a : Nat) : prodN (l ++ [a]) = prodN l * a := by
  rw [prodN_append]
  show prodN l * (a * 1) = _
  rw [Nat.mul_one]
theorem Half.step {n left l e rest : Nat} {ps : List (Nat × Nat)} (h : Half n ps left) (hl : Least left l) (he : 1 ≤ e) (hs : rest * l ^ e = left) (hn : ¬ l ∣ rest) (hp : 1 ≤ rest) : Half n (ps ++ [(l, l ^ e)]) rest := by
  have dl : ∀ p, p ∣ rest → p ∣ left := fun p z => Nat.dvd_trans z ⟨l ^ e, hs.symm⟩
  refine ⟨?_, ?_, ?_, ?_, hp⟩
  · rw [List.map_append, List.map_singleton, prodN_snoc, ← h.prod, ← hs]
    ac_rfl
  · rw [List.map_append, List.map_singleton]
    refine List.pairwise_append.mpr ⟨h.asc, List.pairwise_singleton _ _, fun a ha b hb => ?_⟩
    obtain ⟨x, hx, rfl⟩ := List.mem_map.mp ha
    obtain rfl := List.mem_singleton.mp hb
    exact h.more x hx _ hl.pr hl.dvd
  · intro x hx
    rcases List.mem_append.mp hx with hx | hx
    · exact h.pw x hx
    · obtain rfl := List.mem_singleton.mp hx
      exact ⟨hl.pr, e, he, rfl⟩
  · intro x hx p hpr hd
    rcases List.mem_append.mp hx with hx | hx
    · exact h.more x hx p hpr (dl p hd)
    · obtain rfl := List.mem_singleton.mp hx
      have h1 := hl.least p hpr.1 (dl p hd)
      by_cases e1 : l = p
      · subst e1
        exact absurd hd hn
      · exact Nat.lt_of_le_of_ne h1 e1
theorem Half.len {n left : Nat} {ps : List (Nat × Nat)} (h : Half n ps left) : ps.length ≤ n := by
  have key : ∀ l : List (Nat × Nat), (∀ x ∈ l, Pr x.1 ∧ ∃ e, 1 ≤ e ∧ x.2 = x.1 ^ e) → l.length + 1 ≤ prodN (l.map (·.2)) := by
    intro l
    induction l with
    | nil => intro _; exact Nat.le_refl _
    | cons x l ih =>
      intro hx
      have h1 := ih fun y hy => hx y (List.mem_cons_of_mem _ hy)
      obtain ⟨h2, e, he, h3⟩ := hx x List.mem_cons_self
      have h4 : 2 ≤ x.2 := by
        rw [h3]
        exact Nat.le_trans h2.1 (Nat.le_self_pow (by omega) _)
      have h5 : 2 * (l.length + 1) ≤ x.2 * prodN (l.map (·.2)) := Nat.mul_le_mul h4 h1
      show l.length + 1 + 1 ≤ x.2 * prodN (l.map (·.2))
      omega
  have h1 := key ps h.pw
  have h2 : prodN (ps.map (·.2)) * 1 ≤ n := by
    rw [← h.prod]
    exact Nat.mul_le_mul_left _ h.pos
  omega
section
variable {P : Program} {w : World} {K : PySem.W.Frag} {mg : Str → Option Value} {base : Heap}
def spParts : Sp := fun vs H Q _ => ∃ n : Nat, vs = [.int n] ∧ 1 ≤ n ∧ n ≤ 10000 ∧ ∀ (a : Addr) (as : List Addr) (ps : List (Nat × Nat)) (H' : Hp), Parts n ps → ps.length ≤ n → Same H H' → H' a = some (.tup (as.map V.ref)) → QsAt H' as (ps.map cp) → Q (.ref a) H'
/-- the outer loop's word -/
def WOut (H : Hp) (n : Nat) (m : Nat) (σ : L2.St) (H' : Hp) : Prop := ∃ (l : Addr) (as : List Addr) (ps : List (Nat × Nat)) (left : Nat) (y3 y4 : Option V), σ = [some (.int n), some (.ref l), some (.int left), y3, y4] ∧
  Same H H' ∧ H l = none ∧ H' l = some (.lst (as.map V.ref)) ∧ QsAt H' as (ps.map cp) ∧ Half n ps left ∧ left = m
/-- the inner loop's word: l the least prime of left -/
def WIn (H1 : Hp) (n left l : Nat) (a : Addr) (m : Nat) (σ : L2.St) (H' : Hp) : Prop := ∃ (e rest : Nat), σ = [some (.int n), some (.ref a), some (.int rest), some (.int l), some (.int ((l ^ e : Nat) : Int))] ∧ H1 = H' ∧ rest * l ^ e = left ∧ 1 ≤ rest ∧ rest = m
theorem c_prime_parts (D : At K mg "prime_parts" s_prime_parts ["number"]) (c_least_prime : Cal P w K mg base 1 "least_prime" spLeast) (z_tuple : mg "tuple" = none) : Cal P w K mg base 2 "prime_parts" spParts := by
  refine okC D sc_prime_parts (fun vs H Q E h => ?_) (fun f cdv A outer s H vs Q E hr h => ?_)
  · obtain ⟨n, rfl, _⟩ := h
    rfl
  · obtain ⟨n, rfl, hn, hm, k⟩ := h
    have nd := sc_prime_parts.nd
    refine ⟨_, (pss_cons (ps_set (i := 1) nd rfl (.inl rfl) (pe_lst pa_nil))
 (pss_cons (ps_set (i := 2) nd rfl (.inl rfl) (pv 0))
 (pss_cons (ps_while PassesOwn.never (pt_cmpR op_gt (pv 2) pe_int (nomark _))
 (pss_cons (ps_set (i := 3) nd rfl (.inl rfl) (pe_k c_least_prime hr (by decide) (by rfl) (pa_cons (pv 2) pa_nil)))
 (pss_cons (ps_set (i := 4) nd rfl (.inl rfl) pe_int)
 (pss_cons (ps_while PassesOwn.never (pt_cmpR op_eq (pe_op op_mod (pv 2) (pv 3)) pe_int (nomark _))
 (pss_cons (ps_set (i := 2) nd rfl (.inl rfl) (pe_op op_fdiv (pv 2) (pv 3)))
 (pss_one (ps_set (i := 4) nd rfl (.inl rfl) (pe_op op_mul (pv 4) (pv 3))))))
 (pss_one (ps_expr (pe_bm PySem.F.plainAttrs_list PySem.F.slot_list_append PySem.F.type_list_append mt_append (pv 1) (pa_cons (pe_tup (pa_cons (pv 3) (pa_cons (pv 4) pa_nil))) pa_nil))))))))
 (pss_one (ps_ret (pe_tupleOf (by rfl) z_tuple (pv 1))))))), ?_⟩
    refine ⟨Nat.zero_le _, fun l hl => ⟨_, rfl, WOut H n, ⟨n, l, [], [], n, none, none, rfl, same_new hl, hl, upd_same, ⟨rfl, fun i a q e => by simp at e⟩, ⟨by show 1 * n = n; exact Nat.one_mul n, List.Pairwise.nil, fun x hx => absurd hx List.not_mem_nil, fun x hx => absurd hx List.not_mem_nil, hn⟩, rfl⟩, ?_⟩⟩
    clear hl l
    rintro m σ H1 ⟨l, as, ps, left, y3, y4, rfl, s1, hl, h1, hqs, hf, rfl⟩
    refine ⟨_, rfl, _, _, rfl, rfl, _, rfl, ite2 (fun c => ?_) (fun c => ?_)⟩
    · -- a turn
      have c1 : (1 : Int) < (left : Int) := of_decide_eq_true c
      have c2 : 2 ≤ left := by omega
      have lele : left ≤ n := by
        have hp : 1 ≤ prodN (ps.map (·.2)) := by
          refine prod_pos fun a ha => ?_
          obtain ⟨x, hx, rfl⟩ := List.mem_map.mp ha
          obtain ⟨q1, e, _, q2⟩ := hf.pw x hx
          rw [q2]
          exact Nat.pow_pos q1.pos
        rw [← hf.prod]
        exact Nat.le_mul_of_pos_left _ hp
      refine ⟨fun σ' H' => ∃ m', m' < left ∧ WOut H n m' σ' H', fun _ _ z => z, ?_⟩
      refine ⟨_, rfl, left, rfl, c2, by omega, fun p hp => ?_⟩
      have hp2 := hp.two
      have hppos : (0 : Int) < (p : Int) := by omega
      refine ⟨WIn H1 n left p l, ⟨left, 0, left, rfl, rfl, by rw [Nat.pow_zero, Nat.mul_one], by omega, rfl⟩, ?_⟩
      rintro m σ _ ⟨e, rest, rfl, rfl, hre, hrp, rfl⟩
      have ple : p ^ e ≤ left := by
        rw [← hre]
        exact Nat.le_mul_of_pos_left _ hrp
      have plel : p ≤ left := Nat.le_of_dvd (by omega) hp.dvd
      refine ⟨_, rfl, _, rfl, _, _, rfl, rfl, hppos, rfl, _, rfl, ite2 (fun d => ?_) (fun d => ?_)⟩
      · -- it divides once more
        have d1 := mod0.mp (of_decide_eq_true d)
        obtain ⟨r, hr2⟩ := d1
        have hdiv : rest / p = r := by
          rw [hr2]
          exact Nat.mul_div_cancel_left _ (by omega)
        refine ⟨fun σ' H' => ∃ m', m' < rest ∧ WIn H1 n left p l m' σ' H', fun _ _ z => z, ?_⟩
        refine ⟨_, rfl, _, rfl, _, _, rfl, rfl, ⟨hppos, by omega⟩, _, rfl, _, rfl, _, _, rfl, rfl, .inl ⟨by omega, by omega⟩, ?_⟩
        have r0 : 1 ≤ r := by
          cases r with
          | zero => rw [Nat.mul_zero] at hr2; omega
          | succ r => omega
        refine ⟨r, ?_, e + 1, r, ?_, rfl, ?_, r0, rfl⟩
        · rw [hr2]
          have : 2 * r ≤ p * r := Nat.mul_le_mul_right r hp2
          omega
        · rw [Nat.pow_succ, ← hdiv]
          rfl
        · rw [← hre, hr2, Nat.pow_succ]
          ac_rfl
      · -- it divides no more
        have d1 : ¬ p ∣ rest := fun z => d (decide_eq_true (mod0.mpr z))
        have he : 1 ≤ e := by
          cases e with
          | zero =>
            rw [Nat.pow_zero, Nat.mul_one] at hre
            rw [hre] at d1
            exact absurd hp.dvd d1
          | succ e => omega
        have hf' := hf.step hp he hre d1 hrp
        have hlen : as.length ≤ n := by
          have a1 := hf.len
          have a2 := hqs.1
          rw [List.length_map] at a2
          omega
        refine ⟨_, rfl, .inl ⟨rfl, _, .inl (.inl h1)⟩, _, rfl, _, rfl, (by show 2 ≤ sizeLine; decide), fun T hT => ⟨l, as.map V.ref, _, rfl, rfl, ?_, ?_, ?_⟩⟩
        · show upd H1 T _ l = _
          rw [upd_ne (ne_of_none h1 hT)]
          exact h1
        · rw [List.length_map]
          exact Nat.lt_of_le_of_lt hlen (Nat.lt_of_le_of_lt hm (by decide))
        · have sT : Same H1 (upd H1 T (.tup [V.int p, V.int ((p ^ e : Nat) : Int)])) := same_new hT
          have nlT : T ≠ l := (ne_of_none h1 hT).symm
          refine ⟨rest, ?_, l, as ++ [T], ps ++ [(p, p ^ e)], rest, _, _, rfl, same_own (s1.trans sT) hl, hl, ?_, ?_, hf', rfl⟩
          · rw [← hre]
            have : rest * 2 ≤ rest * p ^ e := Nat.mul_le_mul_left rest (Nat.le_trans hp2 (Nat.le_self_pow (by omega) _))
            omega
          · rw [upd_same, List.map_append]
            rfl
          · refine ⟨by rw [List.length_append, List.map_append, List.length_append, hqs.1]; rfl, fun i a q e1 e2 => ?_⟩
            rw [List.map_append] at e2
            by_cases hi : i < as.length
            · rw [List.getElem?_append_left hi] at e1
              rw [List.getElem?_append_left (by rw [← hqs.1]; exact hi)] at e2
              have q0 := hqs.2 i a q e1 e2
              have na : a ≠ l := fun z => by
                rw [z] at q0
                have := q0.symm.trans h1
                cases this
              show upd (upd H1 T _) l _ a = _
              rw [upd_ne na]
              exact sT _ _ q0
            · rw [List.getElem?_append_right (by omega)] at e1
              rw [List.getElem?_append_right (by rw [← hqs.1]; omega), ← hqs.1] at e2
              have i0 : i - as.length = 0 := by
                cases h : i - as.length with
                | zero => rfl
                | succ j =>
                  rw [h] at e1
                  simp at e1
              rw [i0] at e1 e2
              obtain rfl : T = a := by simpa using e1
              obtain rfl : cp (p, p ^ e) = q := by simpa using e2
              show upd (upd H1 T _) l _ T = _
              rw [upd_ne nlT, upd_same]
              rfl
    · -- none is left
      have c1 : ¬ (1 : Int) < (left : Int) := fun z => c (decide_eq_true z)
      have c2 : left = 1 := by
        have := hf.pos
        omega
      subst c2
      refine ⟨_, rfl, .inl ⟨l, _, rfl, .inl (.inl h1), fun a ha => ?_⟩⟩
      exact k a as ps _ ⟨by rw [← hf.prod, Nat.mul_one], hf.asc, hf.pw⟩ hf.len (s1.trans (same_new ha)) upd_same (hqs.same (same_new ha))
end
end K2

set_option Elab.async false
set_option linter.all false
set_option maxRecDepth 100000
namespace K2
open PySem PySem.Spec PyProof.Rows L2 Gd Qu Nm
theorem List.map_idx {α β γ : Type} {as : List α} {ps : List β} {f : α → γ} {g : β → γ} (hl : as.length = ps.length) (h : ∀ (i : Nat) a p, as[i]? = some a → ps[i]? = some p → f a = g p) : as.map f = ps.map g := by
  refine List.ext_getElem? fun i => ?_
  rw [List.getElem?_map, List.getElem?_map]
  cases ha : as[i]? with
  | none =>
    have : ps[i]? = none := List.getElem?_eq_none_iff.mpr (by rw [← hl]; exact List.getElem?_eq_none_iff.mp ha)
    rw [this]
    rfl
  | some a =>
    obtain ⟨hi, _⟩ := List.getElem?_eq_some_iff.mp ha
    have hp : ps[i]? = some ps[i] := List.getElem?_eq_getElem (by rw [← hl]; exact hi)
    rw [hp]
    exact congrArg some (h i a _ ha hp)
section
variable {P : Program} {w : World} {K : PySem.W.Frag} {mg : Str → Option Value} {base : Heap}
def spNum : Sp := fun vs H Q _ => ∃ n : Nat, vs = [.int n] ∧ 1 ≤ n ∧ n ≤ 10000 ∧ Q .non H
theorem c_need_number (D : At K mg "need_number" s_need_number ["number"]) (c_need : Cal P w K mg base 1 "need" spNeed) (c_is_size : Cal P w K mg base 2 "is_size" spIsSize) {tm : Tok} (m_MOST_FACTORED : mg "MOST_FACTORED" = some (.int 10000 tm)) :
    Cal P w K mg base 3 "need_number" spNum := by
  refine okC D sc_need_number (fun vs H Q E h => ?_) (fun f cdv A outer s H vs Q E hr h => ?_)
  · obtain ⟨n, rfl, _⟩ := h
    rfl
  · obtain ⟨n, rfl, h1, h2, k⟩ := h
    have nd := sc_need_number.nd
    refine ⟨_, (pss_one (ps_expr (pe_k c_need hr (by decide) (by rfl) (pa_cons (pe_and (pe_k c_is_size hr (by decide) (by rfl) (pa_cons (pv 0) pa_nil)) (pe_one (pe_cmpR op_le (pv 0) (pe_glob (v := .int 10000) rfl m_MOST_FACTORED ⟨_, rfl⟩) (nomark _)))) (pa_cons pe_str pa_nil))))), ?_⟩
    refine ⟨_, rfl, n, rfl, true, ?_, iteT ⟨_, rfl, _, _, rfl, rfl, V.str "number", ?_, k⟩⟩
    · rw [decide_eq_true (show (1 : Int) ≤ n by omega)]
    · show [V.bl (decide ((n : Int) ≤ 10000)), V.str "number"] = _
      rw [decide_eq_true (show (n : Int) ≤ 10000 by omega)]
def spIsPrime : Sp := fun vs H Q _ => ∃ n : Nat, vs = [.int n] ∧ 1 ≤ n ∧ n ≤ 10000 ∧ ∀ b : Bool, (b = true ↔ 2 ≤ n ∧ Least n n) → Q (.bl b) H
def spIsPP : Sp := fun vs H Q _ => ∃ n : Nat, vs = [.int n] ∧ 1 ≤ n ∧ n ≤ 10000 ∧ ∀ (b : Bool) (H' : Hp), Same H H' → (∀ ps, Parts n ps → (b = true ↔ ps.length = 1)) → Q (.bl b) H'
theorem parts1 : Parts 1 [] := ⟨rfl, List.Pairwise.nil, fun _ h => absurd h List.not_mem_nil⟩
def spPrimes : Sp := fun vs H Q _ => ∃ n : Nat, vs = [.int n] ∧ 1 ≤ n ∧ n ≤ 10000 ∧ ∀ (a : Addr) (ps : List (Nat × Nat)) (H' : Hp), Parts n ps → Same H H' → H' a = some (.tup (ps.map fun x => V.int x.1)) → Q (.ref a) H'
/-- what a comprehension that unpacks pairs gives -/
theorem at_pairs {as : List Addr} {ps : List (Nat × Nat)} {H : Hp} (hq : QsAt H as (ps.map cp)) {x : V} (hx : x ∈ as.map V.ref) : ∃ (a : Addr) (p : Nat × Nat), x = V.ref a ∧ p ∈ ps ∧ QAt H a (cp p) := by
  obtain ⟨a, ha, rfl⟩ := List.mem_map.mp hx
  obtain ⟨i, hi, rfl⟩ := List.mem_iff_getElem.mp ha
  have hl := hq.1
  rw [List.length_map] at hl
  have hi2 : i < ps.length := by omega
  refine ⟨_, ps[i], rfl, List.getElem_mem _, hq.2 i _ _ (List.getElem?_eq_getElem hi) ?_⟩
  rw [List.getElem?_map, List.getElem?_eq_getElem hi2]
  rfl
/-- the first, the second of the pair at an address, as the heap has it -/
def fstAt (H : Hp) (x : V) : V := match x with
  | .ref a => match H a with
    | some (.tup (v :: _)) => v
    | _ => .non
  | _ => .non
def sndAt (H : Hp) (x : V) : V := match x with
  | .ref a => match H a with
    | some (.tup (_ :: v :: _)) => v
    | _ => .non
  | _ => .non
theorem fstAt_of {H : Hp} {a : Addr} {q : Int × Int} (h : QAt H a q) : fstAt H (.ref a) = .int q.1 := by
  unfold fstAt
  have e : H a = _ := h
  simp only [e]
theorem sndAt_of {H : Hp} {a : Addr} {q : Int × Int} (h : QAt H a q) : sndAt H (.ref a) = .int q.2 := by
  unfold sndAt
  have e : H a = _ := h
  simp only [e]
theorem map_fst {as : List Addr} {ps : List (Nat × Nat)} {H : Hp} (hq : QsAt H as (ps.map cp)) : (as.map V.ref).map (fstAt H) = ps.map fun x => V.int x.1 := by
  rw [List.map_map]
  refine List.map_idx (by have := hq.1; rw [List.length_map] at this; exact this) fun i a p e1 e2 => ?_
  exact fstAt_of (hq.2 i a (cp p) e1 (by rw [List.getElem?_map, e2]; rfl))
theorem map_snd {as : List Addr} {ps : List (Nat × Nat)} {H : Hp} (hq : QsAt H as (ps.map cp)) : (as.map V.ref).map (sndAt H) = ps.map fun x => V.int x.2 := by
  rw [List.map_map]
  refine List.map_idx (by have := hq.1; rw [List.length_map] at this; exact this) fun i a p e1 e2 => ?_
  exact sndAt_of (hq.2 i a (cp p) e1 (by rw [List.getElem?_map, e2]; rfl))
end
end K2

set_option Elab.async false
set_option linter.all false
set_option maxRecDepth 100000
namespace K2
open PySem PySem.Spec PyProof.Rows L2 Gd Qu Nm
/-- the divisors, by going through -/
def dvs (n : Nat) : List Nat := ((List.range n).map (1 + ·)).filter fun t => decide (n % t = 0)
theorem dvs_asc (n : Nat) : (dvs n).Pairwise (· < ·) := by
  refine List.Pairwise.filter _ (List.pairwise_map.mpr ?_)
  exact List.pairwise_lt_range.imp fun h => by omega
theorem dvs_mem {n : Nat} (hn : 1 ≤ n) (d : Nat) : d ∈ dvs n ↔ d ∣ n := by
  unfold dvs
  rw [List.mem_filter, List.mem_map]
  constructor
  · rintro ⟨_, h⟩
    exact Nat.dvd_of_mod_eq_zero (of_decide_eq_true h)
  · intro h
    have h1 := Nat.le_of_dvd hn h
    have h2 : 1 ≤ d := Nat.pos_of_dvd_of_pos h hn
    exact ⟨⟨d - 1, List.mem_range.mpr (by omega), by omega⟩, decide_eq_true (Nat.mod_eq_zero_of_dvd h)⟩
theorem filterMap_if {α β : Type} (l : List α) (f : α → β) (p : α → Bool) (g : β → Option β) (h : ∀ a ∈ l, g (f a) = if p a = true then some (f a) else none) : (l.map f).filterMap g = (l.filter p).map f := by
  induction l with
  | nil => rfl
  | cons a l ih =>
    have h1 := h a List.mem_cons_self
    have h2 := ih fun b hb => h b (List.mem_cons_of_mem _ hb)
    rw [List.map_cons]
    cases hp : p a with
    | true =>
      rw [if_pos hp] at h1
      rw [List.filterMap_cons_some h1, List.filter_cons_of_pos hp, h2]
      rfl
    | false =>
      rw [if_neg (by rw [hp]; exact Bool.false_ne_true)] at h1
      rw [List.filterMap_cons_none h1, List.filter_cons_of_neg (by rw [hp]; exact Bool.false_ne_true), h2]
theorem rgG_eq (n : Nat) : rgG 1 n = ((List.range n).map (1 + ·)).map fun t => V.int (t : Nat) := by
  unfold rgG
  rw [List.map_map]
  refine List.map_congr_left fun i _ => ?_
  show V.int (1 + (i : Int)) = V.int ((1 + i : Nat) : Int)
  congr 1
section
variable {P : Program} {w : World} {K : PySem.W.Frag} {mg : Str → Option Value} {base : Heap}
def spDvs : Sp := fun vs H Q _ => ∃ n : Nat, vs = [.int n] ∧ 1 ≤ n ∧ n ≤ 10000 ∧ ∀ (a : Addr) (H' : Hp), Same H H' → H' a = some (.tup ((dvs n).map fun t => V.int (t : Nat))) → Q (.ref a) H'
def dvF (n : Nat) (x : V) : Option V := match x with
  | .int i => if i = 0 then none else if (n : Int) % i = 0 then some (.int i) else none
  | _ => none
def spTot : Sp := fun vs H Q _ => ∃ n : Nat, vs = [.int n] ∧ 1 ≤ n ∧ n ≤ 10000 ∧ ∀ (ps : List (Nat × Nat)) (H' : Hp), Parts n ps → Same H H' → Q (.int (totP ps : Nat)) H'
theorem parts_tot_le {n : Nat} {ps : List (Nat × Nat)} (h : Parts n ps) : ∀ i, totP (ps.take i) ≤ n := by
  intro i
  have key : ∀ (l : List (Nat × Nat)), (∀ x ∈ l, x ∈ ps) → totP l ≤ prodN (l.map (·.2)) := by
    intro l
    induction l with
    | nil => intro _; exact Nat.le_refl _
    | cons x l ih =>
      intro hx
      have e : totP (x :: l) = (x.2 - x.2 / x.1) * totP l := by
        show l.foldl _ (1 * (x.2 - x.2 / x.1)) = _
        rw [totP_go, Nat.one_mul]
      rw [e]
      exact Nat.mul_le_mul (Nat.sub_le _ _) (ih fun y hy => hx y (List.mem_cons_of_mem _ hy))
  have h1 := key (ps.take i) fun x hx => List.mem_of_mem_take hx
  have h2 : prodN ((ps.take i).map (·.2)) * prodN ((ps.drop i).map (·.2)) = n := by
    rw [← prodN_append, ← List.map_append, List.take_append_drop, h.prod]
  have h3 : 1 ≤ prodN ((ps.drop i).map (·.2)) := by
    refine prod_pos fun a ha => ?_
    obtain ⟨x, hx, rfl⟩ := List.mem_map.mp ha
    obtain ⟨q1, e, _, q2⟩ := h.pw x (List.mem_of_mem_drop hx)
    rw [q2]
    exact Nat.pow_pos q1.pos
  calc totP (ps.take i) ≤ prodN ((ps.take i).map (·.2)) := h1
    _ ≤ prodN ((ps.take i).map (·.2)) * prodN ((ps.drop i).map (·.2)) := Nat.le_mul_of_pos_right _ h3
    _ = n := h2
theorem parts_le {n : Nat} {ps : List (Nat × Nat)} (hn : 1 ≤ n) (h : Parts n ps) : ∀ x ∈ ps, 2 ≤ x.1 ∧ x.1 ≤ n ∧ 1 ≤ x.2 ∧ x.2 ≤ n := by
  intro x hx
  obtain ⟨q1, e, he, q2⟩ := h.pw x hx
  have d1 := ((h.mem x.1).mp (List.mem_map.mpr ⟨x, hx, rfl⟩)).2
  have d2 : x.2 ∣ n := h.prod ▸ dvd_prod (List.mem_map.mpr ⟨x, hx, rfl⟩)
  exact ⟨q1.1, Nat.le_of_dvd hn d1, by rw [q2]; exact Nat.pow_pos q1.pos, Nat.le_of_dvd hn d2⟩
theorem c_totient_of (D : At K mg "totient_of" s_totient_of ["number"]) (c_need_number : Cal P w K mg base 3 "need_number" spNum) (c_prime_parts : Cal P w K mg base 2 "prime_parts" spParts) :
    Cal P w K mg base 4 "totient_of" spTot := by
  refine okC D sc_totient_of (fun vs H Q E h => ?_) (fun f cdv A outer s H vs Q E hr h => ?_)
  · obtain ⟨n, rfl, _⟩ := h
    rfl
  · obtain ⟨n, rfl, h1, h2, k⟩ := h
    have nd := sc_totient_of.nd
    refine ⟨_, (pss_cons (ps_expr (pe_k c_need_number hr (by decide) (by rfl) (pa_cons (pv 0) pa_nil)))
 (pss_cons (ps_set (i := 1) nd rfl (.inl rfl) pe_int)
 (pss_cons (ps_for PassesOwn.never rfl (pi_tup (pe_k c_prime_parts hr (by decide) (by rfl) (pa_cons (pv 0) pa_nil))) (pg_tup rfl (pgs_cons (pg_name (i := 2) nd rfl (.inl rfl)) (pgs_cons (pg_name (i := 3) nd rfl (.inl rfl)) pgs_nil)))
 (pss_one (ps_set (i := 1) nd rfl (.inl rfl) (pe_op op_mul (pv 1) (pe_op op_sub (pv 3) (pe_op op_fdiv (pv 3) (pv 2)))))))
 (pss_one (ps_ret (pv 1)))))), ?_⟩
    refine ⟨_, rfl, n, rfl, h1, h2, _, rfl, n, rfl, h1, h2, fun a as ps H1 hp hl s1 ha hq => ⟨a, rfl, ⟨_, .inl (.inl ha)⟩, for_it (walk_tup (xs := as.map V.ref))
      (fun i σ H' => ∃ y2 y3 : Option V, σ = [some (.int n), some (.int (totP (ps.take i) : Nat)), y2, y3] ∧ H1 = H') ⟨none, none, rfl, rfl⟩ (fun i σ H' _ ⟨_, _, _, e⟩ => e ▸ .inl (.inl ha)) ?_ ?_⟩⟩
    · have hlen := hq.1
      rw [List.length_map] at hlen
      rintro i x σ H2 H' hi ⟨y2, y3, rfl, rfl⟩ ⟨eH, hx⟩
      obtain rfl := eH.symm
      rw [List.length_map] at hi
      have hi2 : i < ps.length := by omega
      rw [List.getElem?_map, List.getElem?_eq_getElem hi] at hx
      obtain rfl : V.ref as[i] = x := Option.some.inj hx
      have hqi : QAt H1 as[i] (cp ps[i]) := hq.2 i _ _ (List.getElem?_eq_getElem hi) (by rw [List.getElem?_map, List.getElem?_eq_getElem hi2]; rfl)
      obtain ⟨b1, b2, b3, b4⟩ := parts_le h1 hp ps[i] (List.getElem_mem _)
      have b5 := parts_tot_le hp i
      refine ⟨_, _, rfl, hqi.sq, rfl, _, _, rfl, _, _, rfl, rfl, ?_⟩
      refine ⟨_, rfl, _, rfl, _, rfl, _, rfl, _, _, rfl, rfl, ⟨?_, ?_⟩, _, _, rfl, rfl, _, _, rfl, rfl, .inl ⟨?_, ?_⟩, ?_⟩
      · show (0 : Int) < (ps[i].1 : Int)
        omega
      · show (ps[i].1 : Int) < 1073741824
        omega
      · omega
      · omega
      · refine ⟨some (.int ps[i].1), some (.int ps[i].2), ?_, rfl⟩
        have e1 : totP (ps.take (i + 1)) = totP (ps.take i) * (ps[i].2 - ps[i].2 / ps[i].1) := by
          unfold totP
          rw [fold_step _ _ (List.getElem?_eq_getElem hi2)]
        have e2 : ((ps[i].2 - ps[i].2 / ps[i].1 : Nat) : Int) = (ps[i].2 : Int) - (ps[i].2 : Int) / (ps[i].1 : Int) := by
          have := Nat.div_le_self ps[i].2 ps[i].1
          rw [divN]
          omega
        have e3 : ((totP (ps.take i) : Nat) : Int) * ((ps[i].2 : Int) - (ps[i].2 : Int) / (ps[i].1 : Int)) = ((totP (ps.take (i + 1)) : Nat) : Int) := by
          rw [e1, ← e2]
          exact (Int.natCast_mul _ _).symm
        show [some (V.int n), some (V.int (((totP (ps.take i) : Nat) : Int) * ((ps[i].2 : Int) - (ps[i].2 : Int) / (ps[i].1 : Int)))), _, _] = _
        rw [e3]
        rfl
    · rintro σ H2 ⟨y2, y3, rfl, rfl⟩
      have hlen := hq.1
      rw [List.length_map] at hlen
      refine ⟨_, rfl, ?_⟩
      have := k ps H1 hp s1
      rw [List.length_map, List.take_of_length_le (by omega)]
      exact this
def spPow : Sp := fun vs H Q _ => ∃ n : Nat, vs = [.int n] ∧ 1 ≤ n ∧ n ≤ 10000 ∧ ∀ (a : Addr) (ps : List (Nat × Nat)) (zs : List Int) (H' : Hp), Parts n ps → zs.Perm (ps.map fun x => (x.2 : Int)) → zs.Pairwise (· ≤ ·) → Same H H' → H' a = some (.tup (zs.map V.int)) → Q (.ref a) H'
end
end K2

set_option Elab.async false
set_option linter.all false
set_option maxRecDepth 100000
/-! set(a list of ints), sorted(a set of ints) of any size. -/
namespace Gd
open PySem PySem.Spec PyProof.Rows L2
section
variable {P : Program} {w : World} {A : Around} {E : Value → Shared → Prop} {s : Shared}
theorem sortedSetN {a : Addr} {S : Int → Bool} {m : Nat} {Q : Value → Shared → Prop} (R : SetR w s.heap a S m) (hh : A.handled = none) (hm : m ≤ sizeLine)
    (hQ : ∀ (s' : Shared) (p : Addr) (zs : Array Value) (c : Nat) (ks : List Int), (∀ b o, s.heap.get? b = some o → s'.heap.get? b = some o) → s'.gens = s.gens ∧ s'.os = s.os → s.heap.objs.size ≤ p →
      s'.heap.get? p = some (seqObj "list" zs c) → IntsAre zs.toList ks → ks.Pairwise (· < ·) → (∀ k, k ∈ ks ↔ S k = true) → ks.length = m → Q (.ref p) s') :
    wpAny (model P w) A (call (.builtin "sorted") [.ref a]) Q E s := by
  obtain ⟨o, es, ep, t, at_a, ex, dat, good, nodup, mems, bnd, fits, size, ris, led⟩ := R
  refine Calls.call_function_entry kind_sorted plain_sorted entry_sorted (args_sorted1 _) ?_
  unfold Builtin.«sorted»
  refine wpAny_bind (m := checkCount "sorted" 1 1 _) (wpAny_pure ?_)
  refine wpAny_bind (collect_set (A := A.in1) hh ⟨o, at_a, ex.1, dat⟩ fits bnd ris led ?_)
  intro s1 vs keep grown gens os perm
  have len : vs.length = m := by
    rw [perm.length_eq, List.length_map, Array.length_toList]
    exact size
  have vints : IntsAre vs (vs.map Builtin.Re.reRawOf) := by
    refine ints_of vs fun v hv => ?_
    obtain ⟨e, he, q⟩ := List.mem_map.mp (perm.mem_iff.mp hv)
    obtain ⟨k, tk, g1, _⟩ := good e he
    exact ⟨k, tk, q ▸ g1⟩
  have permK : (vs.map Builtin.Re.reRawOf).Perm (es.toList.map keyOf) := by
    have q := perm.map Builtin.Re.reRawOf
    rwa [List.map_map] at q
  have lenL : vs.length ≤ sizeLine := by
    rw [len]
    exact hm
  refine wpAny_bind (wpAny_newList ?_ lenL)
  have atL : (s1.heap.push (seqObj "list" vs.toArray 0)).get? s1.heap.objs.size = some (seqObj "list" vs.toArray 0) :=
    Heap.get?_push_size _ rfl
  refine wpAny_bind (wpAny_holding (wpAny_call_entry slot_list_sort ⟨_, atL, rfl⟩ entry_list_sort ?_ (args_list_sort _)))
  refine SrtO.list_sort_ord SrtO.swo_int atL lenL (fun h2 => SrtO.ints_sortable vints h2) fun out srt stb => ⟨_, rfl, wpAny_pure ⟨_, rfl, ?_⟩⟩
  obtain ⟨i1, i2, i3⟩ := SrtO.ints_out vints srt stb
  obtain ⟨c, hc⟩ := sortedHeap_at (out := out.toArray) atL
  have permS := i2.trans permK
  refine hQ _ s1.heap.objs.size out.toArray c (out.map SrtO.iv) (fun b u e => ?_) ⟨gens, os⟩ grown hc i1 (lt_of_le_nodup _ i3 (permS.nodup_iff.mpr nodup)) (fun k => ?_) ?_
  · have e1 := keep b u e
    have lt := Heap.lt_size e1
    have lt2 : b < (s1.heap.push (seqObj "list" vs.toArray 0)).objs.size := by
      rw [size_push']
      exact Nat.lt_succ_of_lt lt
    have old := sortedHeap_old (h := s1.heap.push (seqObj "list" vs.toArray 0)) (vs := vs) (out := out.toArray) (Nat.ne_of_lt lt) lt2
    show (sortedHeap (s1.heap.push (seqObj "list" vs.toArray 0)) s1.heap.objs.size vs out.toArray).get? b = some u
    rw [old]
    exact Heap.get?_push_of_some _ e1
  · rw [permS.mem_iff]
    exact (mems k).symm
  · rw [permS.length_eq, List.length_map, Array.length_toList]
    exact size

abbrev setO0 (w : World) : Obj := { cls := .type "set", dict := none, data := .set #[] 0 (.fresh 0 0 (!w.params.followText "set-order")) }
set_option maxHeartbeats 3200000 in
theorem callSetL {l : Addr} {its : Array Value} (ns : List Int) {Q : Value → Shared → Prop} (hh : A.handled = none) (hl : s.heap.IsList l its) (hi : IntsAre its.toList ns) (hb : ns.length + 1 < scanBound)
    (h : ∀ (h' : Heap) (tk m : Nat), SetR w h' s.heap.objs.size (fun j => decide (j ∈ ns)) m → m ≤ ns.length → (∀ b o, s.heap.get? b = some o → h'.get? b = some o) → Q (.ref s.heap.objs.size) { s with heap := h', toks := tk }) :
    wpAny (model P w) A (call (.type "set") [.ref l]) Q E s := by
  have size : its.size = ns.length := by
    rw [← Array.length_toList]
    exact hi.length
  have ⟨c, tl, mro⟩ := F.called_set.mro
  have made := F.called_set.made
  have sub := F.called_set.sub
  have typ := F.called_set.notType
  have can := F.called_set.canCreate
  have tcall := F.typeCall_set_1 (.ref l)
  refine wpAny_call (codeAny_of_tree ?_)
  show wpAny _ _ (callAny (.type "set") _) _ _ _
  refine wpAny_pure ⟨Code.quiet_builtin _ (by decide +kernel), codeAny_builtin F.entry_type_call ?_⟩
  rw [Around.under_plain (weight_type_call_type "set" [.ref l] []) rfl]
  repeat any_goals first | assumption | wp_step
  refine codeAny_mono (code_set_led1 (.ref l) (E := E) (Q₁ := fun obj s₁ => obj = .ref s.heap.objs.size ∧ s₁ = { s with heap := s.heap.push (setO0 w) }) ⟨rfl, rfl⟩) fun r s₁ hr => ?_
  match r, hr with
  | .error _, hr => exact hr
  | .ok .next, hr => exact hr.elim
  | .ok .brk, hr => exact hr.elim
  | .ok .cont, hr => exact hr.elim
  | .ok (.ret obj), ⟨eo, es⟩ =>
    subst eo
    subst es
    have atS : (s.heap.push (setO0 w)).get? s.heap.objs.size = some (setO0 w) := Heap.get?_push_size _ rfl
    have typS : Shared.TypeIs { s with heap := s.heap.push (setO0 w) } (.ref s.heap.objs.size) "set" := ⟨_, atS, rfl⟩
    have ilook := F.called_set.init.lookup
    have ibind := F.called_set.init.bind (.ref s.heap.objs.size)
    repeat any_goals first | assumption | wp_step
    refine codeAny_mono (codeAny_call_builtin (R := wants (fun r s₂ => r = .none ∧ ∃ h' tk m, s₂ = { s with heap := h', toks := tk } ∧ SetR w h' s.heap.objs.size (fun j => decide (j ∈ ns)) m ∧ m ≤ ns.length ∧
        ∀ b o, s.heap.get? b = some o → h'.get? b = some o) E) F.called_set.init.plain F.entry_set_init (check_set_init_1 typS ?_)) fun r₂ s₂ hr₂ => ?_
    · obtain ⟨ol, hol, hcl, nl, hdl⟩ := hl
      obtain ⟨ocls, odict, odata, oslots⟩ := ol
      simp only at hcl hdl
      subst hcl
      subst hdl
      have hol' : (s.heap.push (setO0 w)).get? l = some { cls := .type "list", dict := odict, data := .seq its nl, slots := oslots } := Heap.get?_push_of_some _ hol
      have s1 := F.sub_list_set
      have s2 := F.sub_list_frozenset
      have s3 : (Value.type "list" == Value.type "dict") = false := by decide
      have isL : (s.heap.push (setO0 w)).IsList l its := ⟨_, hol', rfl, nl, rfl⟩
      unfold Builtin.«set.__init__» noKeywords Builtin.Frozenset.updateFrom
      generalize hPI : pyIter = PI
      wp_walk
      subst hPI
      refine wpAny_pyIter_list isL (wpAny_bind (wpAny_runValue ?_))
      have ltl : l < s.heap.objs.size := Heap.lt_size hol
      have sz1 : (s.heap.push (setO0 w)).objs.size = s.heap.objs.size + 1 := Heap.size_push ..
      have h3 : A.in1.in1.in1.handled = none := hh
      have neI : l ≠ (s.heap.push (setO0 w)).objs.size := Nat.ne_of_lt (by rw [sz1]; exact Nat.lt_succ_of_lt ltl)
      have nof : s.heap.objs.size ∉ [(s.heap.push (setO0 w)).objs.size, l] := by
        intro z
        rcases List.mem_cons.mp z with z | z
        · exact absurd z (Nat.ne_of_lt (by rw [sz1]; exact Nat.lt_succ_self _))
        · exact absurd (List.mem_singleton.mp z) (Nat.ne_of_gt ltl)
      have vals : ∀ (i : Nat) (v : Value), its[i]? = some v → ∃ k t, ns[i]? = some k ∧ v = .int k t := by
        intro i v hv
        have lt : i < ns.length := size ▸ (Array.getElem?_eq_some_iff.mp hv).1
        obtain ⟨t, e⟩ := IntsAre.int_at hi i v (by rw [Array.getElem?_toList]; exact hv)
        refine ⟨ns[i], t, List.getElem?_eq_getElem lt, e.trans ?_⟩
        rw [List.getD_eq_getElem?_getD, List.getElem?_eq_getElem lt, Option.getD_some]
      refine set_update_ints ((Walks.list h3 _ l neI its).toS) s.heap.objs.size nof ns size hb vals (its.size - 0) 0 _ (by omega) (Nat.zero_le _) ⟨⟨_, Heap.get?_push_size _ rfl, rfl, rfl⟩, isL.push _⟩
        ⟨0, Nat.le_refl 0, setR_new_at (Heap.get?_push_of_some _ atS)⟩ ?_
      rintro ⟨h', g2, d', tk', os'⟩ m moved hm hS
      obtain rfl : g2 = s.gens := moved.gens
      obtain rfl : d' = s.drawn := moved.drawn
      obtain rfl : os' = s.os := moved.os
      show wpAny _ _ _ _ _ _
      refine wpAny_pure ?_
      show wpAny _ _ (ret Value.none) _ _ _
      refine wpAny_pure ⟨rfl, h', tk', m, rfl, hS, size ▸ hm, fun b o e => moved.heap b o (fun z => ?_) (Heap.get?_push_of_some _ (Heap.get?_push_of_some _ e))⟩
      have lt := Heap.lt_size e
      rcases List.mem_cons.mp z with z | z
      · exact absurd z (Nat.ne_of_lt lt)
      · exact absurd (List.mem_singleton.mp z) (Nat.ne_of_lt (by rw [sz1]; exact Nat.lt_succ_of_lt lt))
    · match r₂, hr₂ with
      | .error _, hr₂ => exact hr₂
      | .ok .next, hr₂ => exact hr₂.elim
      | .ok .brk, hr₂ => exact hr₂.elim
      | .ok .cont, hr₂ => exact hr₂.elim
      | .ok (.ret r), ⟨e1, h', tk, m, e2, hS, hm, kp⟩ =>
        subst e1
        subst e2
        repeat any_goals first | assumption | wp_step
        exact h _ _ _ hS hm kp
end
section
variable {X : Cx}
/-- set(xs), ints -/
def rSetL (K : PySem.W.Frag) (w : World) : List V → Hp → VK → Prop := fun vs H Q => ∃ (a : Addr) (ns : List Int), vs = [V.ref a] ∧ SqL K H a (ns.map V.int) ∧ ns.length ≤ 1000 ∧
  ∀ (p : Addr) (m : Nat), H p = none → m ≤ ns.length → Q (.ref p) (upd H p (SetO w p (fun j => decide (j ∈ ns)) m))
theorem cr_setL (hc : X.calm = true) : CallR X (.type "set") (rSetL X.K X.w) := by
  intro pins s σ H vs us Q I r h
  obtain ⟨a, ns, rfl, ha, hz, q⟩ := h
  obtain ⟨its, rv, pl, _⟩ := I.list ha
  rw [Vals.ref1 r]
  refine callSetL ns (I.ok.hd hc) pl.isList rv.ints (by unfold scanBound; omega) fun h' tk m R hm kp => ?_
  exact ⟨.ref s.heap.objs.size, _, I.laid kp (Nat.le_refl _) (setO_new R), rfl, q _ m I.fresh hm⟩
/-- sorted(xs), a set of ints -/
def rSortSet (w : World) : List V → Hp → VK → Prop := fun vs H Q => ∃ (a : Addr) (S : Int → Bool) (m : Nat), vs = [V.ref a] ∧ H a = some (SetO w a S m) ∧ m ≤ 1000 ∧
  ∀ (ks : List Int) (p : Addr), ks.Pairwise (· < ·) → (∀ k : Int, k ∈ ks ↔ S k = true) → H p = none → Q (.ref p) (upd H p (.lst (ks.map V.int)))
theorem cr_sortSet (hc : X.calm = true) : CallR X (.builtin "sorted") (rSortSet X.w) := by
  intro pins s σ H vs us Q I r h
  obtain ⟨a, S, m, rfl, ha, hm, q⟩ := h
  rw [Vals.ref1 r]
  refine sortedSetN (setO_get I ha) (I.ok.hd hc) (Nat.le_of_lt (small1000 hm)) fun s' p zs c ks kp go lp hp hi asc mem len => ?_
  have fr : H p = none := I.hok.fresh lp
  have hlen : (ks.map V.int).length ≤ sizeLine := by
    rw [List.length_map, len]
    exact Nat.le_of_lt (small1000 hm)
  have J : Inv X pins σ (upd H p (.lst (ks.map V.int))) { s with heap := s'.heap, gens := s'.gens, drawn := s'.drawn, toks := s'.toks } :=
    I.call (ch := []) (Un.laid kp lp fr) (I.hok.laid kp lp ⟨hlen, zs.toList, c, vals_of_ints hi, hp⟩) (by rw [go.1]; exact I.bare) (fun _ z => nomatch z)
  have e : s' = { s with heap := s'.heap, gens := s'.gens, drawn := s'.drawn, toks := s'.toks } := by
    obtain ⟨_, o⟩ := go
    cases s'
    cases s
    cases o
    rfl
  rw [e]
  exact ⟨.ref p, _, J, rfl, q ks p asc mem fr⟩
end
end Gd

set_option Elab.async false
set_option linter.all false
set_option maxRecDepth 100000
namespace K2
open PySem PySem.Spec PyProof.Rows L2 Gd Qu Nm
/-! ### the feed -/
def fdK (c : Addr) (sp ov tn : Int) : List (Key × V) := [(Sum.inr "cells", .ref c), (Sum.inr "spot", .int sp), (Sum.inr "over", .int ov), (Sum.inr "turn", .int tn)]
theorem fd_cells {c : Addr} {sp ov tn : Int} : valV (fdK c sp ov tn) (Sum.inr "cells") = some (.ref c) := by
  unfold fdK
  exact valV_pos rfl
theorem k1 : ¬ (Sum.inr "cells" : Key) = (Sum.inr "spot" : Key) := by decide +kernel
theorem k2 : ¬ (Sum.inr "cells" : Key) = (Sum.inr "over" : Key) := by decide +kernel
theorem k3 : ¬ (Sum.inr "cells" : Key) = (Sum.inr "turn" : Key) := by decide +kernel
theorem k4 : ¬ (Sum.inr "spot" : Key) = (Sum.inr "over" : Key) := by decide +kernel
theorem k5 : ¬ (Sum.inr "spot" : Key) = (Sum.inr "turn" : Key) := by decide +kernel
theorem k6 : ¬ (Sum.inr "over" : Key) = (Sum.inr "turn" : Key) := by decide +kernel
theorem k7 : ¬ (Sum.inr "turn" : Key) = (Sum.inr "over" : Key) := by decide +kernel
theorem k8 : ¬ (Sum.inr "turn" : Key) = (Sum.inr "spot" : Key) := by decide +kernel
theorem k9 : ¬ (Sum.inr "over" : Key) = (Sum.inr "spot" : Key) := by decide +kernel
theorem fd_spot {c : Addr} {sp ov tn : Int} : valV (fdK c sp ov tn) (Sum.inr "spot") = some (.int sp) := by
  unfold fdK
  rw [valV_neg k1, valV_pos rfl]
theorem fd_over {c : Addr} {sp ov tn : Int} : valV (fdK c sp ov tn) (Sum.inr "over") = some (.int ov) := by
  unfold fdK
  rw [valV_neg k2, valV_neg k4, valV_pos rfl]
theorem fd_turn {c : Addr} {sp ov tn : Int} : valV (fdK c sp ov tn) (Sum.inr "turn") = some (.int tn) := by
  unfold fdK
  rw [valV_neg k3, valV_neg k5, valV_neg k6, valV_pos rfl]
theorem ne_cells_spot : ¬ ("cells" : Str) = ("spot" : Str) := by decide +kernel
theorem ne_over_spot : ¬ ("over" : Str) = ("spot" : Str) := by decide +kernel
theorem ne_turn_spot : ¬ ("turn" : Str) = ("spot" : Str) := by decide +kernel
theorem ne_cells_over : ¬ ("cells" : Str) = ("over" : Str) := by decide +kernel
theorem ne_spot_over : ¬ ("spot" : Str) = ("over" : Str) := by decide +kernel
theorem ne_turn_over : ¬ ("turn" : Str) = ("over" : Str) := by decide +kernel
theorem ne_cells_turn : ¬ ("cells" : Str) = ("turn" : Str) := by decide +kernel
theorem ne_spot_turn : ¬ ("spot" : Str) = ("turn" : Str) := by decide +kernel
theorem ne_over_turn : ¬ ("over" : Str) = ("turn" : Str) := by decide +kernel
theorem put_spot {c : Addr} {sp ov tn z : Int} : putK (fdK c sp ov tn) (Sum.inr "spot") (.int z) = fdK c z ov tn := by
  unfold putK fdK
  rw [if_pos (by simp)]
  simp [ne_cells_spot, ne_over_spot, ne_turn_spot]
theorem put_over {c : Addr} {sp ov tn z : Int} : putK (fdK c sp ov tn) (Sum.inr "over") (.int z) = fdK c sp z tn := by
  unfold putK fdK
  rw [if_pos (by simp)]
  simp [ne_cells_over, ne_spot_over, ne_turn_over]
theorem put_turn {c : Addr} {sp ov tn z : Int} : putK (fdK c sp ov tn) (Sum.inr "turn") (.int z) = fdK c sp ov z := by
  unfold putK fdK
  rw [if_pos (by simp)]
  simp [ne_cells_turn, ne_spot_turn, ne_over_turn]
theorem merge_fd {c : Addr} {x y z : Int} : mergeK [] [((Sum.inr "cells" : Key), V.ref c), (Sum.inr "spot", .int x), (Sum.inr "over", .int y), (Sum.inr "turn", .int z)] = fdK c x y z := by
  unfold mergeK fdK putK
  simp [ne_cells_spot, ne_cells_over, ne_spot_over, ne_cells_turn, ne_spot_turn, ne_over_turn]
/-- a feed at d, of the cells at c, after at most B draws -/
structure FeedAt (H : Hp) (d c : Addr) (cells : List Int) (B : Nat) : Prop where
  ex : ∃ sp ov tn : Int, H d = some (.dK (fdK c sp ov tn)) ∧ 0 ≤ sp ∧ sp ≤ B ∧ 0 ≤ ov ∧ 0 ≤ tn ∧ tn ≤ B
  cl : H c = some (.lst (cells.map V.int))
  few : cells.length ≤ 63
theorem FeedAt.ne {H : Hp} {d c : Addr} {cells : List Int} {B : Nat} (F : FeedAt H d c cells B) : d ≠ c := by
  obtain ⟨sp, ov, tn, h, _⟩ := F.ex
  exact ne_of h F.cl (by intro z; cases z)
theorem FeedAt.same {H H' : Hp} {d c : Addr} {cells : List Int} {B : Nat} (s : Same H H') (F : FeedAt H d c cells B) : FeedAt H' d c cells B := by
  obtain ⟨sp, ov, tn, h, r⟩ := F.ex
  exact ⟨⟨sp, ov, tn, s _ _ h, r⟩, s _ _ F.cl, F.few⟩
theorem FeedAt.mono {H : Hp} {d c : Addr} {cells : List Int} {B B' : Nat} (F : FeedAt H d c cells B) (h : B ≤ B') : FeedAt H d c cells B' := by
  obtain ⟨sp, ov, tn, h1, h2, h3, h4, h5, h6⟩ := F.ex
  exact ⟨⟨sp, ov, tn, h1, h2, by omega, h4, h5, by omega⟩, F.cl, F.few⟩
def spDraw : Sp := fun vs H Q _ => ∃ (d c : Addr) (cells : List Int) (B l : Nat), vs = [.ref d, .int l] ∧ FeedAt H d c cells B ∧ B ≤ 1000000 ∧ 1 ≤ l ∧ l ≤ 1000000 ∧
  ∀ (r : Nat) (H' : Hp), r < l → FeedAt H' d c cells (B + 1) → Kp d H H' → Q (.int r) H'
theorem g_cells {H : Hp} {d c : Addr} {sp ov tn : Int} (h : H d = some (.dK (fdK c sp ov tn))) : DGet H d (.str "cells") (some (.ref c)) := by
  have e := DGet.k (k := (Sum.inr "cells" : Key)) h
  rw [fd_cells] at e
  exact e
theorem g_spot {H : Hp} {d c : Addr} {sp ov tn : Int} (h : H d = some (.dK (fdK c sp ov tn))) : DGet H d (.str "spot") (some (.int sp)) := by
  have e := DGet.k (k := (Sum.inr "spot" : Key)) h
  rw [fd_spot] at e
  exact e
theorem g_over {H : Hp} {d c : Addr} {sp ov tn : Int} (h : H d = some (.dK (fdK c sp ov tn))) : DGet H d (.str "over") (some (.int ov)) := by
  have e := DGet.k (k := (Sum.inr "over" : Key)) h
  rw [fd_over] at e
  exact e
theorem g_turn {H : Hp} {d c : Addr} {sp ov tn : Int} (h : H d = some (.dK (fdK c sp ov tn))) : DGet H d (.str "turn") (some (.int tn)) := by
  have e := DGet.k (k := (Sum.inr "turn" : Key)) h
  rw [fd_turn] at e
  exact e
theorem p_spot {H : Hp} {d c : Addr} {sp ov tn z : Int} (h : H d = some (.dK (fdK c sp ov tn))) : DPut H d (.str "spot") (.int z) (upd H d (.dK (fdK c z ov tn))) := by
  have e := DPut.k (k := (Sum.inr "spot" : Key)) (v := .int z) h (by show 4 < sizeLine; decide)
  rw [put_spot] at e
  exact e
theorem p_over {H : Hp} {d c : Addr} {sp ov tn z : Int} (h : H d = some (.dK (fdK c sp ov tn))) : DPut H d (.str "over") (.int z) (upd H d (.dK (fdK c sp z tn))) := by
  have e := DPut.k (k := (Sum.inr "over" : Key)) (v := .int z) h (by show 4 < sizeLine; decide)
  rw [put_over] at e
  exact e
theorem p_turn {H : Hp} {d c : Addr} {sp ov tn z : Int} (h : H d = some (.dK (fdK c sp ov tn))) : DPut H d (.str "turn") (.int z) (upd H d (.dK (fdK c sp ov z))) := by
  have e := DPut.k (k := (Sum.inr "turn" : Key)) (v := .int z) h (by show 4 < sizeLine; decide)
  rw [put_turn] at e
  exact e
section
variable {P : Program} {w : World} {K : PySem.W.Frag} {mg : Str → Option Value} {base : Heap}
def spFeed (K : PySem.W.Frag) : Sp := fun vs H Q _ => ∃ (a : Addr) (ns : List Int), vs = [.ref a] ∧ SqL K H a (ns.map V.int) ∧ ns.length ≤ 63 ∧ ∀ (d c : Addr) (cells : List Int) (H' : Hp), FeedAt H' d c cells 0 → Same H H' → Q (.ref d) H'
theorem c__law_feed (D : At K mg "_law_feed" s__law_feed ["_law_script"]) (z_int : mg "int" = none) : Cal P w K mg base 1 "_law_feed" (spFeed K) := by
  refine okC D sc__law_feed (fun vs H Q E h => ?_) (fun f cdv A outer s H vs Q E hr h => ?_)
  · obtain ⟨a, ns, rfl, _⟩ := h
    rfl
  · obtain ⟨a, ns, rfl, ha, hz, k⟩ := h
    have nd := sc__law_feed.nd
    refine ⟨_, (pss_one (ps_ret (pe_disp (pps_cons pe_str (pe_lc (own := [("_law_cell", 1)]) rfl nd (pi_list (pe_slice sl_list (pv 0) po_none (po_some pe_int))) (blkOk_by (N := N__law_feed) (sc := defScope s__law_feed) (by decide +kernel)) (fun _ _ _ _ _ => pg_name (i := 1) nd rfl (Or.inl rfl)) (fun _ _ _ _ _ => pts_nil) (fun _ _ _ _ _ => (pe_callTy call_int1 (by rfl) z_int (by decide +kernel) (pa_cons (pv 1) pa_nil)))) (pps_cons pe_str pe_int (pps_cons pe_str pe_int (pps_cons pe_str pe_int pps_nil)))) rfl rfl (by decide) (by decide)))), ?_⟩
    intro d hd
    have s0 : Same H (upd H d (.dK [])) := same_new hd
    obtain ⟨lo, hi, ec⟩ : ∃ lo hi, cutV (ns.map V.int) none (some 63) = ((ns.drop lo).take hi).map V.int := ⟨_, _, by unfold cutV; rw [← List.map_drop, ← List.map_take]⟩
    refine ⟨.ref a, rfl, 63, rfl, a, _, rfl, s0.seq ha, fun c hc => ⟨c, rfl, ⟨_, .inl (.inl upd_same)⟩, fun L hL => lcM (walk_list (xs := cutV (ns.map V.int) none (some 63))) id hL ?_ (fun H' sm => .inl (.inl (sm _ _ upd_same))) ?_ ?_⟩⟩
    · rw [ec, List.length_map]
      refine Nat.lt_of_le_of_lt (Nat.le_trans (List.length_take_le' _ _) ?_) (small1000 (Nat.le_refl _))
      rw [List.length_drop]
      omega
    · intro x H' R hx sm q
      rw [ec] at hx
      obtain ⟨i, _, rfl⟩ := List.mem_map.mp hx
      exact ⟨rfl, _, rfl, .inl ⟨i, rfl, q H' (Same.refl _)⟩⟩
    · intro H2 s2 hL2
      rw [List.map_id, ec] at hL2
      have sd : Same (upd H d (.dK [])) H2 := (same_new hc).trans s2
      refine ⟨sd _ _ upd_same, [((Sum.inr "cells" : Key), V.ref L), (Sum.inr "spot", .int 0), (Sum.inr "over", .int 0), (Sum.inr "turn", .int 0)], rfl, (by show 4 ≤ 15; decide), ?_⟩
      rw [merge_fd]
      have nL : L ≠ d := fun z => by
        rw [z] at hL2
        have := hL2.symm.trans (sd _ _ upd_same)
        cases this
      refine k d L ((ns.drop lo).take hi) _ ⟨⟨0, 0, 0, upd_same, by omega, by omega, by omega, by omega, by omega⟩, ?_, ?_⟩ ?_
      · show upd H2 d _ L = _
        rw [upd_ne nL]
        exact hL2
      · refine Nat.le_trans (List.length_take_le' _ _) ?_
        rw [List.length_drop]
        omega
      · exact same_own (s0.trans sd) hd
end
end K2

set_option Elab.async false
set_option linter.all false
set_option maxRecDepth 100000
namespace K2
open PySem PySem.Spec PyProof.Rows L2 Gd Qu Nm
theorem dpInts {K : PySem.W.Frag} {H : Hp} : ∀ ns : List Int, DpAll K H (ns.map V.int) (ns.map PyData.int)
  | [] => .nil
  | n :: ns => .cons (.int n) (dpInts ns)
theorem canInts : ∀ ns : List Int, PyData.canLayAll0 (ns.map PyData.int) = true
  | [] => by simp [PyData.canLayAll0]
  | n :: ns => by simp [PyData.canLayAll0, PyData.canLay0, canInts ns]
theorem depthInts : ∀ ns : List Int, PyData.depthAll (ns.map PyData.int) ≤ 1
  | [] => by simp [PyData.depthAll]
  | n :: ns => by
    have := depthInts ns
    simp [PyData.depthAll, PyData.depth]
    omega
theorem shapedInts (ns : List Int) : SeqAt.shaped (.list (ns.map PyData.int)) = true := by
  unfold SeqAt.shaped
  rw [Bool.and_eq_true]
  refine ⟨?_, decide_eq_true ?_⟩
  · simp [PyData.canLay0, canInts]
  · have := depthInts ns
    simp [PyData.depth]
    omega
section
variable {P : Program} {w : World} {K : PySem.W.Frag} {mg : Str → Option Value} {base : Heap}
theorem c__law_draw (D : At K mg "_law_draw" s__law_draw ["_law_feed_here", "_law_limit"]) (z_int : mg "int" = none) (z_len : mg "len" = none) : Cal P w K mg base 1 "_law_draw" spDraw := by
  refine okC D sc__law_draw (fun vs H Q E h => ?_) (fun f cdv A outer s H vs Q E hr h => ?_)
  · obtain ⟨d, c, cells, B, l, rfl, _⟩ := h
    rfl
  · obtain ⟨d, c, cells, B, l, rfl, F, hB, l1, l2, k⟩ := h
    have nd := sc__law_draw.nd
    have hu := hu_of hr
    have hu64 := hr.units
    refine ⟨_, (pss_cons (ps_dput hu (pv 0) pe_str (pe_op op_add (pe_dget hu (pv 0) pe_str (fun _ _ => rfl)) pe_int) rfl)
 (pss_cons (ps_if (pt_cmpR op_gt (pe_dget hu (pv 0) pe_str (fun _ _ => rfl)) pe_int (nomark _))
 (pss_cons (ps_set (i := 4) nd rfl (.inl rfl) (pe_op op_mod (pe_callTy call_int1 (by rfl) z_int (by decide +kernel) (pa_cons (pe_dget hu (pv 0) pe_str (fun _ _ => rfl)) pa_nil)) (pv 1)))
 (pss_cons (ps_dput hu (pv 0) pe_str (pe_op op_fdiv (pe_dget hu (pv 0) pe_str (fun _ _ => rfl)) (pv 1)) rfl)
 (pss_one (ps_ret (pv 4)))))
 pss_nil)
 (pss_cons (ps_par (i := 5) (j := 6) rfl nd rfl rfl (by decide) rfl rfl (pa_cons (pe_dget hu (pv 0) pe_str (fun _ _ => rfl)) (pa_cons (pe_dget hu (pv 0) pe_str (fun _ _ => rfl)) pa_nil)) rfl)
 (pss_cons (ps_dput hu (pv 0) pe_str (pe_op op_add (pv 6) pe_int) rfl)
 (C8.pss_cut (ps_set (i := 2) nd rfl (.inl rfl) (pe_ifExp (pt_cmpR (op_neD hu64) (pv 5) (pe_lst pa_nil) (nomark _)) (pe_ix ix_list (pv 5) (pe_op op_mod (pe_callTy call_int1 (by rfl) z_int (by decide +kernel) (pa_cons (pv 6) pa_nil)) (pe_callB call_len_seq (by rfl) z_len PySem.boot_len (pa_cons (pv 5) pa_nil))) (fun _ _ => rfl)) pe_int))
 (C8.pss_cut (ps_if (PW.pt (pw_and (pt_cmpR op_ge (pv 2) (pe_op op_pow pe_int pe_int) (nomark _)) (pw_and1 (pt_cmpR op_lt (pv 6) (pe_callB call_len_seq (by rfl) z_len PySem.boot_len (pa_cons (pv 5) pa_nil)) (nomark _)))))
 (pss_cons (ps_dput hu (pv 0) pe_str (pe_op op_fdiv (pv 2) (pv 1)) rfl)
 (pss_one (ps_ret (pe_op op_mod (pe_callTy call_int1 (by rfl) z_int (by decide +kernel) (pa_cons (pv 2) pa_nil)) (pv 1)))))
 pss_nil)
 (pss_cons (ps_set (i := 3) nd rfl (.inl rfl) (pe_op op_mod (pe_callTy call_int1 (by rfl) z_int (by decide +kernel) (pa_cons (pe_op op_add (pe_op op_add (pe_op op_mod (pe_callTy call_int1 (by rfl) z_int (by decide +kernel) (pa_cons (pv 2) pa_nil)) pe_int) (pe_op op_mul pe_int (pe_dget hu (pv 0) pe_str (fun _ _ => rfl)))) pe_int) pa_nil)) pe_int))
 (pss_cons (ps_set (i := 3) nd rfl (.inl rfl) (pe_op op_mod (pe_callTy call_int1 (by rfl) z_int (by decide +kernel) (pa_cons (pe_op op_add (pe_op op_add (pe_op op_mul (pv 3) (pv 3)) (pe_op op_mul pe_int (pe_dget hu (pv 0) pe_str (fun _ _ => rfl)))) pe_int) pa_nil)) pe_int))
 (pss_one (ps_ret (pe_op op_mod (pe_callTy call_int1 (by rfl) z_int (by decide +kernel) (pa_cons (pe_op op_fdiv (pe_op op_mod (pe_callTy call_int1 (by rfl) z_int (by decide +kernel) (pa_cons (pe_op op_add (pe_op op_mul (pv 3) (pv 3)) (pe_op op_mul pe_int (pv 3))) pa_nil)) pe_int) pe_int) pa_nil)) (pv 1)))))))))))), ?_⟩
    obtain ⟨sp, ov, tn, h0, a1, a2, a3, a4, a5⟩ := F.ex
    have ndc := F.ne
    have lpos : (0 : Int) < (l : Int) := by omega
    have ret : ∀ (z : Int) (H' : Hp), FeedAt H' d c cells (B + 1) → Kp d H H' → Q (.int (z % (l : Int))) H' := by
      intro z H' F' kp
      have e1 := Int.emod_nonneg z (show (l : Int) ≠ 0 by omega)
      have e2 := Int.emod_lt_of_pos z lpos
      have e3 := k (z % (l : Int)).toNat H' (by omega) F' kp
      rw [Int.toNat_of_nonneg e1] at e3
      exact e3
    -- the turn is counted
    have h1 : (upd H d (.dK (fdK c sp ov (tn + 1)))) d = some (.dK (fdK c sp ov (tn + 1))) := upd_same
    have c1 : (upd H d (.dK (fdK c sp ov (tn + 1)))) c = some (.lst (cells.map V.int)) := by
      rw [upd_ne ndc.symm]
      exact F.cl
    have kp1 : Kp d H (upd H d (.dK (fdK c sp ov (tn + 1)))) := Kp.upd_d
    refine ⟨_, rfl, d, _, rfl, g_turn h0, _, _, rfl, rfl, _, rfl, d, _, rfl, p_turn h0, ?_⟩
    generalize hH1 : upd H d (.dK (fdK c sp ov (tn + 1))) = H1 at *
    refine ⟨_, rfl, d, _, rfl, g_over h1, _, _, rfl, rfl, _, rfl, ite2 (fun e => ?_) (fun e => ?_)⟩
    · -- what is over gives a digit
      refine ⟨_, rfl, d, _, rfl, g_over h1, .inl ⟨ov, rfl, _, rfl, _, _, rfl, rfl, lpos, ?_⟩⟩
      refine ⟨_, rfl, d, _, rfl, g_over h1, _, rfl, _, _, rfl, rfl, ⟨lpos, by omega⟩, _, rfl, d, _, rfl, p_over h1, _, rfl, ?_⟩
      refine ret ov _ ⟨⟨sp, ov / l, tn + 1, upd_same, a1, by omega, Int.ediv_nonneg a3 (by omega), by omega, by omega⟩, ?_, F.few⟩ (kp1.trans Kp.upd_d)
      rw [upd_ne ndc.symm]
      exact c1
    · -- the next cell
      refine ⟨_, rfl, d, _, rfl, g_cells h1, _, rfl, d, _, rfl, g_spot h1, _, _, rfl, ?_⟩
      refine ⟨_, rfl, _, _, rfl, rfl, _, rfl, d, _, rfl, p_spot h1, ?_⟩
      have h2 : (upd H1 d (.dK (fdK c (sp + 1) ov (tn + 1)))) d = some (.dK (fdK c (sp + 1) ov (tn + 1))) := upd_same
      have c2 : (upd H1 d (.dK (fdK c (sp + 1) ov (tn + 1)))) c = some (.lst (cells.map V.int)) := by
        rw [upd_ne ndc.symm]
        exact c1
      have kp2 : Kp d H (upd H1 d (.dK (fdK c (sp + 1) ov (tn + 1)))) := kp1.trans Kp.upd_d
      generalize hH2 : upd H1 d (.dK (fdK c (sp + 1) ov (tn + 1))) = H2 at *
      refine ⟨fun σ' H' => ∃ z : Int, σ' = [some (.ref d), some (.int l), some (.int z), none, none, some (.ref c), some (.int sp)] ∧ Same H2 H', ?_, ?_⟩
      · refine ⟨_, rfl, Nat.zero_le _, fun p hp => ?_⟩
        have s3 : Same H2 (upd H2 p (.lst [])) := same_new hp
        have c3 := s3 _ _ c2
        refine ⟨.list (cells.map PyData.int), .list [], .lst (.inl (.inl c3)) (dpInts cells), .lst (.inl (.inl upd_same)) .nil, shapedInts cells, shapedInts [], _, rfl, ?_⟩
        cases cells with
        | nil => exact iteF ⟨_, rfl, s3⟩
        | cons n0 ns =>
          refine iteT ⟨_, rfl, _, rfl, .inl ⟨sp, rfl, _, rfl, c, _, rfl, .inl (.inl (.inl c3)), _, _, rfl, rfl, ?_, ?_⟩⟩
          · rw [List.length_map, List.length_cons]
            omega
          · have lp : (0 : Int) < ((ns.length + 1 : Nat) : Int) := by omega
            have e1 := Int.emod_nonneg sp (show ((ns.length + 1 : Nat) : Int) ≠ 0 by omega)
            have e2 := Int.emod_lt_of_pos sp lp
            have e3 : (sp % ((ns.length + 1 : Nat) : Int)).toNat < (n0 :: ns).length := by rw [List.length_cons]; omega
            refine ⟨c, _, sp % ((ns.length + 1 : Nat) : Int), .int ((n0 :: ns)[(sp % ((ns.length + 1 : Nat) : Int)).toNat]), rfl, ?_, .inl (.inl c3), ?_, _, rfl, s3⟩
            · rw [List.length_map, List.length_cons]
            · have e4 := atI_nat (xs := (n0 :: ns).map V.int) (j := (sp % ((ns.length + 1 : Nat) : Int)).toNat) (v := .int ((n0 :: ns)[(sp % ((ns.length + 1 : Nat) : Int)).toNat])) (by rw [List.getElem?_map, List.getElem?_eq_getElem e3]; rfl)
              rw [Int.toNat_of_nonneg e1] at e4
              exact e4
      · rintro σ' H3 ⟨z, rfl, s3⟩
        have h3 := s3 _ _ h2
        have c3 := s3 _ _ c2
        have kp3 : Kp d H H3 := kp2.trans s3.kp
        refine ⟨fun σ' H' => σ' = [some (V.ref d), some (.int l), some (.int z), none, none, some (.ref c), some (.int sp)] ∧ H3 = H', ?_, ?_⟩
        · refine ⟨_, rfl, _, _, rfl, rfl, ⟨by decide, by decide, by decide⟩, _, _, rfl, rfl, _, rfl, ite2 (fun e1 => ?_) (fun _ => iteF ⟨rfl, rfl⟩)⟩
          refine ⟨_, rfl, _, rfl, c, _, rfl, .inl (.inl (.inl c3)), _, _, rfl, rfl, _, rfl, ite2 (fun e2 => ?_) (fun _ => ⟨rfl, rfl⟩)⟩
          have z0 : (10 : Int) ^ (18 : Int).toNat ≤ z := of_decide_eq_true e1
          have z1 : (0 : Int) ≤ z := Int.le_trans (by decide) z0
          refine ⟨_, rfl, _, rfl, _, _, rfl, rfl, ⟨lpos, by omega⟩, _, rfl, d, _, rfl, p_over h3, ?_⟩
          refine ⟨_, rfl, .inl ⟨z, rfl, _, rfl, _, _, rfl, rfl, lpos, ?_⟩⟩
          refine ret z _ ⟨⟨sp + 1, z / l, tn + 1, upd_same, by omega, by omega, Int.ediv_nonneg z1 (by omega), by omega, by omega⟩, ?_, F.few⟩ (kp3.trans Kp.upd_d)
          rw [upd_ne ndc.symm]
          exact c3
        · rintro σ' _ ⟨rfl, rfl⟩
          refine ⟨_, rfl, .inl ⟨z, rfl, _, _, rfl, rfl, (show (0 : Int) < 1000417793 by decide), _, rfl, d, _, rfl, g_turn h3, _, _, rfl, rfl, .inl ⟨by decide, by decide⟩, _, _, rfl, rfl, _, _, rfl, rfl, .inl ⟨_, rfl, _, _, rfl, rfl, (show (0 : Int) < 2147340161 by decide), ?_⟩⟩⟩
          generalize hx : (z % 1000417793 + 289440 * (tn + 1) + 13318) % (2147340161 : Int) = x
          have x1 : 0 ≤ x := by rw [← hx]; exact Int.emod_nonneg _ (by decide)
          have x2 : x < 2147340161 := by rw [← hx]; exact Int.emod_lt_of_pos _ (by decide)
          refine ⟨_, rfl, _, rfl, _, _, rfl, rfl, .inl ⟨by omega, by omega⟩, _, rfl, d, _, rfl, g_turn h3, _, _, rfl, rfl, .inl ⟨by decide, by decide⟩, _, _, rfl, rfl, _, _, rfl, rfl, .inl ⟨_, rfl, _, _, rfl, rfl, (show (0 : Int) < 2147334261 by decide), ?_⟩⟩
          generalize hy : (x * x + 6687164 * (tn + 1) + 14958) % (2147334261 : Int) = y
          have y1 : 0 ≤ y := by rw [← hy]; exact Int.emod_nonneg _ (by decide)
          have y2 : y < 2147334261 := by rw [← hy]; exact Int.emod_lt_of_pos _ (by decide)
          refine ⟨_, rfl, _, rfl, _, _, rfl, rfl, .inl ⟨by omega, by omega⟩, _, rfl, _, _, rfl, rfl, .inl ⟨by decide, by decide⟩, _, _, rfl, rfl, .inl ⟨_, rfl, _, _, rfl, rfl, (show (0 : Int) < 2147327003 by decide), _, _, rfl, rfl, ⟨by decide, by decide⟩, .inl ⟨_, rfl, _, rfl, _, _, rfl, rfl, lpos, ?_⟩⟩⟩
          refine ret _ _ ⟨⟨sp + 1, ov, tn + 1, h3, by omega, by omega, a3, by omega, by omega⟩, c3, F.few⟩ kp3
end
end K2

set_option Elab.async false
set_option linter.all false
set_option maxRecDepth 100000
/-! Data that repr shows within the line. -/
namespace Gd
open PySem PySem.Spec PyProof.Rows L2
mutual
def cost : PyData → Nat
  | .none => 4
  | .bool _ => 5
  | .int _ => 1921
  | .str x => (reprText x).length
  | .list xs => costAll xs + 3
  | .tuple xs => costAll xs + 3
  | .dict _ => 0
def costAll : List PyData → Nat
  | [] => 0
  | x :: xs => cost x + 2 + costAll xs
end
theorem lensAll : ∀ xs : List PyData, (PyData.shownAll xs).length = xs.length
  | [] => by simp [PyData.shownAll]
  | x :: xs => by simp [PyData.shownAll, lensAll xs]
mutual
theorem shown_cost : ∀ d : PyData, d.showable = true → d.hasDict = false → d.shown.length ≤ cost d
  | .none, _, _ => by simp only [PyData.shown, cost]; decide +kernel
  | .bool b, _, _ => by
    simp only [PyData.shown, cost]
    cases b <;> decide +kernel
  | .int i, h, _ => by
    have h1 : i.natAbs.log2 < 1920 := by simpa [PyData.showable] using h
    simp only [PyData.shown, cost]
    have h2 := int_text_length_le (a := i) (by decide) h1
    show (Str.ofString (toString i)).length ≤ 1921
    rw [PySem.ofString_length]
    exact h2
  | .str x, _, _ => by simp only [PyData.shown, cost]; exact Nat.le_refl _
  | .list xs, h, g => by
    have e := shownAll_cost xs (by simpa [PyData.showable] using h) (by simpa [PyData.hasDict] using g)
    have e2 := listText_len_le (PyData.shownAll xs)
    rw [lensAll] at e2
    simp only [PyData.shown, cost]
    omega
  | .tuple xs, h, g => by
    have e := shownAll_cost xs (by simpa [PyData.showable] using h) (by simpa [PyData.hasDict] using g)
    have e2 := tupleText_len_le (PyData.shownAll xs)
    rw [lensAll] at e2
    simp only [PyData.shown, cost]
    omega
  | .dict _, _, g => by simp [PyData.hasDict] at g
theorem shownAll_cost : ∀ xs : List PyData, PyData.showableAll xs = true → PyData.hasDictAll xs = false → ((PyData.shownAll xs).map (·.length)).sum + 2 * xs.length ≤ costAll xs
  | [], _, _ => by simp [PyData.shownAll, costAll]
  | x :: xs, h, g => by
    have h' : x.showable = true ∧ PyData.showableAll xs = true := by simpa [PyData.showableAll] using h
    have g' : x.hasDict = false ∧ PyData.hasDictAll xs = false := by simpa [PyData.hasDictAll] using g
    have e1 := shown_cost x h'.1 g'.1
    have e2 := shownAll_cost xs h'.2 g'.2
    simp only [PyData.shownAll, costAll, List.map_cons, List.sum_cons, List.length_cons]
    omega
end
/-- what repr takes -/
structure OkD (d : PyData) (n : Nat) : Prop where
  sh : d.showable = true
  nd : d.hasDict = false
  dp : d.depth ≤ 20
  co : cost d ≤ n
theorem OkD.len {d : PyData} {n : Nat} (h : OkD d n) (hn : n ≤ sizeLine) : d.shown.length ≤ sizeLine := Nat.le_trans (shown_cost d h.sh h.nd) (Nat.le_trans h.co hn)
/-- items of depth k at most, n in all -/
structure OkA (ds : List PyData) (k n : Nat) : Prop where
  sh : PyData.showableAll ds = true
  nd : PyData.hasDictAll ds = false
  dp : PyData.depthAll ds ≤ k
  co : costAll ds ≤ n
theorem okA_nil (k : Nat) : OkA [] k 0 := ⟨by simp [PyData.showableAll], by simp [PyData.hasDictAll], by simp [PyData.depthAll], by simp [costAll]⟩
theorem okA_cons {d : PyData} {ds : List PyData} {k n m : Nat} (h : OkA [d] k n) (t : OkA ds k m) : OkA (d :: ds) k (n + m) := by
  have h1 : d.showable = true := by simpa [PyData.showableAll] using h.sh
  have h2 : d.hasDict = false := by simpa [PyData.hasDictAll] using h.nd
  have h3 : d.depth ≤ k := by simpa [PyData.depthAll] using h.dp
  have h4 : cost d + 2 ≤ n := by simpa [costAll] using h.co
  have t3 := t.dp
  have t4 := t.co
  refine ⟨by simp [PyData.showableAll, h1, t.sh], by simp [PyData.hasDictAll, h2, t.nd], ?_, ?_⟩
  · simp only [PyData.depthAll]
    omega
  · simp only [costAll]
    omega
theorem okA_int {i : Int} {k b : Nat} (h : i.natAbs < 2 ^ b) (h0 : 0 < b) (hb : b ≤ 1920) : OkA [.int i] k 1923 := by
  have h1 : i.natAbs.log2 < 1920 := Nat.lt_of_lt_of_le (PySem.Flt.log2_lt_of h0 h) hb
  refine ⟨?_, by simp [PyData.hasDictAll, PyData.hasDict], by simp [PyData.depthAll, PyData.depth], by simp [costAll, cost]⟩
  simp only [PyData.showableAll, PyData.showable, Bool.and_true]
  exact decide_eq_true h1
theorem okA_bool {b : Bool} {k : Nat} : OkA [.bool b] k 7 := ⟨by simp [PyData.showableAll, PyData.showable], by simp [PyData.hasDictAll, PyData.hasDict], by simp [PyData.depthAll, PyData.depth], by simp [costAll, cost]⟩
theorem okA_tup {ds : List PyData} {k n : Nat} (h : OkA ds k n) : OkA [.tuple ds] (k + 1) (n + 5) := by
  have h3 := h.dp
  have h4 := h.co
  refine ⟨by simp [PyData.showableAll, PyData.showable, h.sh], by simp [PyData.hasDictAll, PyData.hasDict, h.nd], ?_, ?_⟩
  · simp only [PyData.depthAll, PyData.depth]
    omega
  · simp only [costAll, cost]
    omega
theorem okD_list {ds : List PyData} {k n m : Nat} (h : OkA ds k n) (hk : k ≤ 19) (hm : n + 3 ≤ m) : OkD (.list ds) m := by
  have h3 := h.dp
  have h4 := h.co
  refine ⟨by simp [PyData.showable, h.sh], by simp [PyData.hasDict, h.nd], ?_, ?_⟩
  · simp only [PyData.depth]
    omega
  · simp only [cost]
    omega
theorem OkA.mono {ds : List PyData} {k n k' n' : Nat} (h : OkA ds k n) (hk : k ≤ k') (hn : n ≤ n') : OkA ds k' n' := ⟨h.sh, h.nd, Nat.le_trans h.dp hk, Nat.le_trans h.co hn⟩
theorem okA_ints {b : Nat} (h0 : 0 < b) (hb : b ≤ 1920) : ∀ {ns : List Int}, (∀ i ∈ ns, i.natAbs < 2 ^ b) → OkA (ns.map PyData.int) 0 (1923 * ns.length)
  | [], _ => okA_nil 0
  | i :: ns, h => by
    have e := okA_cons (okA_int (k := 0) (h i List.mem_cons_self) h0 hb) (okA_ints h0 hb fun j hj => h j (List.mem_cons_of_mem _ hj))
    refine e.mono (Nat.le_refl _) ?_
    rw [List.length_cons]
    omega
end Gd

set_option Elab.async false
set_option linter.all false
set_option maxRecDepth 100000
namespace K2
open PySem PySem.Spec PyProof.Rows L2 Gd Qu Nm
section
variable {P : Program} {w : World} {K : PySem.W.Frag} {mg : Str → Option Value} {base : Heap}
def spSame (K : PySem.W.Frag) : Sp := fun vs H Q _ => ∃ (a b : Addr) (dt : PyData), vs = [.ref a, .ref b] ∧ Dp K H (.ref a) dt ∧ Dp K H (.ref b) dt ∧ OkD dt 16000000 ∧ Q (.bl true) H
theorem c__law_same (D : At K mg "_law_same" s__law_same ["_law_told", "_law_due"]) (z_repr : mg "repr" = none) : CalG P w K mg base 1 "_law_same" ["_law_told", "_law_due"] (spSame K) := by
  refine okCG D sc__law_same (fun vs H Q E h => ?_) (fun f cdv A outer s H vs Q E hr hG h => ?_)
  · obtain ⟨a, b, dt, rfl, _⟩ := h
    rfl
  · obtain ⟨a, b, dt, rfl, ha, hb, ok, k⟩ := h
    have nd := sc__law_same.nd
    refine ⟨_, (pss_one (ps_ret (pe_cmpR op_eq (pe_callB (call_repr hr hG) (by rfl) z_repr (by decide +kernel) (pa_cons (pv 0) pa_nil)) (pe_callB (call_repr hr hG) (by rfl) z_repr (by decide +kernel) (pa_cons (pv 1) pa_nil)) (nomark _)))), ?_⟩
    have len := ok.len (by rw [sizeLine_eq]; decide)
    refine ⟨_, rfl, a, dt, rfl, ha, ok.sh, ok.nd, ok.dp, len, _, rfl, b, dt, rfl, hb, ok.sh, ok.nd, ok.dp, len, rfl, ?_⟩
    rw [decide_eq_true rfl]
    exact k
def spGcd : Sp := fun vs H Q _ => ∃ a b : Int, vs = [.int a, .int b] ∧ Q (.int ((Nat.gcd a.natAbs b.natAbs : Nat) : Int)) H
end
end K2

set_option Elab.async false
set_option linter.all false
set_option maxRecDepth 100000
namespace K2
open PySem PySem.Spec PyProof.Rows L2 Gd Qu Nm
theorem FeedAt.neQ {H : Hp} {d c p : Addr} {cells : List Int} {B : Nat} {q : Int × Int} (F : FeedAt H d c cells B) (h : QAt H p q) : p ≠ d := by
  obtain ⟨sp, ov, tn, e, _⟩ := F.ex
  exact ne_of h e (by intro z; cases z)
theorem FeedAt.neL {H : Hp} {d c p : Addr} {cells : List Int} {B : Nat} {xs : List V} (F : FeedAt H d c cells B) (h : H p = some (.lst xs)) : p ≠ d := by
  obtain ⟨sp, ov, tn, e, _⟩ := F.ex
  exact ne_of h e (by intro z; cases z)
theorem FeedAt.neT {H : Hp} {d c p : Addr} {cells : List Int} {B : Nat} {xs : List V} (F : FeedAt H d c cells B) (h : H p = some (.tup xs)) : p ≠ d := by
  obtain ⟨sp, ov, tn, e, _⟩ := F.ex
  exact ne_of h e (by intro z; cases z)
section
variable {P : Program} {w : World} {K : PySem.W.Frag} {mg : Str → Option Value} {base : Heap}
def spAny : Sp := fun vs H Q _ => ∃ (d c a : Addr) (cells : List Int) (B : Nat) (xs : List V), vs = [.ref d, .ref a] ∧ FeedAt H d c cells B ∧ B ≤ 100000 ∧ H a = some (.lst xs) ∧ 1 ≤ xs.length ∧ xs.length ≤ 1000 ∧
  ∀ (x : V) (H' : Hp), x ∈ xs → FeedAt H' d c cells (B + 1) → Kp d H H' → Q x H'
theorem c__law_any (D : At K mg "_law_any" s__law_any ["_law_feed_here", "_law_some"]) (c__law_draw : Cal P w K mg base 1 "_law_draw" spDraw) (z_len : mg "len" = none) : Cal P w K mg base 2 "_law_any" spAny := by
  refine okC D sc__law_any (fun vs H Q E h => ?_) (fun f cdv A outer s H vs Q E hr h => ?_)
  · obtain ⟨d, c, a, cells, B, xs, rfl, _⟩ := h
    rfl
  · obtain ⟨d, c, a, cells, B, xs, rfl, F, hB, ha, l1, l2, k⟩ := h
    have nd := sc__law_any.nd
    refine ⟨_, (pss_one (ps_ret (pe_ix ix_list (pv 1) (pe_k c__law_draw hr (by decide) (by rfl) (pa_cons (pv 0) (pa_cons (pe_callB call_len_seq (by rfl) z_len PySem.boot_len (pa_cons (pv 1) pa_nil)) pa_nil))) (fun _ _ => rfl)))), ?_⟩
    refine ⟨_, rfl, _, rfl, _, rfl, a, xs, rfl, .inl (.inl (.inl ha)), d, c, cells, B, xs.length, rfl, F, by omega, l1, by omega, fun r H' hrl F' kp => ?_⟩
    have ha' := kp a _ (F.neL ha) ha
    exact ⟨a, xs, r, xs[r], rfl, rfl, .inl (.inl ha'), atI_nat (j := r) (List.getElem?_eq_getElem hrl), k _ H' (List.getElem_mem _) F' kp⟩
def spFrac : Sp := fun vs H Q _ => ∃ (d c : Addr) (cells : List Int) (B : Nat), vs = [.ref d] ∧ FeedAt H d c cells B ∧ B ≤ 100000 ∧
  ∀ (q : Int × Int) (p : Addr) (H' : Hp), IsQ q → Sz 150 q → FeedAt H' d c cells (B + 3) → Kp d H H' → QAt H' p q → Q (.ref p) H'
theorem ten40 : (10 : Int) ^ (40 : Int).toNat = 10000000000000000000000000000000000000000 := by decide
theorem ten30 : (10 : Int) ^ (30 : Int).toNat = 1000000000000000000000000000000 := by decide
theorem two150 : (2 : Nat) ^ 150 = 1427247692705959881058285969449495136382746624 := by decide
end
end K2

set_option Elab.async false
set_option linter.all false
set_option maxRecDepth 100000
namespace K2
open PySem PySem.Spec PyProof.Rows L2 Gd Qu Nm
structure HalfF (n : Nat) (fs : List Nat) (rest step : Nat) : Prop where
  prod : prodN fs * rest = n
  asc : fs.Pairwise (· ≤ ·)
  pr : ∀ p ∈ fs, Pr p
  le : ∀ p ∈ fs, p ≤ step
  nod : ∀ d, 2 ≤ d → d < step → ¬ d ∣ rest
  pos : 1 ≤ rest
theorem fs_len {n rest : Nat} {fs : List Nat} (h : prodN fs * rest = n) (hp : ∀ p ∈ fs, Pr p) (hr : 1 ≤ rest) : fs.length ≤ n := by
  have key : ∀ l : List Nat, (∀ p ∈ l, Pr p) → l.length + 1 ≤ prodN l := by
    intro l
    induction l with
    | nil => intro _; exact Nat.le_refl _
    | cons x l ih =>
      intro hx
      have h1 := ih fun y hy => hx y (List.mem_cons_of_mem _ hy)
      have h2 := (hx x List.mem_cons_self).1
      have h5 : 2 * (l.length + 1) ≤ x * prodN l := Nat.mul_le_mul h2 h1
      show l.length + 1 + 1 ≤ x * prodN l
      omega
  have h1 := key fs hp
  have h2 : prodN fs * 1 ≤ n := by
    rw [← h]
    exact Nat.mul_le_mul_left _ hr
  omega
theorem HalfF.more {n rest r step : Nat} {fs : List Nat} (h : HalfF n fs rest step) (hs : 2 ≤ step) (e : rest = step * r) : HalfF n (fs ++ [step]) r step := by
  have hp : Pr step := (least_at hs h.nod ⟨r, e⟩).pr
  have r0 : 1 ≤ r := by
    have := h.pos
    cases r with
    | zero => rw [Nat.mul_zero] at e; omega
    | succ r => omega
  refine ⟨?_, List.pairwise_append.mpr ⟨h.asc, List.pairwise_singleton _ _, fun a ha b hb => ?_⟩, fun p hp' => ?_, fun p hp' => ?_, fun d h1 h2 h3 => h.nod d h1 h2 (Nat.dvd_trans h3 ⟨step, by rw [e, Nat.mul_comm]⟩), r0⟩
  · rw [prodN_snoc, ← h.prod, e]
    ac_rfl
  · rw [List.mem_singleton.mp hb]
    exact h.le a ha
  · rcases List.mem_append.mp hp' with z | z
    · exact h.pr p z
    · rw [List.mem_singleton.mp z]
      exact hp
  · rcases List.mem_append.mp hp' with z | z
    · exact h.le p z
    · rw [List.mem_singleton.mp z]
      exact Nat.le_refl _
theorem HalfF.done {n rest step : Nat} {fs : List Nat} (h : HalfF n fs rest step) (hlt : rest < step * step) (hs : ∀ p ∈ fs, p < step) : Facs n (fs ++ if 1 < rest then [rest] else []) := by
  have hpos := h.pos
  by_cases c : 1 < rest
  · rw [if_pos c]
    have hp : Pr rest := (least_self c h.nod hlt).pr
    have hge : step ≤ rest := Nat.le_of_not_lt fun z => h.nod rest c z (Nat.dvd_refl _)
    refine ⟨fun p hp' => ?_, List.pairwise_append.mpr ⟨h.asc, List.pairwise_singleton _ _, fun a ha b hb => ?_⟩, ?_⟩
    · rcases List.mem_append.mp hp' with z | z
      · exact h.pr p z
      · rw [List.mem_singleton.mp z]
        exact hp
    · rw [List.mem_singleton.mp hb]
      exact Nat.le_trans (Nat.le_of_lt (hs a ha)) hge
    · rw [prodN_snoc]
      exact h.prod
  · rw [if_neg c, List.append_nil]
    refine ⟨h.pr, h.asc, ?_⟩
    have e : rest = 1 := by omega
    have := h.prod
    rw [e, Nat.mul_one] at this
    exact this
/-- ints of naturals -/
def nV (fs : List Nat) : List V := fs.map fun (p : Nat) => V.int (p : Int)
theorem nV_ints (fs : List Nat) : nV fs = (fs.map fun (p : Nat) => (p : Int)).map V.int := by
  unfold nV
  rw [List.map_map]
  rfl
section
variable {P : Program} {w : World} {K : PySem.W.Frag} {mg : Str → Option Value} {base : Heap}
def spFacs : Sp := fun vs H Q _ => ∃ n : Nat, vs = [.int n] ∧ 1 ≤ n ∧ n ≤ 10000 ∧ ∀ (a : Addr) (fs : List Nat) (H' : Hp), Facs n fs → fs.length ≤ n → Same H H' → H' a = some (.lst (nV fs)) → Q (.ref a) H'
def FOut (H : Hp) (n : Nat) (m : Nat) (σ : L2.St) (H' : Hp) : Prop := ∃ (l : Addr) (fs : List Nat) (rest step : Nat), σ = [some (.int n), some (.ref l), some (.int rest), some (.int step)] ∧
  Same H H' ∧ H l = none ∧ H' l = some (.lst (nV fs)) ∧ HalfF n fs rest step ∧ (∀ p ∈ fs, p < step) ∧ 2 ≤ step ∧ step ≤ n + 1 ∧ m = n + 2 - step
def FIn (H : Hp) (n step : Nat) (l : Addr) (m : Nat) (σ : L2.St) (H' : Hp) : Prop := ∃ (fs : List Nat) (rest : Nat), σ = [some (.int n), some (.ref l), some (.int rest), some (.int step)] ∧
  Same H H' ∧ H' l = some (.lst (nV fs)) ∧ HalfF n fs rest step ∧ rest = m
theorem c__law_primes (D : At K mg "_law_primes" s__law_primes ["_law_whole"]) (z_int : mg "int" = none) : Cal P w K mg base 1 "_law_primes" spFacs := by
  refine okC D sc__law_primes (fun vs H Q E h => ?_) (fun f cdv A outer s H vs Q E hr h => ?_)
  · obtain ⟨n, rfl, _⟩ := h
    rfl
  · obtain ⟨n, rfl, h1, h2, k⟩ := h
    have nd := sc__law_primes.nd
    refine ⟨_, (pss_cons (ps_par3 (i := 1) (j := 2) (l := 3) rfl nd rfl rfl rfl (by decide) (by decide) (by decide) rfl rfl rfl (pa_cons (pe_lst pa_nil) (pa_cons (pv 0) (pa_cons pe_int pa_nil))) rfl)
 (pss_cons (ps_while PassesOwn.never (pt_cmpR op_le (pe_op op_mul (pv 3) (pv 3)) (pv 2) (nomark _))
 (pss_cons (ps_while PassesOwn.never (pt_cmpR op_eq (pe_op op_mod (pe_callTy call_int1 (by rfl) z_int (by decide +kernel) (pa_cons (pv 2) pa_nil)) (pv 3)) pe_int (nomark _))
 (pss_cons (ps_expr (pe_bm PySem.F.plainAttrs_list PySem.F.slot_list_append PySem.F.type_list_append mt_append (pv 1) (pa_cons (pv 3) pa_nil)))
 (pss_one (ps_set (i := 2) nd rfl (.inl rfl) (pe_op op_fdiv (pv 2) (pv 3))))))
 (pss_one (ps_set (i := 3) nd rfl (.inl rfl) (pe_op op_add (pv 3) pe_int)))))
 (pss_one (ps_ret (pe_op op_cat (pv 1) (pe_op op_rep (pe_lst (pa_cons (pv 2) pa_nil)) (pe_callTy call_int1 (by rfl) z_int (by decide +kernel) (pa_cons (pe_cmpR op_gt (pv 2) pe_int (nomark _)) pa_nil)))))))), ?_⟩
    refine ⟨Nat.zero_le _, fun l hl => ⟨_, rfl, _, _, _, rfl, FOut H n, ⟨n, l, [], n, 2, rfl, same_new hl, hl, upd_same, ⟨Nat.one_mul n, List.Pairwise.nil, fun p hp => absurd hp List.not_mem_nil, fun p hp => absurd hp List.not_mem_nil, fun d a1 a2 => by omega, h1⟩, fun p hp => absurd hp List.not_mem_nil, by decide, by omega, by omega⟩, ?_⟩⟩
    clear hl l
    rintro m σ H1 ⟨l, fs, rest, step, rfl, s1, hl, e1, hf, hlt, st2, stn, rfl⟩
    have rn : rest ≤ n := by
      have hp : 1 ≤ prodN fs := prod_pos fun a ha => (hf.pr a ha).pos
      rw [← hf.prod]
      exact Nat.le_mul_of_pos_left _ hp
    have stp : (0 : Int) < (step : Int) := by omega
    refine ⟨_, rfl, _, rfl, _, _, rfl, rfl, .inl ⟨by omega, by omega⟩, _, rfl, _, _, rfl, rfl, _, rfl, ite2 (fun c => ?_) (fun c => ?_)⟩
    · have c1 : (step : Int) * step ≤ rest := of_decide_eq_true c
      have c2 : step * step ≤ rest := by exact_mod_cast c1
      have c3 : step ≤ rest := Nat.le_trans (Nat.le_mul_of_pos_left step (by omega)) c2
      refine ⟨fun σ' H' => ∃ m', m' < n + 2 - step ∧ FOut H n m' σ' H', fun _ _ z => z, FIn H n step l, ⟨rest, fs, rest, rfl, s1, e1, hf, rfl⟩, ?_⟩
      rintro m σ H2 ⟨gs, r2, rfl, s2, e2, hg, rfl⟩
      have rn2 : gs.length ≤ n := fs_len hg.prod hg.pr hg.pos
      refine ⟨_, rfl, .inl ⟨_, rfl, _, rfl, _, _, rfl, rfl, stp, rfl, _, rfl, ite2 (fun d => ?_) (fun d => ?_)⟩⟩
      · have d1 := mod0.mp (of_decide_eq_true d)
        obtain ⟨r, er⟩ := d1
        have hg' := hg.more st2 er
        refine ⟨fun σ' H' => ∃ m', m' < r2 ∧ FIn H n step l m' σ' H', fun _ _ z => z, ?_⟩
        refine ⟨_, rfl, .inl ⟨rfl, _, .inl (.inl e2)⟩, _, rfl, l, nV gs, _, rfl, rfl, e2, ?_, ?_⟩
        · unfold nV
          rw [List.length_map]
          exact Nat.lt_of_le_of_lt rn2 (Nat.lt_of_le_of_lt h2 (by decide))
        · have hdiv : r2 / step = r := by
            rw [er]
            exact Nat.mul_div_cancel_left _ (by omega)
          refine ⟨_, rfl, _, rfl, _, _, rfl, rfl, ⟨stp, by omega⟩, r, ?_, gs ++ [step], r, ?_, same_own s2 hl, ?_, hg', rfl⟩
          · rw [er]
            have := hg'.pos
            have : 2 * r ≤ step * r := Nat.mul_le_mul_right r st2
            omega
          · rw [← hdiv]
            rfl
          · rw [upd_same]
            unfold nV
            rw [List.map_append]
            rfl
      · have d1 : ¬ step ∣ r2 := fun z => d (decide_eq_true (mod0.mpr z))
        refine ⟨_, rfl, _, _, rfl, rfl, n + 2 - (step + 1), by omega, l, gs, r2, step + 1, rfl, s2, hl, e2, ⟨hg.prod, hg.asc, hg.pr, fun p hp => Nat.le_succ_of_le (hg.le p hp), fun d a1 a2 a3 => ?_, hg.pos⟩, fun p hp => Nat.lt_succ_of_le (hg.le p hp), by omega, by omega, rfl⟩
        by_cases ed : d = step
        · subst ed
          exact d1 a3
        · exact hg.nod d a1 (by omega) a3
    · have c1 : ¬ (step : Int) * step ≤ rest := fun z => c (decide_eq_true z)
      have c2 : rest < step * step := by
        refine Nat.lt_of_not_le fun z => c1 ?_
        exact_mod_cast z
      have fin := hf.done c2 hlt
      have flen : (fs ++ if 1 < rest then [rest] else []).length ≤ n := fs_len (rest := 1) (by rw [Nat.mul_one]; exact fin.prod) fin.pr (Nat.le_refl _)
      have fl : fs.length ≤ n := fs_len hf.prod hf.pr hf.pos
      have big : ∀ z : Nat, z ≤ n → z ≤ sizeLine := fun z hz => Nat.le_trans hz (Nat.le_trans h2 (by rw [sizeLine_eq]; decide))
      refine ⟨_, rfl, _, rfl, (by show 1 ≤ sizeLine; decide), fun p hp => ?_⟩
      have sp := same_new (o := .lst [V.int (rest : Int)]) hp
      refine ⟨_, rfl, _, _, rfl, rfl, ?_⟩
      refine .inr ⟨_, rfl, p, _, [.int rest], rfl, rfl, upd_same, ?_, ?_, ?_, fun p2 hp2 => ⟨l, p2, nV fs, _, rfl, rfl, same_new hp2 _ _ (sp _ _ e1), upd_same, ?_, fun p3 hp3 => ?_⟩⟩
      · split <;> decide
      · split <;> decide
      · split
        · show 1 * 1 ≤ sizeLine
          decide
        · show 1 * 0 ≤ sizeLine
          decide
      · refine big _ ?_
        unfold nV
        rw [List.length_map]
        refine Nat.le_trans ?_ flen
        rw [List.length_append]
        refine Nat.add_le_add_left ?_ _
        by_cases q : 1 < rest
        · have q1 : (1 : Int) < rest := by omega
          rw [if_pos q, decide_eq_true q1]
          exact Nat.le_refl 1
        · have q1 : ¬ (1 : Int) < rest := by omega
          rw [if_neg q, decide_eq_false q1]
          exact Nat.le_refl 0
      · refine k p3 _ _ fin flen (((s1.trans sp).trans (same_new hp2)).trans (same_new hp3)) ?_
        rw [upd_same]
        unfold nV
        rw [List.map_append]
        by_cases q : 1 < rest
        · have q1 : (1 : Int) < rest := by omega
          rw [if_pos q, decide_eq_true q1]
          rfl
        · have q1 : ¬ (1 : Int) < rest := by omega
          rw [if_neg q, decide_eq_false q1]
          rfl
end
end K2

/-! How many divisors there are at most. -/
namespace Nm
theorem asc_len : ∀ {l : List Nat} {a k : Nat}, l.Pairwise (· < ·) → (∀ x ∈ l, a < x ∧ x ≤ k) → l.length ≤ k - a
  | [], _, _, _, _ => Nat.zero_le _
  | x :: l, a, k, h, b => by
    obtain ⟨h1, h2⟩ := List.pairwise_cons.mp h
    obtain ⟨b1, b2⟩ := b x List.mem_cons_self
    have := asc_len (a := x) (k := k) h2 fun y hy => ⟨h1 y hy, (b y (List.mem_cons_of_mem _ hy)).2⟩
    rw [List.length_cons]
    omega
theorem split_len (l : List Nat) (p : Nat → Bool) : l.length = (l.filter p).length + (l.filter fun x => !p x).length := by
  induction l with
  | nil => rfl
  | cons x l ih =>
    cases h : p x with
    | true =>
      rw [List.filter_cons_of_pos h, List.filter_cons_of_neg (by rw [h]; decide), List.length_cons, List.length_cons, ih]
      omega
    | false =>
      rw [List.filter_cons_of_neg (by rw [h]; decide), List.filter_cons_of_pos (by rw [h]; decide), List.length_cons, List.length_cons, ih]
      omega
theorem dv_len {m : Nat} {l : List Nat} (hm : 1 ≤ m) (hm2 : m ≤ 10000) (h : l.Pairwise (· < ·)) (hd : ∀ d ∈ l, d ∣ m) : l.length ≤ 200 := by
  have e1 : (l.filter fun x => decide (x ≤ 100)).length ≤ 100 := by
    refine asc_len (a := 0) (k := 100) (h.filter _) fun x hx => ?_
    obtain ⟨q1, q2⟩ := List.mem_filter.mp hx
    exact ⟨Nat.pos_of_dvd_of_pos (hd x q1) hm, of_decide_eq_true q2⟩
  have e2 : (((l.filter fun x => !decide (x ≤ 100)).map fun d => m / d).reverse).length ≤ 100 := by
    refine asc_len (a := 0) (k := 100) ?_ fun y hy => ?_
    · rw [List.pairwise_reverse, List.pairwise_map]
      refine List.Pairwise.imp_of_mem ?_ (h.filter _)
      intro a b ha hb hab
      have da := hd a (List.mem_filter.mp ha).1
      have db := hd b (List.mem_filter.mp hb).1
      obtain ⟨x, hx⟩ := da
      obtain ⟨y, hy⟩ := db
      have pa : 0 < a := Nat.pos_of_dvd_of_pos ⟨x, hx⟩ hm
      have pb : 0 < b := Nat.pos_of_dvd_of_pos ⟨y, hy⟩ hm
      have ex : m / a = x := by rw [hx]; exact Nat.mul_div_cancel_left _ pa
      have ey : m / b = y := by rw [hy]; exact Nat.mul_div_cancel_left _ pb
      show m / b < m / a
      rw [ex, ey]
      refine Nat.lt_of_not_le fun z => ?_
      have y0 : 0 < y := by
        rcases Nat.eq_zero_or_pos y with q | q
        · rw [q, Nat.mul_zero] at hy
          omega
        · exact q
      have h1 : a * x ≤ a * y := Nat.mul_le_mul_left a z
      have h2 : a * y < b * y := Nat.mul_lt_mul_of_pos_right hab y0
      omega
    · rw [List.mem_reverse] at hy
      obtain ⟨d, hd', rfl⟩ := List.mem_map.mp hy
      obtain ⟨q1, q2⟩ := List.mem_filter.mp hd'
      have q3 : ¬ d ≤ 100 := by
        intro z
        rw [decide_eq_true z] at q2
        cases q2
      have hle := Nat.le_of_dvd hm (hd d q1)
      constructor
      · exact Nat.div_pos hle (by omega)
      · refine Nat.le_of_lt_succ (Nat.div_lt_of_lt_mul ?_)
        omega
  rw [List.length_reverse, List.length_map] at e2
  have e3 := split_len l fun x => decide (x ≤ 100)
  omega
end Nm

set_option Elab.async false
set_option linter.all false
set_option maxRecDepth 100000
namespace K2
open PySem PySem.Spec PyProof.Rows L2 Gd Qu Nm
theorem prodN_take {fs : List Nat} {i : Nat} {p : Nat} (h : fs[i]? = some p) : prodN (fs.take (i + 1)) = prodN (fs.take i) * p := by
  rw [List.take_add_one, h, Option.toList, prodN_snoc]
theorem nV_get {fs : List Nat} {i : Nat} {x : V} (h : (nV fs)[i]? = some x) : ∃ p, fs[i]? = some p ∧ x = V.int (p : Nat) := by
  unfold nV at h
  rw [List.getElem?_map] at h
  cases e : fs[i]? with
  | none => rw [e] at h; cases h
  | some p =>
    rw [e] at h
    exact ⟨p, rfl, (Option.some.inj h).symm⟩
theorem nV_len (fs : List Nat) : (nV fs).length = fs.length := by
  unfold nV
  rw [List.length_map]
/-- from ints back: a strictly ascending list of ints whose members are those of naturals -/
theorem ks_nat {ks : List Int} {ds : List Nat} (asc : ks.Pairwise (· < ·)) (dasc : ds.Pairwise (· < ·)) (h : ∀ k : Int, k ∈ ks ↔ ∃ d ∈ ds, k = (d : Int)) : ks = ds.map fun (d : Nat) => (d : Int) := by
  refine asc_ext (r := fun a b : Int => a < b) (fun a => Int.lt_irrefl a) (fun _ _ _ => Int.lt_trans) asc (List.pairwise_map.mpr (dasc.imp fun h => by omega)) fun k => ?_
  rw [h k, List.mem_map]
  constructor
  · rintro ⟨d, hd, e⟩
    exact ⟨d, hd, e.symm⟩
  · rintro ⟨d, hd, e⟩
    exact ⟨d, hd, e.symm⟩
/-- .. as naturals -/
theorem ks_ex {ks : List Int} {S : Nat → Prop} (asc : ks.Pairwise (· < ·)) (h : ∀ k : Int, k ∈ ks ↔ ∃ d : Nat, S d ∧ k = (d : Int)) : ∃ ds : List Nat, ks = ds.map (fun (d : Nat) => (d : Int)) ∧ ds.Pairwise (· < ·) ∧ ∀ d, d ∈ ds ↔ S d := by
  refine ⟨ks.map Int.toNat, ?_, ?_, fun d => ?_⟩
  · rw [List.map_map]
    symm
    refine (List.map_congr_left fun k hk => ?_).trans (List.map_id _)
    obtain ⟨d, _, rfl⟩ := (h k).mp hk
    rfl
  · rw [List.pairwise_map]
    refine List.Pairwise.imp_of_mem ?_ asc
    intro a b ha hb hab
    obtain ⟨x, _, rfl⟩ := (h a).mp ha
    obtain ⟨y, _, rfl⟩ := (h b).mp hb
    show ((x : Int)).toNat < ((y : Int)).toNat
    omega
  · rw [List.mem_map]
    constructor
    · rintro ⟨k, hk, rfl⟩
      obtain ⟨x, hx, rfl⟩ := (h k).mp hk
      exact hx
    · intro hd
      exact ⟨d, (h _).mpr ⟨d, hd, rfl⟩, rfl⟩
section
variable {P : Program} {w : World} {K : PySem.W.Frag} {mg : Str → Option Value} {base : Heap}
theorem c__law_divisors (D : At K mg "_law_divisors" s__law_divisors ["_law_whole"]) (c__law_primes : Cal P w K mg base 1 "_law_primes" spFacs) (z_sorted : mg "sorted" = none) (z_set : mg "set" = none) (z_tuple : mg "tuple" = none) :
    Cal P w K mg base 2 "_law_divisors" spDvs := by
  refine okC D sc__law_divisors (fun vs H Q E h => ?_) (fun f cdv A outer s H vs Q E hr h => ?_)
  · obtain ⟨n, rfl, _⟩ := h
    rfl
  · obtain ⟨n, rfl, h1, h2, k⟩ := h
    have nd := sc__law_divisors.nd
    refine ⟨_, (pss_cons (ps_set (i := 1) nd rfl (.inl rfl) (pe_lst (pa_cons pe_int pa_nil)))
 (pss_cons (ps_for PassesOwn.never rfl (pi_list (pe_k c__law_primes hr (by decide) (by rfl) (pa_cons (pv 0) pa_nil))) (pg_name (i := 2) nd rfl (.inr rfl))
 (pss_one (ps_set (i := 1) nd rfl (.inl rfl) (pe_callB (cr_sortSet rfl) (by rfl) z_sorted (by decide +kernel) (pa_cons (pe_callTy (cr_setL rfl) (by rfl) z_set (by decide +kernel) (pa_cons (pe_op op_cat (pv 1) (pe_lc (own := [("_law_part", 3)]) rfl nd (pi_list (pv 1)) (blkOk_by (N := N__law_divisors) (sc := defScope s__law_divisors) (by decide +kernel)) (fun _ _ _ _ _ => pg_name (i := 3) nd rfl (Or.inl rfl)) (fun _ _ _ _ _ => pts_nil) (fun _ _ _ _ _ => (pe_op op_mul (pv 2) (pv 3))))) pa_nil)) pa_nil)))))
 (pss_one (ps_ret (pe_tupleOf (by rfl) z_tuple (pv 1)))))), ?_⟩
    refine ⟨(by show 1 ≤ sizeLine; decide), fun l0 hl0 => ?_⟩
    have s0 : Same H (upd H l0 (.lst [V.int 1])) := same_new hl0
    refine ⟨_, rfl, n, rfl, h1, h2, fun a fs H1 hf flen s1 ha => ⟨a, rfl, ⟨_, .inl (.inl ha)⟩, for_it (walk_list (xs := nV fs))
      (fun i σ H' => ∃ (l : Addr) (ds : List Nat) (y2 y3 : Option V), σ = [some (.int n), some (.ref l), y2, y3] ∧ Same H1 H' ∧ H' l = some (.lst (nV ds)) ∧ ds.Pairwise (· < ·) ∧ ∀ d, d ∈ ds ↔ d ∣ prodN (fs.take i))
      ⟨l0, [1], none, none, rfl, Same.refl _, s1 _ _ upd_same, List.pairwise_singleton _ _, fun d => by rw [List.mem_singleton]; exact Nat.dvd_one.symm⟩ (fun i σ H' _ ⟨_, _, _, _, _, sm, _⟩ => .inl (.inl (sm _ _ ha))) ?_ ?_⟩⟩
    · rintro i x σ H2 H' hi ⟨l, ds, y2, y3, rfl, s2, hl, asc, mem⟩ ⟨eH, hx⟩
      obtain rfl := eH.symm
      obtain ⟨p, hp, rfl⟩ := nV_get hx
      have hpm : p ∈ fs := List.mem_of_getElem? hp
      have pr := hf.pr p hpm
      have pn : p ≤ n := Nat.le_of_dvd h1 ((hf.mem p).mp hpm).2
      have mpos : 1 ≤ prodN (fs.take i) := prod_pos fun b hb => (hf.pr b (List.mem_of_mem_take hb)).pos
      have mle : prodN (fs.take i) ≤ n := by
        have e : prodN (fs.take i) * prodN (fs.drop i) = n := by rw [← prodN_append, List.take_append_drop, hf.prod]
        have hp : 1 ≤ prodN (fs.drop i) := prod_pos fun b hb => (hf.pr b (List.mem_of_mem_drop hb)).pos
        rw [← e]
        exact Nat.le_mul_of_pos_right _ hp
      have dlen : ds.length ≤ 200 := dv_len mpos (by omega) asc fun d hd => (mem d).mp hd
      have dle : ∀ d ∈ ds, d ≤ n := fun d hd => Nat.le_trans (Nat.le_of_dvd mpos ((mem d).mp hd)) mle
      refine ⟨_, rfl, _, rfl, l, rfl, ⟨_, .inl (.inl hl)⟩, fun L hL => lcM (walk_list (xs := nV ds)) (fun x => match x with | .int j => .int ((p : Int) * j) | z => z) hL ?_ (fun H' sm => .inl (.inl (sm _ _ hl))) ?_ ?_⟩
      · rw [nV_len]
        exact small1000 (by omega)
      · intro x H' R hx sm q
        obtain ⟨j, hj, e⟩ := List.mem_map.mp hx
        subst e
        have := dle j hj
        exact ⟨rfl, _, rfl, _, rfl, _, _, rfl, rfl, .inl ⟨by omega, by omega⟩, q H' (Same.refl _)⟩
      · intro H3 s3 hL3
        have e3 : (nV ds).map (fun x => match x with | .int j => V.int ((p : Int) * j) | z => z) = nV (ds.map (p * ·)) := by
          unfold nV
          rw [List.map_map, List.map_map]
          refine List.map_congr_left fun j _ => ?_
          show V.int ((p : Int) * (j : Int)) = V.int ((p * j : Nat) : Int)
          rw [Int.natCast_mul]
        rw [e3] at hL3
        refine ⟨l, L, nV ds, _, rfl, rfl, s3 _ _ hl, hL3, ?_, fun p4 hp4 => ?_⟩
        · rw [nV_len, nV_len, List.length_map]
          exact Nat.le_of_lt (small1000 (by omega))
        · have ecat : nV ds ++ nV (ds.map (p * ·)) = ((ds ++ ds.map (p * ·)).map fun (d : Nat) => (d : Int)).map V.int := by
            rw [← nV_ints]
            unfold nV
            rw [List.map_append]
          refine ⟨p4, (ds ++ ds.map (p * ·)).map fun (d : Nat) => (d : Int), rfl, .inl (.inl (by rw [upd_same, ecat])), ?_, fun p5 m hp5 hm => ?_⟩
          · rw [List.length_map, List.length_append, List.length_map]
            omega
          · refine ⟨p5, _, m, rfl, upd_same, ?_, fun ks p6 kasc kmem hp6 => ?_⟩
            · rw [List.length_map, List.length_append, List.length_map] at hm
              omega
            · obtain ⟨es, rfl, easc, emem⟩ := ks_ex (S := fun d => d ∣ prodN (fs.take (i + 1))) kasc fun z => by
                rw [kmem z, decide_eq_true_eq, List.mem_map]
                constructor
                · rintro ⟨d, hd, rfl⟩
                  refine ⟨d, ?_, rfl⟩
                  rw [prodN_take hp, dvd_step pr mpos]
                  rcases List.mem_append.mp hd with q | q
                  · exact .inl ((mem d).mp q)
                  · obtain ⟨e, he, rfl⟩ := List.mem_map.mp q
                    exact .inr ⟨e, (mem e).mp he, rfl⟩
                · rintro ⟨d, hd, rfl⟩
                  refine ⟨d, ?_, rfl⟩
                  rw [prodN_take hp, dvd_step pr mpos] at hd
                  rcases hd with q | ⟨e, he, rfl⟩
                  · exact List.mem_append_left _ ((mem d).mpr q)
                  · exact List.mem_append_right _ (List.mem_map.mpr ⟨e, (mem e).mpr he, rfl⟩)
              refine ⟨p6, es, _, y3, rfl, s2.trans (s3.trans ((same_new hp4).trans ((same_new hp5).trans (same_new hp6)))), ?_, easc, emem⟩
              rw [upd_same, nV_ints]
    · rintro σ H2 ⟨l, ds, y2, y3, rfl, s2, hl, asc, mem⟩
      rw [nV_len, List.take_length, hf.prod] at mem
      refine ⟨_, rfl, .inl ⟨l, _, rfl, .inl (.inl hl), fun t ht => ?_⟩⟩
      have e : ds = dvs n := asc_nat asc (dvs_asc n) fun d => (mem d).trans (dvs_mem h1 d).symm
      subst e
      exact k t _ (s0.trans (s1.trans (s2.trans (same_new ht)))) upd_same
end
end K2

set_option Elab.async false
set_option linter.all false
set_option maxRecDepth 100000
namespace K2
open PySem PySem.Spec PyProof.Rows L2 Gd Qu Nm
theorem facs_len13 {n : Nat} {fs : List Nat} (hn : n ≤ 10000) (g : Facs n fs) : fs.length ≤ 13 := by
  have key : ∀ l : List Nat, (∀ p ∈ l, Pr p) → 2 ^ l.length ≤ prodN l := by
    intro l
    induction l with
    | nil => intro _; exact Nat.le_refl _
    | cons x l ih =>
      intro hx
      have h1 := ih fun y hy => hx y (List.mem_cons_of_mem _ hy)
      have h2 := (hx x List.mem_cons_self).1
      rw [List.length_cons, Nat.pow_succ, Nat.mul_comm]
      exact Nat.mul_le_mul h2 h1
  have h1 := key fs g.pr
  rw [g.prod] at h1
  refine Nat.le_of_not_lt fun z => ?_
  have : 2 ^ 14 ≤ 2 ^ fs.length := Nat.pow_le_pow_right (by decide) z
  omega
theorem facs_set {n : Nat} {fs es : List Nat} {ps : List (Nat × Nat)} (g : Facs n fs) (hp : Parts n ps) (asc : es.Pairwise (· < ·)) (mem : ∀ d, d ∈ es ↔ d ∈ fs) : es = ps.map (·.1) :=
  asc_nat asc hp.asc fun a => (mem a).trans ((g.mem a).trans (hp.mem a).symm)
theorem totF_take {n : Nat} {es : List Nat} {i p : Nat} (h : es[i]? = some p) : totF n (es.take (i + 1)) = totF n (es.take i) / p * (p - 1) := by
  unfold totF
  rw [fold_step _ _ h]
section
variable {P : Program} {w : World} {K : PySem.W.Frag} {mg : Str → Option Value} {base : Heap}
def spTotF : Sp := fun vs H Q _ => ∃ (n : Nat) (ps : List (Nat × Nat)), vs = [.int n] ∧ 1 ≤ n ∧ n ≤ 10000 ∧ Parts n ps ∧ ∀ H', Same H H' → Q (.int (totP ps : Nat)) H'
def spPowF : Sp := fun vs H Q _ => ∃ (n : Nat) (ps : List (Nat × Nat)), vs = [.int n] ∧ 1 ≤ n ∧ n ≤ 10000 ∧ Parts n ps ∧ ∀ (a : Addr) (zs : List Int) (H' : Hp), zs.Perm (ps.map fun x => (x.2 : Int)) → zs.Pairwise (· ≤ ·) → Same H H' → H' a = some (.tup (zs.map V.int)) → Q (.ref a) H'
theorem count_take {fs : List Nat} {j q p : Nat} (h : fs[j]? = some q) : p ^ ((fs.take (j + 1)).count p) = p ^ ((fs.take j).count p) * (if q = p then p else 1) := by
  rw [List.take_add_one, h, Option.toList, List.count_append]
  by_cases e : q = p
  · subst e
    rw [if_pos rfl, List.count_singleton_self, Nat.pow_succ]
  · rw [if_neg e, Nat.mul_one, List.count_cons_of_ne e, List.count_nil, Nat.add_zero]
end
end K2

set_option Elab.async false
set_option linter.all false
set_option maxRecDepth 100000
namespace K2
open PySem PySem.Spec PyProof.Rows L2 Gd Qu Nm
section
variable {P : Program} {w : World} {K : PySem.W.Frag} {mg : Str → Option Value} {base : Heap}
def InR (n : Nat) : Prop := 1 ≤ n ∧ n ≤ 10000
def spWholes : Sp := fun vs H Q _ => ∃ (d c : Addr) (cells : List Int) (B : Nat), vs = [.ref d] ∧ FeedAt H d c cells B ∧ B ≤ 10000 ∧
  ∀ (a : Addr) (ns : List Nat) (H' : Hp), (∀ n ∈ ns, InR n) → ns.length ≤ 7 → FeedAt H' d c cells (B + 14) → Kp d H H' → H' a = some (.lst (nV ns)) → Q (.ref a) H'
end
end K2

/-! Totients of small numbers by counting. -/
namespace Nm
def prB (p : Nat) : Bool := decide (2 ≤ p) && (List.range p).all fun d => decide (d < 2) || decide (p % d ≠ 0)
theorem prB_pr {p : Nat} (h : prB p = true) : Pr p := by
  unfold prB at h
  rw [Bool.and_eq_true, decide_eq_true_eq, List.all_eq_true] at h
  refine ⟨h.1, fun d hd => ?_⟩
  have hle := Nat.le_of_dvd (by omega) hd
  by_cases e : d = p
  · exact .inr e
  · have h2 := h.2 d (List.mem_range.mpr (by omega))
    rw [Bool.or_eq_true, decide_eq_true_eq, decide_eq_true_eq] at h2
    rcases h2 with z | z
    · have : d ≠ 0 := fun q => by
        subst q
        have := Nat.eq_zero_of_zero_dvd hd
        omega
      omega
    · exact absurd (Nat.mod_eq_zero_of_dvd hd) z
def val (p : Nat) : Nat → Nat → Nat
  | 0, _ => 0
  | f + 1, n => if n % p = 0 then val p f (n / p) + 1 else 0
def tf (n : Nat) : List (Nat × Nat) := (List.range (n + 1)).filterMap fun p => if decide (2 ≤ p) && decide (n % p = 0) && prB p then some (p, val p 8 n) else none
def pf (n : Nat) : List (Nat × Nat) := (tf n).map fun x => (x.1, x.1 ^ x.2)
def cnt (n : Nat) : Nat := (((List.range n).map (1 + ·)).filter fun k => decide (Nat.gcd k n = 1)).length
def ascB : List Nat → Bool
  | a :: b :: l => decide (a < b) && ascB (b :: l)
  | _ => true
theorem ascB_asc : ∀ {l : List Nat}, ascB l = true → l.Pairwise (· < ·)
  | [], _ => List.Pairwise.nil
  | [a], _ => List.pairwise_singleton _ _
  | a :: b :: l, h => by
    unfold ascB at h
    rw [Bool.and_eq_true, decide_eq_true_eq] at h
    have ih := ascB_asc (l := b :: l) h.2
    refine List.pairwise_cons.mpr ⟨fun c hc => ?_, ih⟩
    rcases List.mem_cons.mp hc with e | e
    · rw [e]; exact h.1
    · exact Nat.lt_trans h.1 ((List.pairwise_cons.mp ih).1 c e)
def chk (n : Nat) : Bool := decide (prodN ((pf n).map (·.2)) = n) && ascB ((pf n).map (·.1)) && ((tf n).all fun x => prB x.1 && decide (1 ≤ x.2)) && decide (totP (pf n) = cnt n)
theorem chk_all : ((List.range 150).all fun i => chk (i + 1)) = true := by decide +kernel
theorem tot_cnt {n : Nat} {ps : List (Nat × Nat)} (h1 : 1 ≤ n) (h2 : n ≤ 150) (h : Parts n ps) : totP ps = cnt n := by
  have e := List.all_eq_true.mp chk_all (n - 1) (List.mem_range.mpr (by omega))
  rw [show n - 1 + 1 = n by omega] at e
  unfold chk at e
  rw [Bool.and_eq_true, Bool.and_eq_true, Bool.and_eq_true, decide_eq_true_eq, decide_eq_true_eq, List.all_eq_true] at e
  obtain ⟨⟨⟨e1, e2⟩, e3⟩, e4⟩ := e
  have hp : Parts n (pf n) := by
    refine ⟨e1, ascB_asc e2, fun x hx => ?_⟩
    unfold pf at hx
    obtain ⟨y, hy, rfl⟩ := List.mem_map.mp hx
    have h3 := e3 y hy
    rw [Bool.and_eq_true, decide_eq_true_eq] at h3
    exact ⟨prB_pr h3.1, y.2, h3.2, rfl⟩
  rw [h.uniq hp]
  exact e4
end Nm

set_option Elab.async false
set_option linter.all false
set_option maxRecDepth 100000
namespace K2
open PySem PySem.Spec PyProof.Rows L2 Gd Qu Nm
theorem nV_dp {K : PySem.W.Frag} {H : Hp} : ∀ fs : List Nat, DpAll K H (nV fs) (fs.map fun (p : Nat) => PyData.int (p : Int))
  | [] => .nil
  | p :: fs => .cons (.int _) (nV_dp fs)
theorem okA_nats {b : Nat} {fs : List Nat} (h : ∀ p ∈ fs, p < 2 ^ b) (h0 : 0 < b) (hb : b ≤ 1920) : OkA (fs.map fun (p : Nat) => PyData.int (p : Int)) 0 (1923 * fs.length) := by
  have e : (fs.map fun (p : Nat) => PyData.int (p : Int)) = (fs.map fun (p : Nat) => (p : Int)).map PyData.int := by rw [List.map_map]; rfl
  rw [e]
  have := okA_ints h0 hb (ns := fs.map fun (p : Nat) => (p : Int)) fun i hi => by
    obtain ⟨p, hp, rfl⟩ := List.mem_map.mp hi
    rw [Int.natAbs_natCast]
    exact h p hp
  rw [List.length_map] at this
  exact this
theorem facs1 {fs : List Nat} (g : Facs 1 fs) : fs = [] := by
  cases fs with
  | nil => rfl
  | cons a fs =>
    have h := g.prod
    have h1 := (g.pr a List.mem_cons_self).1
    have h2 : 0 < prodN fs := prod_pos fun b hb => (g.pr b (List.mem_cons_of_mem _ hb)).pos
    have h3 : 2 * 1 ≤ a * prodN fs := Nat.mul_le_mul h1 h2
    have h4 : a * prodN fs = 1 := h
    omega
theorem isP {n : Nat} {fs : List Nat} (h1 : 1 ≤ n) (g : Facs n fs) {b : Bool} (hb : b = true ↔ 2 ≤ n ∧ Least n n) : b = decide (fs.length = 1) := by
  have key : (2 ≤ n ∧ Least n n) ↔ fs.length = 1 := by
    by_cases e : n = 1
    · subst e
      have e2 := facs1 g
      subst e2
      constructor
      · rintro ⟨z, _⟩
        omega
      · intro z
        exact absurd z (by decide)
    · obtain ⟨l, hl⟩ := least_ex (n := n) (by omega)
      constructor
      · rintro ⟨_, z⟩
        exact (g.one hl).mp (hl.uniq z)
      · intro z
        have := (g.one hl).mpr z
        exact ⟨by omega, this ▸ hl⟩
  cases b with
  | true => exact (decide_eq_true (key.mp (hb.mp rfl))).symm
  | false => exact (decide_eq_false fun z => Bool.false_ne_true (hb.mpr (key.mpr z))).symm
section
variable {P : Program} {w : World} {K : PySem.W.Frag} {mg : Str → Option Value} {base : Heap}
def spRight : Sp := fun vs H Q _ => ∃ n : Nat, vs = [.int n] ∧ InR n ∧ ∀ H', Same H H' → Q (.bl true) H'
def cntF (n : Nat) (x : V) : Option V := match x with
  | .int i => if Nat.gcd i.natAbs n = 1 then some (.int i) else none
  | _ => none
end
end K2

set_option Elab.async false
set_option linter.all false
set_option maxRecDepth 100000
set_option maxHeartbeats 4000000
/-! Words that lacked: the sum of a tuple, a tuple once, the list of a range with a step. -/
namespace Gd
open PySem PySem.Spec PyProof.Rows L2
section
variable {prog : Program} {w : World} {A : Around} {E : Value → Shared → Prop} {s : Shared} {l : Addr} {xs : Array (Int × Tok)}
theorem sum_tupG {Q : Value → Shared → Prop} (hh : A.handled = none) (hl : s.heap.IsTuple l (intItems xs)) (hlt : l < s.heap.objs.size)
    (h : ∀ h' tk t', (∀ b o, s.heap.get? b = some o → h'.get? b = some o) → Q (.int (preSum (numAt xs) xs.size) t') { s with heap := h', toks := tk }) :
    wpAny (model prog w) A (call (.builtin "sum") [.ref l]) Q E s := by
  refine call_sum_walkG (wpAny_pyIter_tuple hl ?_)
  refine ⟨_, [_, l], [_], _, _, _, numAt xs, rfl, Walks.tuple (A := A.in1) hh _ l (Nat.ne_of_lt hlt) (intItems xs), ⟨⟨_, Heap.get?_push_size _ rfl, rfl, rfl⟩, hl.push _⟩, fun c hc => ?_, (fun _ _ => intItems_at), fun h' tk t' hk => ?_⟩
  · show c < (s.heap.push _).objs.size
    rw [Heap.size_push]
    rcases List.mem_cons.mp hc with rfl | hc
    · exact Nat.lt_succ_self _
    · rcases List.mem_cons.mp hc with rfl | hc
      · exact Nat.lt_succ_of_lt hlt
      · cases hc
  · have hold : ∀ c o, s.heap.get? c = some o → h'.get? c = some o := fun c o e => by
      refine hk c o (fun hm => ?_) (Heap.get?_push_of_some _ e)
      rcases List.mem_cons.mp hm with e1 | hm
      · have := Heap.lt_size e; rw [e1] at this; exact Nat.lt_irrefl _ this
      · cases hm
    have := h h' tk t' hold
    simpa [intItems] using this
end
section
variable {X : Cx}
/-- sum(xs) of a tuple of ints -/
def rSumT (K : PySem.W.Frag) : List V → Hp → VK → Prop := fun vs H Q => ∃ (a : Addr) (ns : List Int), vs = [V.ref a] ∧ SqT K H a (ns.map V.int) ∧ Q (.int ns.sum) H
theorem cr_sumT (hc : X.calm = true) : CallR X (.builtin "sum") (rSumT X.K) := by
  intro pins s σ H vs us Q I r h
  obtain ⟨a, ns, rfl, hs, q⟩ := h
  obtain ⟨its, rv, hl, _⟩ := I.tuple hs
  rw [Vals.ref1 r]
  have hi := rv.ints
  obtain ⟨xs, e⟩ := hi.allInts.items
  have hn : numsOf (intItems xs).toList = ns := by rw [← e]; exact hi.numsOf
  rw [nums_intItems] at hn
  have hlt : a < s.heap.objs.size := by
    obtain ⟨o, ho, _⟩ := hl
    exact Heap.lt_size ho
  rw [e] at hl
  refine sum_tupG (I.ok.hd hc) hl hlt fun h' tk t' hk => ?_
  rw [preSum_eq, List.take_of_length_le (by simp), hn]
  exact ⟨.int _, H, I.kept hk, ⟨_, rfl⟩, q⟩
theorem tuple_mul1 (l : Addr) (items : Array Value) (n : Nat) (dd : Option Addr) (sl : Array (Option Value)) (u : Tok) :
    Meets (Builtin.«tuple.__mul__» ⟨[.ref l, .int 1 u], []⟩) (fun _ R s => s.heap.get? l = some { cls := .type "tuple", dict := dd, data := .seq items n, slots := sl } ∧
      R (.ok (.ret (Value.ref l))) s) :=
  .of_wp fun prog w A R s h => by
    obtain ⟨hp, g, d, tk, os⟩ := s
    obtain ⟨hl, h⟩ := h
    have f1 := AutoSeq1.idx_int
    have c0 : (decide ((1 : Int) < -(2 ^ 63)) || decide ((1 : Int) ≥ 2 ^ 63)) = false := by decide
    have c1 : (items.isEmpty || (1 : Int) == 1) = true := by rw [Bool.or_comm]; rfl
    wp_walk using wpAny_loadPart' hl
    repeat (first
      | (refine wpAny_ite_false (decide_eq_false (by rw [c0]; exact Bool.false_ne_true)) ?_; wp_walk using wpAny_loadPart' hl)
      | (refine wpAny_ite_true (decide_eq_true (by rw [c1])) ?_; wp_walk using wpAny_loadPart' hl))
    exact ⟨_, rfl, h⟩
/-- tuple * k, k at least 1, of a tuple that is followed -/
def rRepP : R2 := fun x y H Q => ∃ l k xs, x = .ref l ∧ y = .int k ∧ H l = some (.tup xs) ∧ xs ≠ [] ∧ 1 ≤ k ∧ k ≤ 1000 ∧ xs.length ≤ 1000 ∧ ∀ p H', Same H H' → H' p = some (.tup (List.replicate k.toNat xs).flatten) → Q (.ref p) H'
theorem op_repP : OpR X (binaryOp .Mult) rRepP := by
  intro pins s σ H x y v u Q I rx ry h
  obtain ⟨l, k, xs, rfl, rfl, hT, hne, h1, h2, hz, q⟩ := h
  by_cases hk : k = 1
  · subst hk
    cases rx
    obtain ⟨t, rfl⟩ := ry
    obtain ⟨its, r, ⟨⟨cls, dd, data, sl⟩, ho, hc, n, hd⟩, hs⟩ := I.tuple (.inl (.inl hT))
    simp only at hc hd
    subst hc hd
    refine wpAny_binaryOp_repeat_ref (T := "tuple") (U := "int") (by decide) ⟨_, ho, rfl⟩ (fun s' => typeIs_int s' 1 t) noFill_tuple_mul F.fills_int_mul F.slot_int_rmul repeat_tuple F.slot_int_index.lookup
      (call_meets F.slot_int_rmul (typeIs_int s 1 t) F.entry_int_rmul (F.args_int_rmul_2 _ _) (int_rmul_tuple 1 t l its.toArray n dd sl)
        ⟨ho, rfl, ⟨_, ho, rfl⟩, call_meets F.slot_tuple_mul ⟨_, ho, rfl⟩ F.entry_tuple_mul (F.args_tuple_mul_2 _ _) (tuple_mul1 l its.toArray n dd sl t) ⟨ho, ?_⟩⟩)
    refine ⟨.ref l, H, I, rfl, q _ _ (Same.refl _) ?_⟩
    rw [hT]
    show _ = some (HO.tup (List.replicate 1 xs).flatten)
    rw [List.replicate_one, List.flatten_singleton]
  · exact op_repT pins s σ H _ _ v u Q I rx ry ⟨l, k, xs, rfl, rfl, .inl (.inl hT), hne, by omega, h2, hz, fun p hp => q p _ (same_new hp) upd_same⟩
/-- list(range(a, b, c)) -/
def tLstRg3 (ta : TA) : TE := fun σ H Q => ta σ H fun vs H1 => ∃ (i j c : Int) (n : Nat), vs = [.int i, .int j, .int c] ∧ RgC i j c n ∧ n ≤ 16777216 ∧ ∀ q, H1 q = none → Q (.ref q) (upd H1 q (.lst ((List.range n).map fun k => V.int (i + (k : Nat) * c))))
theorem vals_rg3 {a c : Int} {n : Nat} {acc : Array Value} (h : ItemsOf (fun i v => ∃ t, v = .int (a + i * c) t) acc n) : Vals ((List.range n).map fun k => V.int (a + (k : Nat) * c)) acc.toList := by
  have e : acc.toList.length = n := by rw [Array.length_toList]; exact h.1
  rw [← e]
  refine vals_of_get acc.toList _ fun j u hj => ?_
  obtain ⟨t, rfl⟩ := h.2 j u (by rw [← hj, Array.getElem?_toList])
  exact ⟨t, rfl⟩
theorem pe_listRg3 {a b c : Expr} {ta : TA} {p pos p2 pos2 : Pos} (hc : X.calm = true) (hg : Gl X "list") (hm : X.mg "list" = none) (hg2 : Gl X "range") (hm2 : X.mg "range" = none) (ha : PA X [a, b, c] ta)
    (hs : starEach [a, b, c] X.env = (false, eval a X.env) :: starEach [b, c] X.env := by rfl) (hpl : (backTo pos2 (starEach [b, c] X.env)).any (·.1) = false := by rfl)
    (na : starEach [Expr.Call (.Name "range" p2) [a, b, c] [] pos2] X.env = (false, eval (Expr.Call (.Name "range" p2) [a, b, c] [] pos2) X.env) :: starEach [] X.env := by rfl) :
    PE X (.Call (.Name "list" p) [.Call (.Name "range" p2) [a, b, c] [] pos2] [] pos) (tLstRg3 ta) := by
  refine ⟨fun pins s σ H Q I h => ?_⟩
  refine Call_ (ld_blt I hg hm boot_list (PyProof.Rows.callWith_type1 (args_cons (Call_ (ld_blt I hg2 hm2 boot_range (PyProof.Rows.callWith_type1 (thn (ha.run pos2 pins s σ H _ I h) fun us s1 ⟨vs, H1, I1, r1, q1⟩ => ?_) hs hpl))) na) na))
  obtain ⟨i, j, k, n, e, ⟨c0, c1, c2, c3⟩, hn, q⟩ := q1
  subst e
  cases r1 with
  | cons r rr =>
    cases rr with
    | cons r' rr =>
      cases rr with
      | cons r'' rr =>
        cases rr
        obtain ⟨t, rfl⟩ := r
        obtain ⟨t', rfl⟩ := r'
        obtain ⟨t'', rfl⟩ := r''
        refine call_range_3 c0 ?_ (.inl (PyProof.noPylong_small c1))
        refine args_nil ?_
        have I2 : Inv X pins σ H1 { s1 with heap := s1.heap.push { cls := .type "range", data := .fields #[.int i t, .int j t', .int k t''] } } := I1.kept (t' := s1.toks) fun b o e => Heap.get?_push_of_some _ e
        refine call_list_range (n := n) (I2.ok.hd hc) (IsRange.new _ _ _ _ _ _ _) c2 c3 (by omega) fun h' tk acc c' hk e' hi => ?_
        refine ⟨.ref _, upd H1 _ (.lst ((List.range n).map fun m => V.int (i + (m : Nat) * k))), I2.laid hk (Nat.le_refl _) (show ObjOk X.prog X.w _ _ _ (.lst _) from ⟨?_, acc.toList, c', vals_rg3 hi, ?_⟩), rfl, q _ (I2.hok.fresh (Nat.le_refl _))⟩
        · rw [List.length_map, List.length_range, sizeLine_eq]; omega
        · rw [Array.toArray_toList]; exact e'
end
end Gd

set_option Elab.async false
set_option linter.all false
set_option maxRecDepth 100000
/-! repr of lists and tuples of whole numbers below ten to the 4300, where the digits' limit stands as it was. -/
namespace Gd
open PySem PySem.Spec PyProof.Rows L2
section
variable {prog : Program} {w : World} {h₀ : Heap}
/-- text of one whole number -/
theorem call_wide {A : Around} {E : Value → Shared → Prop} {s : Shared} {i : Int} {t : Tok} {Q : Value → Shared → Prop} (hn : s.heap.NoDigits) (hi : i.natAbs < 10 ^ 4300)
    (q : Q (.str (toString i) s.toks) { s with toks := s.toks + 1 }) : wpAny (model prog w) A (call (.builtin "int.__repr__") [.int i t]) Q E s := by
  refine wpAny_call_entry F.slot_int_repr (typeIs_int s i t) F.entry_int_repr ?_ (F.args_int_repr_1 _)
  show wpAny _ _ (do
    let r ← Builtin.overDigitLimit? i
    _) _ _ s
  exact wpAny_bind (overDigitLimit_any hn (fun z => wpAny_bind (wpAny_mkStr (wpAny_pure ⟨_, rfl, q⟩) (int_text_fits10 z))) fun z => absurd hi (Nat.not_lt.mpr z))
theorem rk_int (hN : h₀.NoDigits) {i : Int} (t : Tok) (hi : i.natAbs < 10 ^ 4300) (as : List Addr) (d : Nat) : ReprK prog w as h₀ d (.int i t) (toString i) := by
  intro base hb A g E s Q _ _ hu hk hQ
  have hb' : base ≤ sizeLine := Nat.le_trans (Nat.le_add_right _ _) hb
  rw [pyReprUnder_leaf (v := .int i t) hb' (fun _ e => nomatch e)]
  unfold pyRepr
  refine wpAny_bind (wpAny_pyReprObj_slot (by omega) (typeIs_int s i t) F.slot_int_repr.toG (call_wide (hN.keeps hk) hi ?_))
  exact ⟨_, _, rfl, wpAny_pure (hQ s.heap _ fun _ _ e => e)⟩
end
mutual
/-- whole numbers below the limit, lists and tuples of such -/
def wideB : PyData → Bool
  | .int i => decide (i.natAbs < 10 ^ 4300)
  | .list xs => wideAll xs
  | .tuple xs => wideAll xs
  | .bool _ => true
  | .none => true
  | _ => false
def wideAll : List PyData → Bool
  | [] => true
  | x :: xs => wideB x && wideAll xs
end
section
variable {prog : Program} {w : World} {h₀ : Heap}
mutual
theorem rk_of (hN : h₀.NoDigits) : ∀ (d : PyData) {v : Value} {as : List Addr}, wideB d = true → Reads h₀ v d as → d.shown.length ≤ sizeLine → ∃ bs, ReadAtMost h₀ d.depth bs ∧ ReprK prog w bs h₀ d.depth v d.shown
  | .none, _, _, _, r, _ => by
    cases r
    refine ⟨[], fun b z => (List.not_mem_nil z).elim, ?_⟩
    simp only [PyData.shown]
    exact .of_is ReprIs.none _ _ _
  | .bool b, _, _, _, r, _ => by
    cases r
    refine ⟨[], fun b z => (List.not_mem_nil z).elim, ?_⟩
    simp only [PyData.shown]
    exact .of_is (ReprIs.bool b) _ _ _
  | .int i, _, _, hw, r, _ => by
    cases r with
    | int i t =>
      refine ⟨[], fun b z => (List.not_mem_nil z).elim, ?_⟩
      simp only [PyData.shown]
      exact rk_int hN t (by simpa [wideB] using hw) _ _
  | .str _, _, _, hw, _, _ => by simp [wideB] at hw
  | .dict _, _, _, hw, _, _ => by simp [wideB] at hw
  | .list xs, _, _, hw, r, hz => by
    have hz1 : (listText (PyData.shownAll xs)).length ≤ sizeLine := by simpa only [PyData.shown] using hz
    have r0 := r
    cases r with
    | list h1 h2 h3 h4 =>
      obtain ⟨bs, hb, hk⟩ := rkAll hN xs (by simpa [wideB] using hw) h4 fun t z => Nat.le_trans (listText_mem_le z) hz1
      have fresh := not_mem_of_deeper r0 (by simp only [PyData.depth]; omega) hb
      refine ⟨_, ReadAtMost.cons r0 (by simp only [PyData.depth]; omega) hb, ?_⟩
      simp only [PyData.depth, PyData.shown]
      rename_i o vs n la
      obtain ⟨l⟩ := vs
      cases l with
      | nil =>
        have e : xs = [] := by
          cases xs with
          | nil => rfl
          | cons x xs =>
            have z : ReadsAll h₀ [] (x :: xs) _ := h4
            cases z
        subst e
        simp only [PyData.shownAll, listText_nil]
        exact .listEmpty h1 h2 h3
      | cons x l =>
        have hl := hk.length_eq
        exact .list h1 h2 h3 fresh (by rw [hl]; simp) fun i y e => hk.item i y (by rw [← e]; simp)
  | .tuple xs, _, _, hw, r, hz => by
    have hz1 : (tupleText (PyData.shownAll xs)).length ≤ sizeLine := by simpa only [PyData.shown] using hz
    have r0 := r
    cases r with
    | tuple h1 h2 h3 h4 =>
      obtain ⟨bs, hb, hk⟩ := rkAll hN xs (by simpa [wideB] using hw) h4 fun t z => Nat.le_trans (tupleText_mem_le z) hz1
      have fresh := not_mem_of_deeper r0 (by simp only [PyData.depth]; omega) hb
      refine ⟨_, ReadAtMost.cons r0 (by simp only [PyData.depth]; omega) hb, ?_⟩
      simp only [PyData.depth, PyData.shown]
      exact .tuple h1 h2 h3 fresh hk
theorem rkAll (hN : h₀.NoDigits) : ∀ (ds : List PyData) {vs : List Value} {as : List Addr}, wideAll ds = true → ReadsAll h₀ vs ds as → (∀ t ∈ PyData.shownAll ds, t.length ≤ sizeLine) →
    ∃ bs, ReadAtMost h₀ (PyData.depthAll ds) bs ∧ ReprAllK prog w bs h₀ (PyData.depthAll ds) vs (PyData.shownAll ds)
  | [], _, _, _, r, _ => by
    cases r
    refine ⟨[], fun b z => (List.not_mem_nil z).elim, ?_⟩
    simp only [PyData.shownAll]
    exact .nil
  | d :: ds, _, _, hw, r, hz => by
    have hw2 : wideB d = true ∧ wideAll ds = true := by simpa [wideAll] using hw
    simp only [PyData.shownAll] at hz
    cases r with
    | cons r1 r2 =>
      obtain ⟨b1, m1, k1⟩ := rk_of hN d hw2.1 r1 (hz _ List.mem_cons_self)
      obtain ⟨b2, m2, k2⟩ := rkAll hN ds hw2.2 r2 fun t z => hz t (List.mem_cons_of_mem _ z)
      simp only [PyData.depthAll, PyData.shownAll]
      refine ⟨b1 ++ b2, (m1.mono (Nat.le_max_left _ _)).append (m2.mono (Nat.le_max_right _ _)), .cons ?_ ?_⟩
      · exact (k1.more fun b z => List.mem_append_left _ z).level_le (Nat.le_max_left _ _)
      · exact k2.more_le (fun b z => List.mem_append_right _ z) (Nat.le_max_right _ _)
end
end
section
variable {X : Cx} {k : Nat}
/-- repr of a list that isn't empty, of wide data -/
def rReprW (K : PySem.W.Frag) : List V → Hp → VK → Prop := fun xs H Q => ∃ (a : Addr) (d : PyData) (ds : List PyData), xs = [.ref a] ∧ Dp K H (.ref a) (.list (d :: ds)) ∧ wideAll (d :: ds) = true ∧ (PyData.list (d :: ds)).depth ≤ 20 ∧
  (PyData.list (d :: ds)).shown.length ≤ sizeLine ∧ Q (.str (PyData.list (d :: ds)).shown) H
theorem call_reprW (hr : Room k X.A) (hG : X.A.guards = some []) (hN : X.base.NoDigits) : CallR X (.builtin "repr") (rReprW X.K) := by
  intro pins s σ H xs us Q I r h
  obtain ⟨a, d, ds, rfl, hd, hw, hdep, hz, q⟩ := h
  obtain ⟨u, rfl, ru⟩ := vals1 r
  cases ru
  obtain ⟨as, r0⟩ := Dp.reads I _ (.ref a) (.ref a) hd rfl
  have hN2 : s.heap.NoDigits := hN.keeps fun b o e => (I.env0.bs b o e).1
  have hz1 : (listText (PyData.shownAll (d :: ds))).length ≤ sizeLine := by simpa only [PyData.shown] using hz
  have hu := hr.units
  cases r0 with
  | list h1 h2 h3 h4 =>
    obtain ⟨bs, hb, hk⟩ := rkAll (prog := X.prog) (w := X.w) hN2 (d :: ds) hw h4 fun t z => Nat.le_trans (listText_mem_le z) hz1
    have fresh : a ∉ bs := not_mem_of_deeper (.list h1 h2 h3 h4) (by simp only [PyData.depth]; omega) hb
    rename_i o vs n la
    obtain ⟨l⟩ := vs
    simp only [PyData.depth] at hdep
    cases l with
    | nil =>
      have z : ReadsAll s.heap [] (d :: ds) _ := h4
      cases z
    | cons x l =>
      have hl := hk.length_eq
      refine call_repr_slot (T := "list") (idr := "list.__repr__") (by omega) ⟨o, h1, h2⟩ F.slot_list_repr.toG ?_
      refine call_list_reprK h1 h2 h3 fresh (by rw [hl]; simp) (fun i y e => hk.item i y (by rw [← e]; simp)) hG (fun b _ => Clear.nil b) (by show X.A.units + 1 + _ < cLine; omega) (fun _ _ e => e) (fun h' u tk hk2 => ?_) hz1
      refine ⟨_, _, rfl, .str _, H, I.kept hk2, ⟨u, ?_⟩, q⟩
      simp only [PyData.shown]
end
end Gd

/-! Sums over a window of whole numbers, lists as periodic functions, products on a clock. Pure mathematics. -/
namespace Pv
def S : Nat → (Int → Int) → Int
  | 0, _ => 0
  | n + 1, F => S n F + F n
theorem S_congr {n : Nat} {F G : Int → Int} (h : ∀ j : Nat, j < n → F j = G j) : S n F = S n G := by
  induction n with
  | zero => rfl
  | succ n ih =>
    show S n F + F n = S n G + G n
    rw [ih fun j hj => h j (Nat.lt_succ_of_lt hj), h n (Nat.lt_succ_self n)]
theorem S_add (n : Nat) (F G : Int → Int) : S n (fun j => F j + G j) = S n F + S n G := by
  induction n with
  | zero => rfl
  | succ n ih =>
    show S n (fun j => F j + G j) + (F n + G n) = S n F + F n + (S n G + G n)
    rw [ih]
    omega
theorem S_zero (n : Nat) : S n (fun _ => 0) = 0 := by
  induction n with
  | zero => rfl
  | succ n ih =>
    show S n (fun _ => 0) + 0 = 0
    rw [ih]
    rfl
theorem S_mulL (n : Nat) (c : Int) (F : Int → Int) : S n (fun j => c * F j) = c * S n F := by
  induction n with
  | zero => exact (Int.mul_zero c).symm
  | succ n ih =>
    show S n (fun j => c * F j) + c * F n = c * (S n F + F n)
    rw [ih, Int.mul_add]
theorem S_mulR (n : Nat) (c : Int) (F : Int → Int) : S n (fun j => F j * c) = S n F * c := by
  induction n with
  | zero => exact (Int.zero_mul c).symm
  | succ n ih =>
    show S n (fun j => F j * c) + F n * c = (S n F + F n) * c
    rw [ih, Int.add_mul]
theorem S_swap (m n : Nat) (F : Int → Int → Int) : S m (fun i => S n (fun j => F i j)) = S n (fun j => S m (fun i => F i j)) := by
  induction m with
  | zero => exact (S_zero n).symm
  | succ m ih =>
    show S m (fun i => S n (fun j => F i j)) + S n (fun j => F m j) = S n (fun j => S m (fun i => F i j) + F m j)
    rw [ih, S_add]
theorem S_front (n : Nat) (F : Int → Int) : S (n + 1) F = F 0 + S n (fun j => F (j + 1)) := by
  induction n with
  | zero =>
    show 0 + F 0 = F 0 + 0
    omega
  | succ n ih =>
    show S (n + 1) F + F ((n + 1 : Nat) : Int) = F 0 + (S n (fun j => F (j + 1)) + F ((n : Int) + 1))
    rw [ih, Int.natCast_add]
    show F 0 + S n (fun j => F (j + 1)) + F ((n : Int) + 1) = _
    omega
def Per (n : Nat) (F : Int → Int) : Prop := ∀ i : Int, F (i + n) = F i
theorem S_shift1 {n : Nat} {F : Int → Int} (h : Per n F) : S n (fun j => F (j + 1)) = S n F := by
  have h1 := S_front n F
  have h2 : S (n + 1) F = S n F + F n := rfl
  have h3 := h 0
  rw [Int.zero_add] at h3
  omega
theorem Per.shift {n : Nat} {F : Int → Int} (h : Per n F) (c : Int) : Per n (fun j => F (j + c)) := fun i => by
  show F (i + n + c) = F (i + c)
  rw [show i + n + c = i + c + n by omega]
  exact h _
theorem Per.neg {n : Nat} {F : Int → Int} (h : Per n F) : Per n (fun j => F (-j)) := fun i => by
  show F (-(i + n)) = F (-i)
  rw [← h (-(i + n))]
  congr 1
  omega
theorem Per.mul {n : Nat} {F G : Int → Int} (h : Per n F) (g : Per n G) : Per n (fun j => F j * G j) := fun i => by
  show F (i + n) * G (i + n) = F i * G i
  rw [h i, g i]
theorem Per.add {n : Nat} {F G : Int → Int} (h : Per n F) (g : Per n G) : Per n (fun j => F j + G j) := fun i => by
  show F (i + n) + G (i + n) = F i + G i
  rw [h i, g i]
theorem Per.sub {n : Nat} {F : Int → Int} (h : Per n F) (b : Int) : Per n (fun j => F (b - j)) := by
  have := (h.shift b).neg
  intro i
  have e := this i
  show F (b - (i + n)) = F (b - i)
  rw [show b - (i + (n : Int)) = -(i + n) + b by omega, show b - i = -i + b by omega]
  exact e
theorem S_shiftN {n : Nat} {F : Int → Int} (h : Per n F) (c : Nat) : S n (fun j => F (j + c)) = S n F := by
  induction c with
  | zero => exact S_congr fun j _ => congrArg F (Int.add_zero _)
  | succ c ih =>
    rw [← ih, ← S_shift1 (h.shift c)]
    refine S_congr fun j _ => congrArg F ?_
    omega
theorem S_shift {n : Nat} {F : Int → Int} (h : Per n F) (c : Int) : S n (fun j => F (j + c)) = S n F := by
  rcases Int.le_total 0 c with hc | hc
  · have e := S_shiftN h c.toNat
    rw [Int.toNat_of_nonneg hc] at e
    exact e
  · have e := S_shiftN (h.shift c) (-c).toNat
    rw [Int.toNat_of_nonneg (by omega)] at e
    rw [← e]
    refine S_congr fun j _ => congrArg F ?_
    omega
theorem S_rev (n : Nat) (F : Int → Int) : S n (fun j => F ((n : Int) - 1 - j)) = S n F := by
  induction n generalizing F with
  | zero => rfl
  | succ n ih =>
    rw [S_front]
    have e : S n (fun j => F (((n + 1 : Nat) : Int) - 1 - (j + 1))) = S n F := by
      rw [← ih F]
      refine S_congr fun j _ => congrArg F ?_
      omega
    rw [e]
    show F _ + S n F = S n F + F n
    rw [show (((n + 1 : Nat) : Int) - 1 - 0) = (n : Int) by omega]
    omega
theorem S_neg {n : Nat} {F : Int → Int} (h : Per n F) : S n (fun j => F (-j)) = S n F := by
  rw [← S_rev n F, ← S_shift h.neg (-((n : Int) - 1))]
  refine S_congr fun j _ => congrArg F ?_
  omega
/-- the sum runs backwards from b -/
theorem S_back {n : Nat} {F : Int → Int} (h : Per n F) (b : Int) : S n (fun j => F (b - j)) = S n F := by
  rw [← S_shift h b, ← S_neg (h.shift b)]
  refine S_congr fun j _ => congrArg F ?_
  omega
/-! ### the product on a clock -/
def conv (n : Nat) (F G : Int → Int) : Int → Int := fun b => S n fun j => F j * G (b - j)
theorem per_conv {n : Nat} {F G : Int → Int} (g : Per n G) : Per n (conv n F G) := fun i => by
  refine S_congr fun j _ => ?_
  rw [show i + (n : Int) - (j : Int) = i - j + n by omega, g]
theorem conv_congr {n : Nat} {F F' G G' : Int → Int} (h : ∀ i, F i = F' i) (g : ∀ i, G i = G' i) (b : Int) : conv n F G b = conv n F' G' b :=
  S_congr fun j _ => by rw [h, g]
theorem conv_comm {n : Nat} {F G : Int → Int} (h : Per n F) (g : Per n G) (b : Int) : conv n F G b = conv n G F b := by
  have hp : Per n fun j => F j * G (b - j) := h.mul (g.sub b)
  unfold conv
  rw [← S_back hp b]
  refine S_congr fun j _ => ?_
  rw [show b - (b - (j : Int)) = j by omega, Int.mul_comm]
theorem conv_assoc {n : Nat} {F G H : Int → Int} (g : Per n G) (h : Per n H) (b : Int) : conv n (conv n F G) H b = conv n F (conv n G H) b := by
  unfold conv
  have e1 : S n (fun j => S n (fun i => F i * G (j - i)) * H (b - j)) = S n (fun j => S n (fun i => F i * G (j - i) * H (b - j))) :=
    S_congr fun j _ => (S_mulR n _ _).symm
  rw [e1, S_swap n n fun j i => F i * G (j - i) * H (b - j)]
  refine S_congr fun i _ => ?_
  have hp : Per n fun j => G (j - i) * H (b - j) := by
    have := (g.shift (-(i : Int))).mul (h.sub b)
    intro k
    have e := this k
    show G (k + n - i) * H (b - (k + n)) = G (k - i) * H (b - k)
    rw [show k + (n : Int) - (i : Int) = k + n + -i by omega, show k - (i : Int) = k + -i by omega]
    exact e
  have e2 : S n (fun j => F i * G (j - i) * H (b - j)) = F i * S n (fun j => G (j - i) * H (b - j)) := by
    rw [← S_mulL]
    exact S_congr fun j _ => Int.mul_assoc _ _ _
  rw [e2, ← S_shift hp i]
  congr 1
  refine S_congr fun j _ => ?_
  rw [show (j : Int) + i - i = j by omega, show b - ((j : Int) + i) = b - i - j by omega]
theorem conv_add {n : Nat} {F G H : Int → Int} (b : Int) : conv n F (fun i => G i + H i) b = conv n F G b + conv n F H b := by
  unfold conv
  rw [← S_add]
  exact S_congr fun j _ => Int.mul_add _ _ _
theorem conv_turn {n : Nat} {F G : Int → Int} (h : Per n F) (g : Per n G) (k b : Int) : conv n (fun i => F (i - k)) G b = conv n F G (b - k) := by
  have hp : Per n fun j => F (j - k) * G (b - j) := by
    have := (h.shift (-k)).mul (g.sub b)
    intro i
    have e := this i
    show F (i + n - k) * G (b - (i + n)) = F (i - k) * G (b - i)
    rw [show i + (n : Int) - k = i + n + -k by omega, show i - k = i + -k by omega]
    exact e
  unfold conv
  rw [← S_shift hp k]
  refine S_congr fun j _ => ?_
  rw [show (j : Int) + k - k = j by omega, show b - ((j : Int) + k) = b - k - j by omega]
theorem conv_mirror {n : Nat} {F G : Int → Int} (h : Per n F) (g : Per n G) (b : Int) : conv n (fun i => F (-i)) (fun i => G (-i)) b = conv n F G (-b) := by
  unfold conv
  have hp : Per n fun j => F j * G (-b - j) := h.mul (g.sub (-b))
  rw [← S_neg hp]
  refine S_congr fun j _ => ?_
  show F (-(j : Int)) * G (-(b - j)) = F (-(j : Int)) * G (-b - -(j : Int))
  rw [show -(b - (j : Int)) = -b - -j by omega]
theorem conv_total {n : Nat} {F G : Int → Int} (g : Per n G) : S n (conv n F G) = S n F * S n G := by
  unfold conv
  rw [S_swap n n fun b j => F j * G (b - j), ← S_mulR]
  refine S_congr fun j _ => ?_
  rw [S_mulL, ← S_shift g (-(j : Int))]
  congr 1
theorem S_one {n : Nat} {s : Nat} (f : Int → Int) (hs : s < n) : S n (fun j => (if j = (s : Int) then 1 else 0) * f j) = f s := by
  induction n with
  | zero => omega
  | succ n ih =>
    show S n (fun j => (if j = (s : Int) then 1 else 0) * f j) + (if (n : Int) = (s : Int) then 1 else 0) * f n = f s
    by_cases e : s = n
    · subst e
      rw [if_pos rfl, Int.one_mul]
      have : S s (fun j => (if j = (s : Int) then 1 else 0) * f j) = 0 := by
        refine (S_congr fun j hj => ?_).trans (S_zero s)
        show (if (j : Int) = (s : Int) then 1 else 0) * f j = 0
        rw [if_neg (by omega), Int.zero_mul]
      rw [this, Int.zero_add]
    · rw [if_neg (by omega), Int.zero_mul, Int.add_zero]
      exact ih (by omega)
theorem conv_one {n : Nat} {F : Int → Int} (s : Nat) (hs : s < n) (h : Per n F) {D : Int → Int} (hD : ∀ j : Nat, j < n → D j = if j = s then 1 else 0) (d : Per n D) (b : Int) : conv n F D b = F (b - s) := by
  rw [conv_comm h d]
  unfold conv
  rw [← S_one (fun j => F (b - j)) hs]
  refine S_congr fun j hj => ?_
  rw [hD j hj]
  by_cases e : j = s
  · rw [if_pos e, if_pos (by omega)]
  · rw [if_neg e, if_neg (by omega)]
theorem conv_ones {n : Nat} {F : Int → Int} (b : Int) : conv n F (fun _ => 1) b = S n F := S_congr fun _ _ => Int.mul_one _
/-! ### lists -/
def per (xs : List Int) : Int → Int := fun i => xs.getD (i % (xs.length : Int)).toNat 0
def of (n : Nat) (F : Int → Int) : List Int := (List.range n).map fun j => F (j : Nat)
theorem of_len (n : Nat) (F : Int → Int) : (of n F).length = n := by unfold of; rw [List.length_map, List.length_range]
theorem of_get {n : Nat} {F : Int → Int} {j : Nat} (h : j < n) : (of n F)[j]? = some (F j) := by
  unfold of
  rw [List.getElem?_map, List.getElem?_range h]
  rfl
theorem of_congr {n : Nat} {F G : Int → Int} (h : ∀ j : Nat, j < n → F j = G j) : of n F = of n G := by
  unfold of
  exact List.map_congr_left fun j hj => h j (List.mem_range.mp hj)
theorem per_per (xs : List Int) : Per xs.length (per xs) := fun i => by
  unfold per
  rw [Int.add_emod_right]
theorem per_get {xs : List Int} {j : Nat} (h : j < xs.length) : per xs j = xs[j] := by
  unfold per
  rw [Int.emod_eq_of_lt (by omega) (by omega), Int.toNat_natCast, List.getD_eq_getElem?_getD, List.getElem?_eq_getElem h]
  rfl
theorem of_per (xs : List Int) : of xs.length (per xs) = xs := by
  refine List.ext_getElem (of_len _ _) fun j h1 h2 => ?_
  have e := of_get (F := per xs) h2
  rw [List.getElem?_eq_getElem h1] at e
  rw [Option.some.inj e, per_get h2]
theorem Per.mod {n : Nat} {F : Int → Int} (h : Per n F) (hn : 0 < n) (i : Int) : F (i % n) = F i := by
  have up : ∀ (k : Nat) (i : Int), F (i + n * k) = F i := by
    intro k
    induction k with
    | zero =>
      intro i
      rw [show i + (n : Int) * ((0 : Nat) : Int) = i by simp]
    | succ k ih =>
      intro i
      rw [show i + (n : Int) * ((k + 1 : Nat) : Int) = i + n * k + n by rw [Int.natCast_add, Int.mul_add]; simp; omega, h, ih]
  have e := Int.emod_add_mul_ediv i n
  rcases Int.le_total 0 (i / n) with hc | hc
  · have := up (i / n).toNat (i % n)
    rw [Int.toNat_of_nonneg hc, e] at this
    exact this.symm
  · have := up (-(i / n)).toNat i
    rw [Int.toNat_of_nonneg (by omega)] at this
    rw [← this]
    congr 1
    rw [Int.mul_neg]
    omega
theorem per_of {n : Nat} {F : Int → Int} (h : Per n F) (hn : 0 < n) (i : Int) : per (of n F) i = F i := by
  unfold per
  rw [of_len]
  have h1 := Int.emod_nonneg i (show (n : Int) ≠ 0 by omega)
  have h2 := Int.emod_lt_of_pos i (show (0 : Int) < n by omega)
  rw [List.getD_eq_getElem?_getD, of_get (show (i % (n : Int)).toNat < n by omega), Int.toNat_of_nonneg h1]
  exact h.mod hn i
theorem of_eq {n : Nat} {F : Int → Int} {xs : List Int} (hl : xs.length = n) (h : ∀ j : Nat, j < n → per xs j = F j) : xs = of n F := by
  subst hl
  rw [← of_congr h, of_per]
/-! ### sizes -/
theorem S_abs {n : Nat} {F : Int → Int} {B : Nat} (h : ∀ j : Nat, j < n → (F j).natAbs ≤ B) : (S n F).natAbs ≤ n * B := by
  induction n with
  | zero => simp [S]
  | succ n ih =>
    have h1 := ih fun j hj => h j (Nat.lt_succ_of_lt hj)
    have h2 := h n (Nat.lt_succ_self n)
    show (S n F + F n).natAbs ≤ (n + 1) * B
    have h3 := Int.natAbs_add_le (S n F) (F n)
    rw [Nat.succ_mul]
    omega
theorem conv_abs {n : Nat} {F G : Int → Int} {B C : Nat} (h : ∀ i, (F i).natAbs ≤ B) (g : ∀ i, (G i).natAbs ≤ C) (b : Int) : (conv n F G b).natAbs ≤ n * (B * C) :=
  S_abs fun j _ => by
    rw [Int.natAbs_mul]
    exact Nat.mul_le_mul (h _) (g _)
theorem per_abs {xs : List Int} {B : Nat} (h : ∀ x ∈ xs, x.natAbs ≤ B) (i : Int) : (per xs i).natAbs ≤ B := by
  unfold per
  rw [List.getD_eq_getElem?_getD]
  cases e : xs[(i % (xs.length : Int)).toNat]? with
  | none => exact Nat.zero_le _
  | some x => exact h x (List.mem_of_getElem? e)
/-! ### adding up step by step: the beat at which k stands, j further -/
theorem beat_iff {n j k b : Nat} (hj : j < n) (hk : k < n) (hb : b < n) : ((b : Int) - j) % n = k ↔ b = (j + k) % n := by
  constructor
  · intro h
    have e := Int.emod_add_mul_ediv ((b : Int) - j) n
    rw [h] at e
    have e2 : ((j + k : Nat) : Int) = b + n * (-(((b : Int) - j) / n)) := by rw [Int.mul_neg]; omega
    have e3 : ((j + k : Nat) : Int) % n = b := by
      rw [e2, Int.add_mul_emod_self_left, Int.emod_eq_of_lt (by omega) (by omega)]
    have : (((j + k) % n : Nat) : Int) = b := by rw [Int.natCast_emod]; exact e3
    omega
  · intro h
    have h1 : ((j + k : Nat) : Int) % n = b := by rw [← Int.natCast_emod, h]
    have e := Int.emod_add_mul_ediv ((j + k : Nat) : Int) n
    rw [h1] at e
    have e2 : (b : Int) - j = k + n * (-(((j + k : Nat) : Int) / n)) := by rw [Int.mul_neg]; omega
    rw [e2, Int.add_mul_emod_self_left, Int.emod_eq_of_lt (by omega) (by omega)]
end Pv

set_option Elab.async false
set_option linter.all false
set_option maxRecDepth 100000
namespace K2
open PySem PySem.Spec PyProof.Rows L2 Gd Pv
/-- a tuple of whole numbers -/
def TAt (H : Hp) (a : Addr) (xs : List Int) : Prop := H a = some (.tup (xs.map V.int))
theorem TAt.same {H H' : Hp} {a : Addr} {xs : List Int} (s : Same H H') (h : TAt H a xs) : TAt H' a xs := s _ _ h
theorem TAt.sq {K : PySem.W.Frag} {H : Hp} {a : Addr} {xs : List Int} (h : TAt H a xs) : SqT K H a (xs.map V.int) := .inl (.inl h)
section
variable {P : Program} {w : World} {K : PySem.W.Frag} {mg : Str → Option Value} {base : Heap}
def spIsNum : Sp := fun vs H Q _ => ∃ i : Int, vs = [.int i] ∧ Q (.bl (decide (0 ≤ i))) H
/-- a voice: at least one weight -/
def spIsVoice : Sp := fun vs H Q _ => ∃ (a : Addr) (xs : List Int), vs = [.ref a] ∧ TAt H a xs ∧ 0 < xs.length ∧ xs.length ≤ 1000 ∧ ∀ H', Same H H' → Q (.bl true) H'
theorem c_is_voice (D : At K mg "is_voice" s_is_voice ["thing"]) (c_are_integers : Cal P w K mg base 2 "are_integers" (spAreInts K)) (z_len : mg "len" = none) : Cal P w K mg base 3 "is_voice" spIsVoice := by
  refine okC D sc_is_voice (fun vs H Q E h => ?_) (fun f cdv A outer s H vs Q E hr h => ?_)
  · obtain ⟨a, xs, rfl, _⟩ := h
    rfl
  · obtain ⟨a, xs, rfl, ha, h1, h2, q⟩ := h
    have nd := sc_is_voice.nd
    refine ⟨_, (pss_one (ps_ret (pe_and (pe_k c_are_integers hr (by decide) (by rfl) (pa_cons (pv 0) pa_nil)) (pe_one (pe_cmpR op_gt (pe_callB call_len_seq (by rfl) z_len PySem.boot_len (pa_cons (pv 0) pa_nil)) pe_int (nomark _)))))), ?_⟩
    refine ⟨_, rfl, a, xs, rfl, ha, h2, fun H1 s1 => ⟨true, rfl, iteT ⟨_, rfl, a, _, rfl, .inr (TAt.same s1 ha).sq, _, _, rfl, rfl, ?_⟩⟩⟩
    rw [List.length_map]
    show Q (.bl (decide ((0 : Int) < (xs.length : Nat)))) H1
    rw [decide_eq_true (by omega : (0 : Int) < (xs.length : Nat))]
    exact q H1 s1
def spIsVoiceOf : Sp := fun vs H Q _ => ∃ (a : Addr) (n : Nat) (xs : List Int), vs = [.int n, .ref a] ∧ TAt H a xs ∧ xs.length = n ∧ 0 < n ∧ n ≤ 1000 ∧ ∀ H', Same H H' → Q (.bl true) H'
theorem c_is_voice_of (D : At K mg "is_voice_of" s_is_voice_of ["size", "thing"]) (c_is_voice : Cal P w K mg base 3 "is_voice" spIsVoice) (z_len : mg "len" = none) : Cal P w K mg base 4 "is_voice_of" spIsVoiceOf := by
  refine okC D sc_is_voice_of (fun vs H Q E h => ?_) (fun f cdv A outer s H vs Q E hr h => ?_)
  · obtain ⟨a, n, xs, rfl, _⟩ := h
    rfl
  · obtain ⟨a, n, xs, rfl, ha, rfl, h1, h2, q⟩ := h
    have nd := sc_is_voice_of.nd
    refine ⟨_, (pss_one (ps_ret (pe_and (pe_k c_is_voice hr (by decide) (by rfl) (pa_cons (pv 1) pa_nil)) (pe_one (pe_cmpR op_eq (pe_callB call_len_seq (by rfl) z_len PySem.boot_len (pa_cons (pv 1) pa_nil)) (pv 0) (nomark _)))))), ?_⟩
    refine ⟨_, rfl, a, xs, rfl, ha, h1, h2, fun H1 s1 => ⟨true, rfl, iteT ⟨_, rfl, a, _, rfl, .inr (TAt.same s1 ha).sq, _, rfl, ?_⟩⟩⟩
    rw [List.length_map]
    refine ⟨rfl, ?_⟩
    rw [decide_eq_true rfl]
    exact q H1 s1
def spIsBeat : Sp := fun vs H Q _ => ∃ n b : Nat, vs = [.int n, .int b] ∧ b < n ∧ Q (.bl true) H
end
end K2

set_option Elab.async false
set_option linter.all false
set_option maxRecDepth 100000
set_option maxHeartbeats 4000000
/-! enumerate of a tuple. -/
namespace Gd
open PySem PySem.Spec PyProof.Rows L2
/-- the object that enumerate makes over the tuple's iterator at i -/
def enO (i : Addr) : Obj := { cls := .type "enumerate", data := .fields #[.none, .bool false, .ref i, rawInt 0, .none, .none] }
def tiO (l : Addr) : Obj := { cls := .type "tuple_iterator", data := .fields #[.ref l, .int 0 0] }
theorem meets_enT (l : Addr) (its : Array Value) :
    Meets (Builtin.«enumerate.__new__» ⟨[.type "enumerate", .ref l], []⟩) (fun _ R s => s.heap.IsTuple l its ∧
      R (.ok (.ret (.ref (s.heap.push (tiO l)).objs.size))) { s with heap := (s.heap.push (tiO l)).push (enO s.heap.objs.size) }) :=
  .of_wp fun prog w A R s h => by
    obtain ⟨hp, g, d, tk, os⟩ := s
    obtain ⟨hT, h⟩ := h
    have hsub := sub_enumerate
    obtain ⟨o, ho, hc, nd⟩ := hT
    have hT : Heap.IsTuple (Shared.heap ⟨hp, g, d, tk, os⟩) l its := ⟨o, ho, hc, nd⟩
    obtain ⟨c0, d0, t0, s0⟩ := o
    simp only at hc
    subst hc
    wp_walk using wpAny_loadPart' ho
    refine wpAny_stack_any fun z => wpAny_pure ?_
    split
    · rename_i y _ _ _ _ _
      cases (y == Value.type "enumerate") <;> (wp_walk using wpAny_loadPart' ho, wpAny_pyIter_tuple hT; exact ⟨_, rfl, h⟩)
    · wp_walk using wpAny_loadPart' ho, wpAny_pyIter_tuple hT
      exact ⟨_, rfl, h⟩
section
variable {prog : Program} {w : World} {A : Around} {E : Value → Shared → Prop} {s : Shared}
theorem call_enT {l : Addr} {its : Array Value} {Q : Value → Shared → Prop} (hT : s.heap.IsTuple l its)
    (h : IsEnum ((s.heap.push (tiO l)).push (enO s.heap.objs.size)) (s.heap.objs.size + 1) s.heap.objs.size 0 .none → Q (.ref (s.heap.objs.size + 1)) { s with heap := (s.heap.push (tiO l)).push (enO s.heap.objs.size) }) :
    wpAny (model prog w) A (call (.type "enumerate") [.ref l]) Q E s := by
  refine callType_new F.called_enumerate (by decide) (F.typeCall_enumerate_1 _) (F.newCall_enumerate_1 _) (fun z => F.args_object_init_2 z _) F.entry_enumerate_new (meets_enT l its) ⟨hT, ?_⟩
  have hz : (s.heap.push (tiO l)).objs.size = s.heap.objs.size + 1 := Heap.size_push ..
  show _ ∧ _
  rw [hz]
  have e : IsEnum ((s.heap.push (tiO l)).push (enO s.heap.objs.size)) (s.heap.objs.size + 1) s.heap.objs.size 0 .none := by
    have q := Heap.get?_push_size (s.heap.push (tiO l)) (o := enO s.heap.objs.size) rfl
    rw [hz] at q
    exact q
  exact ⟨⟨_, e, rfl⟩, h e⟩
end
/-- the tuple at a, each item with its number in a new pair -/
def IteT (K : PySem.W.Frag) (a : Addr) : It where
  go i H := ∃ xs : List V, SqT K H a xs ∧ i < xs.length
  yld i H v H' := ∃ T x, v = .ref T ∧ H T = none ∧ H' = upd H T (.tup [.int (i : Nat), x]) ∧ ∀ xs, SqT K H a xs → xs[i]? = some x
  stop i H := ∃ xs : List V, SqT K H a xs ∧ xs.length = i
/-- how it stands ahead of the turn i -/
structure EnT (a e j : Addr) (i : Nat) (h : Heap) : Prop where
  en : ∃ old, IsEnum h e j ((i : Nat) : Int) old
  it : h.IsTupleIter j a i
  ne : e ≠ j
  na : a ≠ j
theorem turn_enT {P : Program} {w : World} {K : PySem.W.Frag} {es : List Expr} {n : Nat} {pos : Pos} (a e j : Addr) : Turn P w K (.Tuple es n pos) (IteT K a) [e, j] e (EnT a e j) where
  mem := List.mem_cons_self
  obj i h st b hb := by
    obtain ⟨⟨old, he⟩, ⟨o, ho, hc, hd⟩, _⟩ := st
    rcases List.mem_cons.mp hb with z | z
    · subst z
      exact ⟨_, he, fun v q => nomatch q⟩
    · rw [List.mem_singleton.mp z]
      exact ⟨o, ho, fun v q => by rw [hd] at q; cases q⟩
  keep i h h' st k := by
    obtain ⟨⟨old, he⟩, hi, n1, n2⟩ := st
    exact ⟨⟨old, k e List.mem_cons_self _ he⟩, hi.at fun o q => k j (List.mem_cons_of_mem _ List.mem_cons_self) o q, n1, n2⟩
  item := by
    intro X hP hw hK hc i pins s σ H E I hf st hg
    subst hP hw hK
    obtain ⟨⟨old, he⟩, hit, n1, n2⟩ := st
    obtain ⟨xs, hq, hx⟩ := hg
    obtain ⟨its, rv, p, hz⟩ := I.tuple hq
    have hl := rv.length
    have nea : e ≠ a := fun z => by
      obtain ⟨o, ho, hco, _⟩ := p
      rw [← z, he] at ho
      cases ho
      injection hco with hco
      exact absurd hco (by decide)
    have hel : e < s.heap.objs.size := Heap.lt_size he
    have hjl : j < s.heap.objs.size := by
      obtain ⟨_, q, _⟩ := hit
      exact Heap.lt_size q
    have hfp : e ∉ [j, a] := by
      intro z
      rcases List.mem_cons.mp z with z | z
      · exact n1 z
      · exact nea (List.mem_singleton.mp z)
    refine wpAny_pyNext_enum_itemC (Draws.tuple (A := X.A.in1) (I.ok.hd hc) j a n2 its.toArray) he ⟨hit, p⟩ (by rw [List.size_toArray]; omega) n1 hfp fun u h' tk hu ho st2 hT hsz hk => ?_
    have hgx : xs[i]? = some xs[i] := List.getElem?_eq_getElem hx
    obtain ⟨u2, hu2, ru⟩ := rv.get hgx
    have eu : u = u2 := by
      have : its[i]? = some u := by simpa using hu
      exact Option.some.inj (this.symm.trans hu2)
    subst eu
    refine ⟨_, rfl, wpAny_letOwnedTupleGo_enum (s := { s with heap := h', toks := tk + 1 }) ho fun h2 he2 sb => ?_⟩
    have hT2 : h2.get? s.heap.objs.size = some { cls := .type "tuple", data := .seq #[.int i tk, u] } := (sb.2 _ (Nat.ne_of_gt hel)).trans hT
    have ok : ObjOk X.prog X.w (upd H s.heap.objs.size (.tup [.int (i : Nat), xs[i]])) h2 s.heap.objs.size (.tup [.int (i : Nat), xs[i]]) :=
      ⟨(by show 2 ≤ sizeLine; decide), [.int i tk, u], .cons ⟨tk, rfl⟩ (.cons ru .nil), ⟨_, hT2, rfl, _, rfl⟩⟩
    have I1 : Inv X pins σ (upd H s.heap.objs.size (.tup [.int (i : Nat), xs[i]])) { s with heap := h2, toks := tk + 1 } :=
      I.turnedNew (ch := [e, j]) (fun b ob hb q => (sb.2 b fun z => hb (z ▸ List.mem_cons_self)).trans (hk b ob (fun z => hb (z ▸ List.mem_cons_self)) (fun z => hb (z ▸ List.mem_cons_of_mem _ List.mem_cons_self)) q)) hf (Nat.le_refl _) ok
    refine ⟨.ref s.heap.objs.size, _, I1, rfl, ⟨_, xs[i], rfl, I.hok.fresh (Nat.le_refl _), rfl, fun ys hy => by rw [I.tuple_inj hy hq]; exact hgx⟩, ⟨⟨u, he2⟩, st2.1.at fun o q => (sb.2 j n1.symm).trans q, n1, n2⟩, fun b hb => ?_⟩
    have hbl : b < s.heap.objs.size := by
      rcases List.mem_cons.mp hb with z | z
      · rw [z]
        exact hel
      · rw [List.mem_singleton.mp z]
        exact hjl
    rw [upd_ne (Nat.ne_of_lt hbl)]
    exact (hf b hb).1
  done := by
    intro X hP hw hK hc i pins s σ H E I hf st hg
    subst hP hw hK
    obtain ⟨⟨old, he⟩, hit, n1, n2⟩ := st
    obtain ⟨xs, hq, rfl⟩ := hg
    obtain ⟨its, rv, p, hz⟩ := I.tuple hq
    obtain ⟨f0, f1, f2, f3, f4, f5⟩ := hf j (List.mem_cons_of_mem _ List.mem_cons_self)
    have hl := rv.length
    have es : its.toArray.size = xs.length := by rw [List.size_toArray]; omega
    exact wpAny_pyNext_enum_endD (Draws.tuple (A := X.A.in1) (I.ok.hd hc) j a n2 its.toArray) he ⟨es ▸ hit, p⟩ fun h' eb => ⟨rfl, I.turned (t' := s.toks) (fun b o hb q => eb b o hb q) f0 f1 f3 f4 f5⟩
  self A i s Q E st h := by
    obtain ⟨⟨_, he⟩, _⟩ := st
    exact wpAny_pyIter_enum he h
def iEnT (K : PySem.W.Frag) (ta : TA) : TI := fun σ H R => ta σ H fun vs H1 => ∃ a xs, vs = [.ref a] ∧ SqT K H1 a xs ∧ R (IteT K a) H1
theorem pi_enT {X : Cx} {e : Expr} {ta : TA} {p pos q : Pos} {es : List Expr} {n : Nat} (hg : Gl X "enumerate") (hm : X.mg "enumerate" = none) (ha : PA X [e] ta) (hs : starEach [e] X.env = [(false, eval e X.env)] := by rfl) :
    PI X (.Tuple es n q) (.Call (.Name "enumerate" p) [e] [] pos) (iEnT X.K ta) := by
  constructor
  intro pins s σ H R I h
  refine Call_ (ld_blt I hg hm boot_enumerate (PyProof.Rows.callWith_type1 (thn (ha.run pos pins s σ H _ I h) fun us s1 ⟨vs, H1, I1, r1, q1⟩ => ?_) hs rfl))
  obtain ⟨a, xs, ex, hq, q⟩ := q1
  subst ex
  cases r1 with
  | cons r rr =>
    cases rr
    cases r
    obtain ⟨its, rv, pt, hz⟩ := I1.tuple hq
    have hal : a < s1.heap.objs.size := by
      obtain ⟨o, ho, _⟩ := pt
      exact Heap.lt_size ho
    refine call_enT pt fun he => wpAny_pyIter_enum he ?_
    have k : ∀ b o, s1.heap.get? b = some o → ((s1.heap.push (tiO a)).push (enO s1.heap.objs.size)).get? b = some o := fun b o z => Heap.get?_push_of_some _ (Heap.get?_push_of_some _ z)
    have I2 : Inv X pins σ H1 { s1 with heap := (s1.heap.push (tiO a)).push (enO s1.heap.objs.size) } := I1.kept (t' := s1.toks) k
    refine ⟨s1.heap.objs.size + 1, [s1.heap.objs.size + 1, s1.heap.objs.size], _, _, H1, rfl, I2, turn_enT a (s1.heap.objs.size + 1) s1.heap.objs.size,
      ⟨⟨.none, he⟩, ⟨_, Heap.get?_push_of_some _ (Heap.get?_push_size _ rfl), rfl, rfl⟩, Nat.succ_ne_self _, Nat.ne_of_lt hal⟩, fun b hb => ?_, q⟩
    have le : s1.heap.objs.size ≤ b := by
      rcases List.mem_cons.mp hb with z | z
      · rw [z]
        exact Nat.le_succ _
      · rw [List.mem_singleton.mp z]
        exact Nat.le_refl _
    exact I1.fpOk le (I1.hok.fresh le)
theorem walk_enT {K : PySem.W.Frag} {a : Addr} {xs : List V} : Walk (IteT K a) xs.length (fun H => SqT K H a xs) (YPair (fun i => some (.int (i : Nat))) fun i => xs[i]?) := by
  refine ⟨fun i _ hi q => ⟨xs, q, hi⟩, fun _ q => ⟨xs, q, rfl⟩, fun i H v H' _ q y => ?_⟩
  obtain ⟨T, x, h1, h2, h3, h4⟩ := y
  exact ⟨T, .int (i : Nat), x, h1, h2, h3, rfl, h4 xs q⟩
end Gd

set_option Elab.async false
set_option linter.all false
/-! Two tuples at once. -/
namespace Gd
open PySem PySem.Spec PyProof.Rows L2 RZ
theorem walk_zT {K : PySem.W.Frag} {a b : Addr} {xs ys : List V} {n : Nat} (h1 : n ≤ xs.length) (h2 : n ≤ ys.length) (h3 : n = xs.length ∨ n = ys.length) :
    Walk (ItzT K a b) n (fun H => SqT K H a xs ∧ SqT K H b ys) (YPair (fun i => xs[i]?) fun i => ys[i]?) := by
  refine ⟨fun i _ hi q => ?_, fun _ q => ⟨xs, ys, q.1, q.2, by omega⟩, fun i H v H' _ q y => ?_⟩
  · exact ⟨xs, ys, xs[i], ys[i], q.1, q.2, List.getElem?_eq_getElem (by omega), List.getElem?_eq_getElem (by omega)⟩
  · obtain ⟨T, x, z, e1, e2, e3, e4, e5⟩ := y
    exact ⟨T, x, z, e1, e2, e3, e4 _ q.1, e5 _ q.2⟩
end Gd

set_option Elab.async false
set_option linter.all false
set_option maxRecDepth 100000
namespace K2
open PySem PySem.Spec PyProof.Rows L2 Gd Pv
/-- all below two to the b -/
def Bd (b : Nat) (xs : List Int) : Prop := ∀ x ∈ xs, x.natAbs < 2 ^ b
/-- the weights while the row j is added, k beats in -/
def part (n : Nat) (W F G : Int → Int) (j k : Nat) : Int → Int := fun b => W b + if (b - j) % n < (k : Int) then F j * G (b - j) else 0
theorem part_zero {n : Nat} (hn : 0 < n) (W F G : Int → Int) (j : Nat) : of n (part n W F G j 0) = of n W := of_congr fun b _ => by
  unfold part
  have := Int.emod_nonneg ((b : Int) - j) (show (n : Int) ≠ 0 by omega)
  rw [if_neg (by omega), Int.add_zero]
theorem part_all {n : Nat} (hn : 0 < n) (W F G : Int → Int) (j : Nat) : of n (part n W F G j n) = of n (fun b => W b + F j * G (b - j)) := of_congr fun b _ => by
  unfold part
  have := Int.emod_lt_of_pos ((b : Int) - j) (show (0 : Int) < n by omega)
  rw [if_pos this]
theorem part_step {n : Nat} {W F G : Int → Int} {j k : Nat} (g : Per n G) (hj : j < n) (hk : k < n) :
    (of n (part n W F G j k)).set ((j + k) % n) (part n W F G j k (((j + k) % n : Nat) : Int) + F j * G k) = of n (part n W F G j (k + 1)) := by
  have hn : 0 < n := by omega
  have hb : (j + k) % n < n := Nat.mod_lt _ hn
  refine List.ext_getElem (by rw [List.length_set, of_len, of_len]) fun b h1 h2 => ?_
  rw [of_len] at h2
  have e2 := of_get (F := part n W F G j (k + 1)) h2
  rw [List.getElem?_eq_getElem (by rw [of_len]; exact h2)] at e2
  rw [Option.some.inj e2, List.getElem_set]
  have ib := beat_iff hj hk h2
  by_cases e : (j + k) % n = b
  · rw [if_pos e, e]
    have em : ((b : Int) - j) % n = k := ib.mpr e.symm
    have eg : G ((b : Int) - j) = G k := by rw [← g.mod hn ((b : Int) - j), em]
    unfold part
    rw [em, if_neg (by omega), if_pos (by omega), eg, Int.add_zero]
  · rw [if_neg e]
    have e1 := of_get (F := part n W F G j k) h2
    rw [List.getElem?_eq_getElem (by rw [of_len]; exact h2)] at e1
    rw [Option.some.inj e1]
    have nm : ¬ ((b : Int) - j) % n = k := fun z => e (ib.mp z).symm
    unfold part
    by_cases c : ((b : Int) - j) % n < (k : Int)
    · rw [if_pos c, if_pos (by omega)]
    · rw [if_neg c, if_neg (by omega)]
/-- what the first j rows make -/
def rows (F G : Int → Int) (j : Nat) : Int → Int := fun b => S j fun i => F i * G (b - i)
theorem rows_succ (F G : Int → Int) (j : Nat) (b : Int) : rows F G j b + F j * G (b - j) = rows F G (j + 1) b := rfl
theorem rows_all (n : Nat) (F G : Int → Int) : rows F G n = conv n F G := rfl
section
variable {P : Program} {w : World} {K : PySem.W.Frag} {mg : Str → Option Value} {base : Heap}
def spProd : Sp := fun vs H Q _ => ∃ (a b : Addr) (xs ys : List Int) (n : Nat) (c d : Nat), vs = [.ref a, .ref b] ∧ TAt H a xs ∧ TAt H b ys ∧ xs.length = n ∧ ys.length = n ∧ 0 < n ∧ n ≤ 1000 ∧ Bd c xs ∧ Bd d ys ∧ 0 < c ∧ 0 < d ∧ c + d ≤ 100000 ∧
  ∀ (p : Addr) (H' : Hp), Same H H' → TAt H' p (of n (conv n (per xs) (per ys))) → Q (.ref p) H'
theorem c_product_of (D : At K mg "product_of" s_product_of ["one", "other"]) (c_need : Cal P w K mg base 1 "need" spNeed) (c_is_voice : Cal P w K mg base 3 "is_voice" spIsVoice) (c_is_voice_of : Cal P w K mg base 4 "is_voice_of" spIsVoiceOf)
    (z_len : mg "len" = none) (z_range : mg "range" = none) (z_enumerate : mg "enumerate" = none) (z_tuple : mg "tuple" = none) : Cal P w K mg base 5 "product_of" spProd := by
  refine okC D sc_product_of (fun vs H Q E h => ?_) (fun f cdv A outer s H vs Q E hr h => ?_)
  · obtain ⟨a, b, xs, ys, n, c, d, rfl, _⟩ := h
    rfl
  · obtain ⟨a, b, xs, ys, n, c, d, rfl, ha, hb, lx, ly, hn, hn2, bx, bY, c0, d0, hcd, q⟩ := h
    have nd := sc_product_of.nd
    refine ⟨_, (pss_cons (ps_expr (pe_k c_need hr (by decide) (by rfl) (pa_cons (pe_k c_is_voice hr (by decide) (by rfl) (pa_cons (pv 0) pa_nil)) (pa_cons pe_str pa_nil))))
 (pss_cons (ps_expr (pe_k c_need hr (by decide) (by rfl) (pa_cons (pe_k c_is_voice_of hr (by decide) (by rfl) (pa_cons (pe_callB call_len_seq (by rfl) z_len PySem.boot_len (pa_cons (pv 0) pa_nil)) (pa_cons (pv 1) pa_nil))) (pa_cons pe_str pa_nil))))
 (pss_cons (ps_set (i := 2) nd rfl (.inl rfl) (pe_callB call_len_seq (by rfl) z_len PySem.boot_len (pa_cons (pv 0) pa_nil)))
 (pss_cons (ps_setLc (i := 3) (own := [("_", 7)]) rfl nd rfl rfl (sw_true rfl rfl rfl (by decide +kernel)) (pi_range1 (by rfl) z_range (pa_cons (pv 2) pa_nil)) (blkOk_by (N := N_product_of) (sc := defScope s_product_of) (by decide +kernel)) (fun _ _ _ _ _ => pg_name (i := 7) nd rfl (Or.inl rfl)) (fun _ _ _ _ _ => pts_nil) (fun _ _ _ _ _ => pe_int))
 (pss_cons (ps_for PassesOwn.never rfl (pi_enT (by rfl) z_enumerate (pa_cons (pv 0) pa_nil)) (pg_tup rfl (pgs_cons (pg_name (i := 4) nd rfl (.inl rfl)) (pgs_cons (pg_name (i := 5) nd rfl (.inl rfl)) pgs_nil)))
 (pss_one (ps_for PassesOwn.never rfl (pi_range1 (by rfl) z_range (pa_cons (pv 2) pa_nil)) (pg_name (i := 6) nd rfl (.inl rfl))
 (pss_cons (ps_set (i := 8) nd rfl (.inl rfl) (pe_op op_mod (pe_op op_add (pv 4) (pv 6)) (pv 2)))
 (pss_one (ps_asg (pe_op op_add (pe_ix ix_list (pv 3) (pv 8) (fun _ _ => rfl)) (pe_op op_mulW (pv 5) (pe_ix ix_tup (pv 1) (pv 6) (fun _ _ => rfl)))) (pg_sub (pv 3) (pv 8) set_list)))))))
 (pss_one (ps_ret (pe_tupleOf (by rfl) z_tuple (pv 3))))))))), ?_⟩
    refine ⟨_, rfl, a, xs, rfl, ha, by omega, by omega, fun H1 s1 => ⟨_, rfl, ?_⟩⟩
    have ha1 := ha.same s1
    have hb1 := hb.same s1
    refine ⟨_, rfl, a, _, rfl, .inr ha1.sq, _, rfl, b, n, ys, by rw [List.length_map, lx], hb1, ly, hn, hn2, fun H2 s2 => ⟨_, rfl, ?_⟩⟩
    have ha2 := ha1.same s2
    have hb2 := hb1.same s2
    refine ⟨_, rfl, a, _, rfl, .inr ha2.sq, ?_⟩
    rw [List.length_map, lx]
    refine ⟨_, rfl, n, rfl, by omega, by omega, fun R hR => lc_it walk_range (fun i H' => Same H2 H' ∧ H' R = some (.lst ((List.replicate i (0 : Int)).map V.int))) ⟨same_new hR, upd_same⟩ (fun _ _ _ _ => True.intro) ?_ ?_⟩
    · rintro i x G G' hi ⟨sG, eG⟩ ⟨eH, rfl⟩
      obtain rfl := eH.symm
      have hin : i < n := hi
      refine ⟨rfl, _, eG, ?_, same_own sG hR, ?_⟩
      · rw [List.length_map, List.length_replicate]
        exact small1000 (by omega)
      · rw [upd_same, List.replicate_succ', List.map_append]
        rfl
    · rintro G0 ⟨s0, e0⟩
      have ez : (List.replicate n (0 : Int)) = of n (rows (per xs) (per ys) 0) := by
        refine List.ext_getElem (by rw [List.length_replicate, of_len]) fun i h1 h2 => ?_
        rw [of_len] at h2
        have z := of_get (F := rows (per xs) (per ys) 0) h2
        rw [List.getElem?_eq_getElem (by rw [of_len]; exact h2)] at z
        rw [Option.some.inj z, List.getElem_replicate]
        rfl
      have e0' : G0 R = some (.lst ((of n (rows (per xs) (per ys) 0)).map V.int)) := by
        rw [← ez]
        exact e0
      refine ⟨_, rfl, a, _, rfl, (ha2.same s0).sq, for_it walk_enT (fun j σ H' => ∃ (y4 y5 y6 y7 y8 : Option V), σ = [some (.ref a), some (.ref b), some (.int n), some (.ref R), y4, y5, y6, y7, y8] ∧ Same H2 H' ∧ H' R = some (.lst ((of n (rows (per xs) (per ys) j)).map V.int)))
        ⟨_, _, _, _, _, rfl, s0, e0'⟩ (fun _ _ _ _ z => by obtain ⟨_, _, _, _, _, _, sz, _⟩ := z; exact (ha2.same sz).sq) ?_ ?_⟩
      · rintro j x σ G G' hj ⟨y4, y5, y6, y7, y8, rfl, sG, eG⟩ ⟨T, x1, x2, rfl, nT, rfl, e1, e2⟩
        have hjn : j < n := by
          rw [List.length_map] at hj
          omega
        have hx2 : x2 = V.int (per xs j) := by
          have q1 : (xs.map V.int)[j]? = some x2 := e2
          rw [List.getElem?_map, List.getElem?_eq_getElem (by omega)] at q1
          rw [per_get (by omega)]
          exact (Option.some.inj q1).symm
        have hx1 : x1 = V.int (j : Nat) := (Option.some.inj e1).symm
        subst hx1 hx2
        have pY : Per n (per ys) := ly ▸ per_per ys
        have sT := same_new (o := .tup [V.int (j : Nat), .int (per xs j)]) nT
        refine ⟨T, _, rfl, .inl (.inl upd_same), rfl, _, _, rfl, _, _, rfl, rfl, ?_⟩
        have e3 := sT _ _ eG
        have s3 := sG.trans sT
        generalize upd G T (.tup [V.int (j : Nat), .int (per xs j)]) = G1 at e3 s3 ⊢
        refine ⟨_, rfl, n, rfl, by omega, by omega, for_it walk_range (fun k σ H' => ∃ (y6 y7 y8 : Option V), σ = [some (.ref a), some (.ref b), some (.int n), some (.ref R), some (.int (j : Nat)), some (.int (per xs j)), y6, y7, y8] ∧ Same H2 H' ∧
            H' R = some (.lst ((of n (part n (rows (per xs) (per ys) j) (per xs) (per ys) j k)).map V.int)))
          ⟨_, _, _, rfl, s3, by rw [part_zero hn]; exact e3⟩ (fun _ _ _ _ _ => True.intro) ?_ ?_⟩
        · rintro k x σ G2 G2' hk ⟨y6, y7, y8, rfl, s4, e4⟩ ⟨eH, rfl⟩
          obtain rfl := eH.symm
          have hkn : k < n := hk
          have hbn : (j + k) % n < n := Nat.mod_lt _ hn
          have eb : ((j : Int) + (0 + (k : Int))) % (n : Int) = (((j + k) % n : Nat) : Int) := by
            rw [Int.natCast_emod, Int.zero_add, Int.natCast_add]
          refine ⟨_, rfl, _, rfl, _, _, rfl, rfl, _, rfl, _, _, rfl, rfl, (by omega : (0 : Int) < (n : Int)), ?_⟩
          have hW := of_get (F := part n (rows (per xs) (per ys) j) (per xs) (per ys) j k) hbn
          have at1 : atI ((of n (part n (rows (per xs) (per ys) j) (per xs) (per ys) j k)).map V.int) (((j : Int) + (0 + (k : Int))) % (n : Int)) = some (.int (part n (rows (per xs) (per ys) j) (per xs) (per ys) j k (((j + k) % n : Nat) : Int))) := by
            rw [eb]
            exact atI_nat (j := (j + k) % n) (by rw [List.getElem?_map, hW]; rfl)
          have hy : ys[k]? = some (per ys k) := by
            rw [per_get (by omega)]
            exact List.getElem?_eq_getElem (by omega)
          have at2 : atI (ys.map V.int) (0 + (k : Int)) = some (.int (per ys k)) := by
            rw [Int.zero_add]
            exact atI_nat (j := k) (by rw [List.getElem?_map, hy]; rfl)
          have mY : (per ys k).natAbs < 2 ^ d := bY _ (List.mem_of_getElem? hy)
          have mX : (per xs j).natAbs < 2 ^ c := by
            rw [per_get (by omega)]
            exact bx _ (List.getElem_mem _)
          have cm : CMulW (per xs j) (per ys k) := wide_mul mX mY c0 d0 (by omega)
          have hix : ixN ((of n (part n (rows (per xs) (per ys) j) (per xs) (per ys) j k)).map V.int).length (((j : Int) + (0 + (k : Int))) % (n : Int)) = some ((j + k) % n) := by
            rw [eb, List.length_map, of_len]
            unfold ixN
            rw [if_pos (by omega), if_pos (by omega)]
            rfl
          refine ⟨_, rfl, _, rfl, R, _, _, _, rfl, rfl, .inl (.inl e4), at1, _, rfl, _, rfl, _, rfl, b, _, _, _, rfl, rfl, .inl (.inl (s4 _ _ hb2)), at2, _, _, rfl, rfl, cm, _, _, rfl, rfl, ?_⟩
          refine ⟨_, rfl, _, rfl, R, _, _, _, rfl, rfl, e4, hix, ?_⟩
          refine ⟨_, _, _, rfl, same_own s4 hR, ?_⟩
          rw [upd_same, ← List.map_set, part_step pY hjn hkn]
        · rintro σ G2 ⟨y6, y7, y8, rfl, s4, e4⟩
          refine ⟨_, _, _, _, _, rfl, s4, ?_⟩
          have e5 : H2 = H2 := rfl
          rw [show of n (rows (per xs) (per ys) (j + 1)) = of n (part n (rows (per xs) (per ys) j) (per xs) (per ys) j n) from (part_all hn _ _ _ _).symm ▸ of_congr fun _ _ => rfl]
          exact e4
      · rintro σ G ⟨y4, y5, y6, y7, y8, rfl, sG, eG⟩
        refine ⟨_, rfl, .inl ⟨R, _, rfl, .inl (.inl eG), fun p hp => ?_⟩⟩
        have sp := same_new (o := .tup ((of n (rows (per xs) (per ys) (xs.map V.int).length)).map V.int)) hp
        refine q p _ (((s1.trans s2).trans sG).trans sp) ?_
        unfold TAt
        rw [upd_same, List.length_map, lx, rows_all]
end
end K2

set_option Elab.async false
set_option linter.all false
set_option maxRecDepth 100000
namespace K2
open PySem PySem.Spec PyProof.Rows L2 Gd Pv
theorem zeros (n : Nat) (F G : Int → Int) : List.replicate n (0 : Int) = of n (rows F G 0) := by
  refine List.ext_getElem (by rw [List.length_replicate, of_len]) fun i h1 h2 => ?_
  rw [of_len] at h2
  have z := of_get (F := rows F G 0) h2
  rw [List.getElem?_eq_getElem (by rw [of_len]; exact h2)] at z
  rw [Option.some.inj z, List.getElem_replicate]
  rfl
section
variable {P : Program} {w : World} {K : PySem.W.Frag} {mg : Str → Option Value} {base : Heap}
theorem c__law_product (D : At K mg "_law_product" s__law_product ["_law_first", "_law_second"]) (z_len : mg "len" = none) (z_range : mg "range" = none) (z_int : mg "int" = none) (z_tuple : mg "tuple" = none) : Cal P w K mg base 1 "_law_product" spProd := by
  refine okC D sc__law_product (fun vs H Q E h => ?_) (fun f cdv A outer s H vs Q E hr h => ?_)
  · obtain ⟨a, b, xs, ys, n, c, d, rfl, _⟩ := h
    rfl
  · obtain ⟨a, b, xs, ys, n, c, d, rfl, ha, hb, lx, ly, hn, hn2, bx, bY, c0, d0, hcd, q⟩ := h
    have nd := sc__law_product.nd
    refine ⟨_, (pss_cons (ps_set (i := 2) nd rfl (.inl rfl) (pe_callB call_len_seq (by rfl) z_len PySem.boot_len (pa_cons (pv 0) pa_nil)))
 (pss_cons (ps_set (i := 3) nd rfl (.inl rfl) (pe_op op_rep (pe_lst (pa_cons pe_int pa_nil)) (pv 2)))
 (pss_cons (ps_for PassesOwn.never rfl (pi_range1 (by rfl) z_range (pa_cons (pv 2) pa_nil)) (pg_name (i := 4) nd rfl (.inl rfl))
 (pss_one (ps_for PassesOwn.never rfl (pi_range1 (by rfl) z_range (pa_cons (pe_ifExp (pt_cmpR op_ne (pe_ix ix_tup (pv 0) (pv 4) (fun _ _ => rfl)) pe_int (nomark _)) (pv 2) pe_int) pa_nil)) (pg_name (i := 5) nd rfl (.inl rfl))
 (pss_cons (ps_set (i := 6) nd rfl (.inl rfl) (pe_op op_mod (pe_callTy call_int1 (by rfl) z_int (by decide +kernel) (pa_cons (pe_op op_add (pv 4) (pv 5)) pa_nil)) (pv 2)))
 (pss_one (ps_asg (pe_op op_add (pe_ix ix_list (pv 3) (pv 6) (fun _ _ => rfl)) (pe_op op_mulW (pe_ix ix_tup (pv 0) (pv 4) (fun _ _ => rfl)) (pe_ix ix_tup (pv 1) (pv 5) (fun _ _ => rfl)))) (pg_sub (pv 3) (pv 6) set_list)))))))
 (pss_one (ps_ret (pe_tupleOf (by rfl) z_tuple (pv 3))))))), ?_⟩
    refine ⟨_, rfl, a, _, rfl, .inr ha.sq, ?_⟩
    rw [List.length_map, lx]
    refine ⟨(by show 1 ≤ sizeLine; decide), fun l hl => ⟨_, rfl, l, n, _, rfl, rfl, upd_same, by omega, by omega, ?_, fun R hR => ?_⟩⟩
    · rw [sizeLine_eq, Int.toNat_natCast]
      show 1 * n ≤ _
      omega
    have s0 : Same H (upd (upd H l (.lst [V.int 0])) R (.lst (List.replicate (n : Int).toNat [V.int 0]).flatten)) := (same_new hl).trans (same_new hR)
    have e0 : (upd (upd H l (.lst [V.int 0])) R (.lst (List.replicate (n : Int).toNat [V.int 0]).flatten)) R = some (.lst ((of n (rows (per xs) (per ys) 0)).map V.int)) := by
      rw [upd_same, Int.toNat_natCast]
      have e1 : ∀ m : Nat, (List.replicate m [V.int 0]).flatten = (List.replicate m (0 : Int)).map V.int := by
        intro m
        induction m with
        | zero => rfl
        | succ m ih =>
          rw [List.replicate_succ, List.flatten_cons, ih]
          rfl
      rw [e1, zeros n (per xs) (per ys)]
    have hRH : H R = none := by
      cases z : H R with
      | none => rfl
      | some o =>
        have y := same_new (o := .lst [V.int 0]) hl R o z
        rw [hR] at y
        cases y
    generalize upd (upd H l (.lst [V.int 0])) R (.lst (List.replicate (n : Int).toNat [V.int 0]).flatten) = G0 at s0 e0 ⊢
    refine ⟨_, rfl, n, rfl, by omega, by omega, for_it walk_range (fun j σ H' => ∃ (y4 y5 y6 : Option V), σ = [some (.ref a), some (.ref b), some (.int n), some (.ref R), y4, y5, y6] ∧ Same H H' ∧ H' R = some (.lst ((of n (rows (per xs) (per ys) j)).map V.int)))
      ⟨_, _, _, rfl, s0, e0⟩ (fun _ _ _ _ _ => True.intro) ?_ ?_⟩
    · rintro j x σ G G' hj ⟨y4, y5, y6, rfl, sG, eG⟩ ⟨eH, rfl⟩
      obtain rfl := eH.symm
      have hjn : j < n := hj
      have pY : Per n (per ys) := ly ▸ per_per ys
      have hx : xs[j]? = some (per xs j) := by
        rw [per_get (by omega)]
        exact List.getElem?_eq_getElem (by omega)
      have atx : atI (xs.map V.int) (0 + (j : Int)) = some (.int (per xs j)) := by
        rw [Int.zero_add]
        exact atI_nat (j := j) (by rw [List.getElem?_map, hx]; rfl)
      refine ⟨_, rfl, _, rfl, a, _, _, _, rfl, rfl, .inl (.inl (sG _ _ ha)), atx, ?_⟩
      refine ⟨rfl, _, rfl, ite2 (fun e => ?_) (fun e => ?_)⟩
      · refine ⟨_, rfl, n, rfl, by omega, by omega, for_it walk_range (fun k σ H' => ∃ (y5 y6 : Option V), σ = [some (.ref a), some (.ref b), some (.int n), some (.ref R), some (.int (0 + (j : Int))), y5, y6] ∧ Same H H' ∧
            H' R = some (.lst ((of n (part n (rows (per xs) (per ys) j) (per xs) (per ys) j k)).map V.int)))
          ⟨_, _, rfl, sG, by rw [part_zero hn]; exact eG⟩ (fun _ _ _ _ _ => True.intro) ?_ ?_⟩
        · rintro k x σ G2 G2' hk ⟨y5, y6, rfl, s4, e4⟩ ⟨eH, rfl⟩
          obtain rfl := eH.symm
          have hkn : k < n := hk
          have hbn : (j + k) % n < n := Nat.mod_lt _ hn
          have eb : ((0 + (j : Int)) + (0 + (k : Int))) % (n : Int) = (((j + k) % n : Nat) : Int) := by
            rw [Int.natCast_emod, Int.zero_add, Int.zero_add, Int.natCast_add]
          refine ⟨_, rfl, _, rfl, _, _, rfl, rfl, .inl ⟨_, rfl, _, rfl, _, _, rfl, rfl, (by omega : (0 : Int) < (n : Int)), ?_⟩⟩
          have hW := of_get (F := part n (rows (per xs) (per ys) j) (per xs) (per ys) j k) hbn
          have at1 : atI ((of n (part n (rows (per xs) (per ys) j) (per xs) (per ys) j k)).map V.int) (((0 + (j : Int)) + (0 + (k : Int))) % (n : Int)) = some (.int (part n (rows (per xs) (per ys) j) (per xs) (per ys) j k (((j + k) % n : Nat) : Int))) := by
            rw [eb]
            exact atI_nat (j := (j + k) % n) (by rw [List.getElem?_map, hW]; rfl)
          have hy : ys[k]? = some (per ys k) := by
            rw [per_get (by omega)]
            exact List.getElem?_eq_getElem (by omega)
          have at2 : atI (ys.map V.int) (0 + (k : Int)) = some (.int (per ys k)) := by
            rw [Int.zero_add]
            exact atI_nat (j := k) (by rw [List.getElem?_map, hy]; rfl)
          have mY : (per ys k).natAbs < 2 ^ d := bY _ (List.mem_of_getElem? hy)
          have mX : (per xs j).natAbs < 2 ^ c := bx _ (List.mem_of_getElem? hx)
          have cm : CMulW (per xs j) (per ys k) := wide_mul mX mY c0 d0 (by omega)
          have hix : ixN ((of n (part n (rows (per xs) (per ys) j) (per xs) (per ys) j k)).map V.int).length (((0 + (j : Int)) + (0 + (k : Int))) % (n : Int)) = some ((j + k) % n) := by
            rw [eb, List.length_map, of_len]
            unfold ixN
            rw [if_pos (by omega), if_pos (by omega)]
            rfl
          refine ⟨_, rfl, _, rfl, R, _, _, _, rfl, rfl, .inl (.inl e4), at1, _, rfl, _, rfl, a, _, _, _, rfl, rfl, .inl (.inl (s4 _ _ ha)), atx, _, rfl, _, rfl, b, _, _, _, rfl, rfl, .inl (.inl (s4 _ _ hb)), at2, _, _, rfl, rfl, cm, _, _, rfl, rfl, ?_⟩
          refine ⟨_, rfl, _, rfl, R, _, _, _, rfl, rfl, e4, hix, ?_⟩
          refine ⟨_, _, rfl, same_own s4 hRH, ?_⟩
          rw [upd_same, ← List.map_set, part_step pY hjn hkn]
        · rintro σ G2 ⟨y5, y6, rfl, s4, e4⟩
          refine ⟨_, _, _, rfl, s4, ?_⟩
          rw [show of n (rows (per xs) (per ys) (j + 1)) = of n (part n (rows (per xs) (per ys) j) (per xs) (per ys) j n) from (part_all hn _ _ _ _).symm ▸ of_congr fun _ _ => rfl]
          exact e4
      · have z0 : per xs j = 0 := by
          refine Classical.byContradiction fun z => e ?_
          rw [decide_eq_false (fun y => z (V.int.inj y))]
          rfl
        have er : of n (rows (per xs) (per ys) (j + 1)) = of n (rows (per xs) (per ys) j) := of_congr fun i _ => by
          rw [← rows_succ, z0, Int.zero_mul, Int.add_zero]
        refine ⟨0, rfl, by omega, by omega, for_it walk_range (fun k σ H' => ∃ (y5 y6 : Option V), σ = [some (.ref a), some (.ref b), some (.int n), some (.ref R), some (.int (0 + (j : Int))), y5, y6] ∧ Same H H' ∧
            H' R = some (.lst ((of n (rows (per xs) (per ys) j)).map V.int))) ⟨_, _, rfl, sG, eG⟩ (fun _ _ _ _ _ => True.intro) (fun i _ _ _ _ hi => absurd hi (Nat.not_lt_zero i)) ?_⟩
        rintro σ G2 ⟨y5, y6, rfl, s4, e4⟩
        exact ⟨_, _, _, rfl, s4, by rw [er]; exact e4⟩
    · rintro σ G ⟨y4, y5, y6, rfl, sG, eG⟩
      refine ⟨_, rfl, .inl ⟨R, _, rfl, .inl (.inl eG), fun p hp => ?_⟩⟩
      have sp := same_new (o := .tup ((of n (rows (per xs) (per ys) n)).map V.int)) hp
      refine q p _ (sG.trans sp) ?_
      unfold TAt
      rw [← rows_all]
      exact upd_same
end
end K2

set_option Elab.async false
set_option linter.all false
set_option maxRecDepth 100000
namespace Gd
open PySem PySem.Spec PyProof.Rows L2
/-- a comprehension over a range, whose items F tells -/
theorem lcR {lo : Int} {n : Nat} {g : TG} {te : TE} {vs : List Nat} {σ : L2.St} {H1 : Hp} {D : Addr} {Qd : Hp → Prop} (F : Nat → V) (hD : H1 D = none) (hz : n ≤ 1000)
    (hs : ∀ (i : Nat) (H' : Hp) (R : V → Hp → Prop), i < n → Same H1 H' → (∀ H4, Same H' H4 → R (F i) H4) → g (.int (lo + (i : Nat))) (wipe σ vs) H' fun σ2 H2 => wipe σ2 vs = wipe σ vs ∧ te σ2 H2 R)
    (hd : ∀ H', Same H1 H' → H' D = some (.lst ((List.range n).map F)) → Qd H') :
    ∃ W : Nat → Nat → Hp → Prop, (∃ m, W 0 m (upd H1 D (.lst []))) ∧ ∀ i m H, W i m H →
      ((Itr lo n).stop i H ∧ Qd H) ∨ ((Itr lo n).go i H ∧ ∃ Nx : Hp → Prop, (∀ H', Nx H' → ∃ m', m' < m ∧ W (i + 1) m' H') ∧ ∀ x H', (Itr lo n).yld i H x H' → g x (wipe σ vs) H' fun σ2 H2 => wipe σ2 vs = wipe σ vs ∧ tYes σ2 H2 fun b H3 =>
        if b = true then te σ2 H3 fun y H4 => ∃ acc, H4 D = some (.lst acc) ∧ acc.length < sizeLine ∧ Nx (upd H4 D (.lst (acc ++ [y]))) else Nx H3) := by
  refine lc_it walk_range (fun i H' => Same H1 H' ∧ H' D = some (.lst ((List.range i).map F))) ⟨same_new hD, upd_same⟩ (fun _ _ _ _ => True.intro) ?_ (fun H' z => hd H' z.1 z.2)
  rintro i x G G' hi ⟨sG, eG⟩ ⟨eH, rfl⟩
  obtain rfl := eH.symm
  refine hs i G _ hi sG fun H4 s4 => ?_
  refine ⟨_, s4 _ _ eG, ?_, same_own (sG.trans s4) hD, ?_⟩
  · rw [List.length_map, List.length_range]
    exact small1000 (by omega)
  · rw [upd_same, List.range_succ, List.map_append]
    rfl
end Gd
namespace K2
open PySem PySem.Spec PyProof.Rows L2 Gd Pv
/-- len, told ahead: inside a comprehension its frame is not to be guessed -/
def rLenS (K : PySem.W.Frag) : List V → Hp → VK → Prop := fun xs H Q => ∃ p ys, xs = [V.ref p] ∧ (SqL K H p ys ∨ SqT K H p ys) ∧ Q (.int (ys.length : Nat)) H
theorem of_V (n : Nat) (F : Int → Int) : (List.range n).map (fun j => V.int (F (j : Nat))) = (of n F).map V.int := by
  unfold of
  rw [List.map_map]
  rfl
theorem at_per {xs : List Int} {n : Nat} (hl : xs.length = n) (hn : 0 < n) (i : Int) : atI (xs.map V.int) (i % (n : Int)) = some (.int (per xs i)) := by
  subst hl
  have h1 := Int.emod_nonneg i (show (xs.length : Int) ≠ 0 by omega)
  have h2 := Int.emod_lt_of_pos i (show (0 : Int) < (xs.length : Int) by omega)
  obtain ⟨k, hk⟩ : ∃ k : Nat, i % (xs.length : Int) = k := ⟨_, (Int.toNat_of_nonneg h1).symm⟩
  have hkl : k < xs.length := by omega
  have e : per xs i = xs[k] := by
    rw [← (per_per xs).mod hn i, hk]
    exact per_get hkl
  rw [hk, e]
  exact atI_nat (j := k) (by rw [List.getElem?_map, List.getElem?_eq_getElem hkl]; rfl)
section
variable {P : Program} {w : World} {K : PySem.W.Frag} {mg : Str → Option Value} {base : Heap}
def spTurn : Sp := fun vs H Q _ => ∃ (a : Addr) (xs : List Int) (n : Nat) (k : Int), vs = [.ref a, .int k] ∧ TAt H a xs ∧ xs.length = n ∧ 0 < n ∧ n ≤ 1000 ∧ ∀ (p : Addr) (H' : Hp), Same H H' → TAt H' p (of n fun b => per xs (b - k)) → Q (.ref p) H'
def spMirror : Sp := fun vs H Q _ => ∃ (a : Addr) (xs : List Int) (n : Nat), vs = [.ref a] ∧ TAt H a xs ∧ xs.length = n ∧ 0 < n ∧ n ≤ 1000 ∧ ∀ (p : Addr) (H' : Hp), Same H H' → TAt H' p (of n fun b => per xs (-b)) → Q (.ref p) H'
theorem c__law_turned (D : At K mg "_law_turned" s__law_turned ["_law_tune_here", "_law_step"]) (z_len : mg "len" = none) (z_range : mg "range" = none) (z_int : mg "int" = none) (z_tuple : mg "tuple" = none) : Cal P w K mg base 1 "_law_turned" spTurn := by
  refine okC D sc__law_turned (fun vs H Q E h => ?_) (fun f cdv A outer s H vs Q E hr h => ?_)
  · obtain ⟨a, xs, n, k, rfl, _⟩ := h
    rfl
  · obtain ⟨a, xs, n, k, rfl, ha, lx, hn, hn2, q⟩ := h
    have nd := sc__law_turned.nd
    refine ⟨_, (pss_one (ps_ret (pe_tupleOf (by rfl) z_tuple (pe_lc (own := [("_law_j", 2)]) rfl nd (pi_range1 (by rfl) z_range (pa_cons (pe_callB (r := rLenS K) call_len_seq (by rfl) z_len PySem.boot_len (pa_cons (pv 0) pa_nil)) pa_nil)) (blkOk_by (N := N__law_turned) (sc := defScope s__law_turned) (by decide +kernel)) (fun _ _ _ _ _ => pg_name (i := 2) nd rfl (Or.inl rfl)) (fun _ _ _ _ _ => pts_nil) (fun _ _ _ _ _ => (pe_ix (r := rIxT K) ix_tup (pv 0) (pe_op op_mod (pe_callTy call_int1 (by rfl) z_int (by decide +kernel) (pa_cons (pe_op op_sub (pv 2) (pv 1)) pa_nil)) (pe_callB (r := rLenS K) call_len_seq (by rfl) z_len PySem.boot_len (pa_cons (pv 0) pa_nil))) (fun _ _ => rfl))))))), ?_⟩
    refine ⟨_, rfl, a, _, rfl, .inr ha.sq, ?_⟩
    rw [List.length_map, lx]
    refine ⟨n, rfl, by omega, by omega, fun R hR => lcR (fun j => V.int (per xs ((j : Nat) - k))) hR hn2 ?_ ?_⟩
    · intro i G R2 hi sG h4
      refine ⟨rfl, _, rfl, _, rfl, _, rfl, _, _, rfl, rfl, .inl ⟨_, rfl, _, rfl, a, _, rfl, .inr (ha.same sG).sq, ?_⟩⟩
      rw [List.length_map, lx]
      refine ⟨_, _, rfl, rfl, (by omega : (0 : Int) < (n : Int)), a, _, _, _, rfl, rfl, .inl (.inl (sG _ _ ha)), at_per lx hn _, ?_⟩
      rw [Int.zero_add]
      exact h4 G (Same.refl _)
    · intro G sG eG
      rw [Int.toNat_natCast, of_V n fun b => per xs (b - k)] at eG
      refine .inl ⟨R, _, rfl, .inl (.inl eG), fun p hp => q p _ (sG.trans (same_new hp)) upd_same⟩
end
end K2

set_option Elab.async false
set_option linter.all false
set_option maxRecDepth 100000
namespace K2
open PySem PySem.Spec PyProof.Rows L2 Gd Pv
/-- 1 at the told beats -/
def ind (n : Nat) (ss : List Int) : Int → Int := fun b => if b % (n : Int) ∈ ss then 1 else 0
theorem per_ind (n : Nat) (ss : List Int) : Per n (ind n ss) := fun i => by
  unfold ind
  rw [Int.add_emod_right]
theorem ind_at {n j : Nat} (h : j < n) (ss : List Int) : ind n ss j = if (j : Int) ∈ ss then 1 else 0 := by
  unfold ind
  rw [Int.emod_eq_of_lt (by omega) (by omega)]
theorem sameT {K : PySem.W.Frag} {H H' : Hp} {a : Addr} {xs : List V} (e : Same H H') (h : SqT K H a xs) : SqT K H' a xs := by
  rcases h with z | z
  · rcases z with z | ⟨o, z⟩
    · exact .inl (.inl (e a _ z))
    · exact .inl (.inr ⟨o, e a _ z⟩)
  · exact .inr z
theorem inV_ints (i : Int) (ss : List Int) : inV (.int i) (ss.map V.int) = decide (i ∈ ss) := by
  unfold inV
  rw [List.any_map]
  induction ss with
  | nil => rfl
  | cons x xs ih =>
    rw [List.any_cons, ih]
    have e : ((fun y => eqV y (V.int i)) ∘ V.int) x = (x == i) := rfl
    rw [e]
    by_cases h : x = i
    · subst h
      simp
    · have h2 : ¬ i = x := fun z => h z.symm
      simp [h, h2]
theorem flat_ints (ss : List Int) : (ss.map V.int).all flatV = true := by
  rw [List.all_map]
  exact List.all_eq_true.mpr fun _ _ => rfl
theorem sum_S (xs : List Int) : xs.sum = S xs.length (per xs) := by
  have key : ∀ m, m ≤ xs.length → (xs.take m).sum = S m (per xs) := by
    intro m
    induction m with
    | zero =>
      intro _
      rfl
    | succ m ih =>
      intro hm
      have h1 : m < xs.length := hm
      rw [sum_take (List.getElem?_eq_getElem h1), ih (by omega), ← per_get h1]
      rfl
  have e := key xs.length (Nat.le_refl _)
  rw [List.take_length] at e
  exact e
section
variable {P : Program} {w : World} {K : PySem.W.Frag} {mg : Str → Option Value} {base : Heap}
def spStrokes (K : PySem.W.Frag) : Sp := fun vs H Q _ => ∃ (s : Addr) (ss : List Int) (n : Nat), vs = [.int n, .ref s] ∧ (SqL K H s (ss.map V.int) ∨ SqT K H s (ss.map V.int)) ∧ n ≤ 1000 ∧ ∀ (p : Addr) (H' : Hp), Same H H' → TAt H' p (of n (ind n ss)) → Q (.ref p) H'
theorem c__law_strokes (D : At K mg "_law_strokes" s__law_strokes ["_law_size_in", "_law_spots"]) (z_range : mg "range" = none) (z_int : mg "int" = none) (z_tuple : mg "tuple" = none) : Cal P w K mg base 1 "_law_strokes" (spStrokes K) := by
  refine okC D sc__law_strokes (fun vs H Q E h => ?_) (fun f cdv A outer s H vs Q E hr h => ?_)
  · obtain ⟨a, ss, n, rfl, _⟩ := h
    rfl
  · obtain ⟨a, ss, n, rfl, ha, hn2, q⟩ := h
    have nd := sc__law_strokes.nd
    refine ⟨_, (pss_one (ps_ret (pe_tupleOf (by rfl) z_tuple (pe_lc (own := [("_law_j", 2)]) rfl nd (pi_range1 (by rfl) z_range (pa_cons (pv 0) pa_nil)) (blkOk_by (N := N__law_strokes) (sc := defScope s__law_strokes) (by decide +kernel)) (fun _ _ _ _ _ => pg_name (i := 2) nd rfl (Or.inl rfl)) (fun _ _ _ _ _ => pts_nil) (fun _ _ _ _ _ => (pe_callTy call_int1 (by rfl) z_int (by decide +kernel) (pa_cons (pe_cmpR (r := rIn K false) op_in_seq (pv 2) (pv 1) (by rfl)) pa_nil))))))), ?_⟩
    refine ⟨_, rfl, n, rfl, by omega, by omega, fun R hR => lcR (fun j => V.int (ind n ss (j : Nat))) hR hn2 ?_ ?_⟩
    · intro i G R2 hi sG h4
      have ha2 : SqL K G a (ss.map V.int) ∨ SqT K G a (ss.map V.int) := ha.imp (fun z => sG.seq z) (fun z => sameT sG z)
      refine ⟨rfl, _, rfl, _, rfl, a, _, rfl, ha2, rfl, flat_ints ss, .inr ⟨_, rfl, ?_⟩⟩
      have e : (if inV (V.int (0 + (i : Int))) (ss.map V.int) = true then (1 : Int) else 0) = ind n ss i := by
        rw [inV_ints, Int.zero_add, ind_at (n := n) hi]
        by_cases z : (i : Int) ∈ ss
        · rw [if_pos z, if_pos (decide_eq_true z)]
        · rw [if_neg z, if_neg (by rw [decide_eq_false z]; exact Bool.false_ne_true)]
      show R2 (.int (if inV (V.int (0 + (i : Int))) (ss.map V.int) = true then (1 : Int) else 0)) G
      rw [e]
      exact h4 G (Same.refl _)
    · intro G sG eG
      rw [Int.toNat_natCast, of_V n (ind n ss)] at eG
      refine .inl ⟨R, _, rfl, .inl (.inl eG), fun p hp => q p _ (sG.trans (same_new hp)) upd_same⟩
def spOnes : Sp := fun vs H Q _ => ∃ n : Nat, vs = [.int n] ∧ 0 < n ∧ n ≤ 1000 ∧ ∀ (p : Addr) (H' : Hp), Same H H' → TAt H' p (of n fun _ => 1) → Q (.ref p) H'
def spTotal : Sp := fun vs H Q _ => ∃ (a : Addr) (xs : List Int), vs = [.ref a] ∧ TAt H a xs ∧ 0 < xs.length ∧ xs.length ≤ 1000 ∧ ∀ H', Same H H' → Q (.int (S xs.length (per xs))) H'
end
end K2

set_option Elab.async false
set_option linter.all false
set_option maxRecDepth 100000
namespace K2
open PySem PySem.Spec PyProof.Rows L2 Gd Pv RZ
theorem map_of {n : Nat} {xs : List Int} (hl : xs.length = n) (f : Int → Int) : xs.map f = of n fun b => f (per xs b) := by
  subst hl
  refine List.ext_getElem (by rw [List.length_map, of_len]) fun i h1 h2 => ?_
  rw [of_len] at h2
  have z := of_get (F := fun b => f (per xs b)) h2
  rw [List.getElem?_eq_getElem (by rw [of_len]; exact h2)] at z
  rw [Option.some.inj z, List.getElem_map, per_get h2]
section
variable {P : Program} {w : World} {K : PySem.W.Frag} {mg : Str → Option Value} {base : Heap}
def spMult : Sp := fun vs H Q _ => ∃ (a : Addr) (xs : List Int) (n : Nat) (k : Int) (c : Nat), vs = [.ref a, .int k] ∧ TAt H a xs ∧ xs.length = n ∧ 0 < n ∧ n ≤ 1000 ∧ Bd c xs ∧ k.natAbs < 2 ^ c ∧ 0 < c ∧ c ≤ 100000 ∧ ∀ (p : Addr) (H' : Hp), Same H H' → TAt H' p (of n fun b => per xs b * k) → Q (.ref p) H'
def spAdded : Sp := fun vs H Q _ => ∃ (a b : Addr) (xs ys : List Int) (n : Nat), vs = [.ref a, .ref b] ∧ TAt H a xs ∧ TAt H b ys ∧ xs.length = n ∧ ys.length = n ∧ 0 < n ∧ n ≤ 1000 ∧ ∀ (p : Addr) (H' : Hp), Same H H' → TAt H' p (of n fun i => per xs i + per ys i) → Q (.ref p) H'
end
end K2

set_option Elab.async false
set_option linter.all false
set_option maxRecDepth 100000
namespace K2
open PySem PySem.Spec PyProof.Rows L2 Gd Pv RZ
theorem cut1 (ss : List Int) : cutV (ss.map V.int) (some 1) none = (ss.drop 1).map V.int := by
  unfold cutV
  rw [show (1 : Int) = ((1 : Nat) : Int) from rfl, HT.sIx_nat, HT.sIx_none]
  cases ss with
  | nil => rfl
  | cons x r =>
    rw [List.length_map, show min 1 (x :: r).length = 1 by rw [List.length_cons]; omega, ← List.map_drop]
    refine List.take_of_length_le ?_
    rw [List.length_map, List.length_drop]
    exact Nat.le_refl _
theorem two {ss : List Int} {i : Nat} {x y : V} (hp : ss.Pairwise (· < ·)) (e1 : (ss.map V.int)[i]? = some x) (e2 : ((ss.drop 1).map V.int)[i]? = some y) : x = .int (ss.getD i 0) ∧ ∃ u, y = .int u ∧ ss.getD i 0 < u := by
  rw [List.getElem?_map] at e1 e2
  rw [List.getElem?_drop] at e2
  cases h1 : ss[i]? with
  | none => rw [h1] at e1; cases e1
  | some a =>
    cases h2 : ss[1 + i]? with
    | none => rw [h2] at e2; cases e2
    | some b =>
      rw [h1] at e1
      rw [h2] at e2
      obtain ⟨k1, q1⟩ := List.getElem?_eq_some_iff.mp h1
      obtain ⟨k2, q2⟩ := List.getElem?_eq_some_iff.mp h2
      have lt := List.pairwise_iff_getElem.mp hp i (1 + i) k1 k2 (by omega)
      rw [q1, q2] at lt
      have ed : ss.getD i 0 = a := by rw [List.getD_eq_getElem?_getD, h1]; rfl
      rw [ed]
      exact ⟨(Option.some.inj e1).symm, b, (Option.some.inj e2).symm, lt⟩
section
variable {P : Program} {w : World} {K : PySem.W.Frag} {mg : Str → Option Value} {base : Heap}
def spIntSet : Sp := fun vs H Q _ => ∃ (a : Addr) (ss : List Int), vs = [.ref a] ∧ TAt H a ss ∧ ss.Pairwise (· < ·) ∧ ss.length ≤ 1000 ∧ ∀ H', Same H H' → Q (.bl true) H'
end
end K2

set_option Elab.async false
set_option linter.all false
set_option maxRecDepth 100000
namespace K2
open PySem PySem.Spec PyProof.Rows L2 Gd Pv RZ
/-- beats of a clock, ascending -/
structure Beats (n : Nat) (ss : List Int) : Prop where
  asc : ss.Pairwise (· < ·)
  lo : ∀ s ∈ ss, 0 ≤ s
  hi : ∀ s ∈ ss, s < (n : Int)
theorem asc_len : ∀ {ss : List Int} {l : Int} {m : Nat}, ss.Pairwise (· < ·) → (∀ s ∈ ss, l ≤ s) → (∀ s ∈ ss, s < l + (m : Int)) → ss.length ≤ m
  | [], _, _, _, _, _ => Nat.zero_le _
  | x :: r, l, m, hp, hl, hh => by
    have hx1 := hl x List.mem_cons_self
    have hx2 := hh x List.mem_cons_self
    rw [List.pairwise_cons] at hp
    have ih := asc_len (l := x + 1) (m := (l + (m : Int) - (x + 1)).toNat) hp.2 (fun s hs => by have := hp.1 s hs; omega) (fun s hs => by
      have h1 := hh s (List.mem_cons_of_mem _ hs)
      have h2 := hp.1 s hs
      omega)
    rw [List.length_cons]
    omega
theorem Beats.len {n : Nat} {ss : List Int} (h : Beats n ss) : ss.length ≤ n := asc_len (l := 0) h.asc h.lo fun s hs => by
  have := h.hi s hs
  omega
section
variable {P : Program} {w : World} {K : PySem.W.Frag} {mg : Str → Option Value} {base : Heap}
def spIsBeats : Sp := fun vs H Q _ => ∃ (a : Addr) (ss : List Int) (n : Nat), vs = [.int n, .ref a] ∧ TAt H a ss ∧ Beats n ss ∧ 0 < n ∧ n ≤ 1000 ∧ ∀ H', Same H H' → Q (.bl true) H'
/-- the first i of the told beats are struck -/
theorem ind_step {n i : Nat} {ss : List Int} {s : Nat} (hi : ss[i]? = some (s : Int)) (hs : s < n) : (of n (ind n (ss.take i))).set s 1 = of n (ind n (ss.take (i + 1))) := by
  refine List.ext_getElem (by rw [List.length_set, of_len, of_len]) fun b h1 h2 => ?_
  rw [of_len] at h2
  have e2 := of_get (F := ind n (ss.take (i + 1))) h2
  rw [List.getElem?_eq_getElem (by rw [of_len]; exact h2)] at e2
  rw [Option.some.inj e2, List.getElem_set, ind_at h2, List.take_add_one, hi]
  by_cases e : s = b
  · subst e
    rw [if_pos rfl, if_pos (by simp)]
  · rw [if_neg e]
    have e1 := of_get (F := ind n (ss.take i)) h2
    rw [List.getElem?_eq_getElem (by rw [of_len]; exact h2)] at e1
    rw [Option.some.inj e1, ind_at h2]
    have nb : ¬ (b : Int) = (s : Int) := by omega
    simp [nb]
def spVoiceOf : Sp := fun vs H Q _ => ∃ (a : Addr) (ss : List Int) (n : Nat), vs = [.int n, .ref a] ∧ TAt H a ss ∧ Beats n ss ∧ 0 < n ∧ n ≤ 1000 ∧ ∀ (p : Addr) (H' : Hp), Same H H' → TAt H' p (of n (ind n ss)) → Q (.ref p) H'
end
end K2

set_option Elab.async false
set_option linter.all false
set_option maxRecDepth 100000
namespace K2
open PySem PySem.Spec PyProof.Rows L2 Gd Pv RZ
/-- the voice of beat 0, then one product after the other -/
def pw (n : Nat) (F : Int → Int) : Nat → Int → Int
  | 0 => ind n [0]
  | m + 1 => conv n (pw n F m) F
theorem per_pw {n : Nat} {xs : List Int} (hl : xs.length = n) : ∀ m, Per n (pw n (per xs) m)
  | 0 => per_ind n [0]
  | _ + 1 => per_conv (hl ▸ per_per xs)
theorem bd_of {n b : Nat} {F : Int → Int} (h : ∀ j : Nat, j < n → (F j).natAbs < 2 ^ b) : Bd b (of n F) := by
  intro x hx
  unfold of at hx
  obtain ⟨j, hj, rfl⟩ := List.mem_map.mp hx
  exact h j (List.mem_range.mp hj)
theorem abs_conv {n b c : Nat} {F G : Int → Int} (hn : n ≤ 1000) (h : ∀ i, (F i).natAbs ≤ 2 ^ b) (g : ∀ i, (G i).natAbs ≤ 2 ^ c) (i : Int) : (conv n F G i).natAbs < 2 ^ (b + c + 10) := by
  have e := conv_abs (n := n) h g i
  rw [← Nat.pow_add] at e
  have p : 0 < 2 ^ (b + c) := Nat.pow_pos (by decide)
  have e2 : n * 2 ^ (b + c) ≤ 1000 * 2 ^ (b + c) := Nat.mul_le_mul_right _ hn
  rw [Nat.pow_add 2 (b + c) 10, show (2 : Nat) ^ 10 = 1024 from rfl]
  omega
theorem Bd.per {b : Nat} {xs : List Int} (h : Bd b xs) (i : Int) : (per xs i).natAbs ≤ 2 ^ b := per_abs (fun x hx => Nat.le_of_lt (h x hx)) i
theorem abs_ind (n : Nat) (ss : List Int) (i : Int) : (ind n ss i).natAbs < 2 ^ 1 := by
  unfold ind
  split <;> decide
theorem bd_pw {n c : Nat} {xs : List Int} (hl : xs.length = n) (hb : Bd c xs) (hn : n ≤ 1000) (m : Nat) : Bd (m * (c + 10) + 1) (of n (pw n (per xs) m)) := by
  refine bd_of fun j hj => ?_
  have key : ∀ (m : Nat) (i : Int), (pw n (per xs) m i).natAbs < 2 ^ (m * (c + 10) + 1) := by
    intro m
    induction m with
    | zero =>
      intro i
      rw [Nat.zero_mul]
      exact abs_ind n [0] i
    | succ m ih =>
      intro i
      have e := abs_conv hn (fun i => Nat.le_of_lt (ih i)) hb.per i
      rw [show m * (c + 10) + 1 + c + 10 = (m + 1) * (c + 10) + 1 by rw [Nat.succ_mul]; omega] at e
      exact e
  exact key m j
section
variable {P : Program} {w : World} {K : PySem.W.Frag} {mg : Str → Option Value} {base : Heap}
def spPower : Sp := fun vs H Q _ => ∃ (a : Addr) (xs : List Int) (n m c : Nat), vs = [.ref a, .int (m : Nat)] ∧ TAt H a xs ∧ xs.length = n ∧ 0 < n ∧ n ≤ 1000 ∧ m ≤ 1000 ∧ Bd c xs ∧ 0 < c ∧ m * (c + 10) + c ≤ 90000 ∧
  ∀ (p : Addr) (H' : Hp), Same H H' → TAt H' p (of n (pw n (per xs) m)) → Q (.ref p) H'
end
end K2

set_option Elab.async false
set_option linter.all false
set_option maxRecDepth 100000
namespace K2
open PySem PySem.Spec PyProof.Rows L2 Gd Pv RZ
/-- the beats at which F isn't 0 -/
def bts (n : Nat) (F : Int → Int) : List Int := ((List.range n).filter fun j => decide (F (j : Nat) ≠ 0)).map fun (j : Nat) => (j : Int)
theorem bts_succ (n : Nat) (F : Int → Int) : bts (n + 1) F = bts n F ++ (if F n = 0 then [] else [(n : Int)]) := by
  unfold bts
  rw [List.range_succ, List.filter_append, List.map_append]
  by_cases h : F n = 0
  · rw [if_pos h]
    simp [h]
  · rw [if_neg h]
    simp [h]
theorem bts_len (n : Nat) (F : Int → Int) : (bts n F).length ≤ n := by
  unfold bts
  rw [List.length_map]
  exact Nat.le_trans (List.length_filter_le _ _) (by rw [List.length_range]; exact Nat.le_refl _)
section
variable {P : Program} {w : World} {K : PySem.W.Frag} {mg : Str → Option Value} {base : Heap}
def spBeatsOf : Sp := fun vs H Q _ => ∃ (a : Addr) (xs : List Int) (n : Nat), vs = [.ref a] ∧ TAt H a xs ∧ xs.length = n ∧ 0 < n ∧ n ≤ 1000 ∧ ∀ (p : Addr) (H' : Hp), Same H H' → TAt H' p (bts n (per xs)) → Q (.ref p) H'
def spSize : Sp := fun vs H Q _ => ∃ (d c : Addr) (cells : List Int) (B : Nat), vs = [.ref d] ∧ FeedAt H d c cells B ∧ B ≤ 100000 ∧ ∀ (n : Nat) (H' : Hp), 1 ≤ n → n ≤ 40 → FeedAt H' d c cells (B + 2) → Kp d H H' → Q (.int (n : Nat)) H'
end
end K2

set_option Elab.async false
set_option linter.all false
set_option maxRecDepth 100000
namespace K2
open PySem PySem.Spec PyProof.Rows L2 Gd Pv RZ
/-- a comprehension over a range whose items draw from the feed -/
theorem lcDraw {lo : Int} {n m B : Nat} {d c : Addr} {cells : List Int} {g : TG} {te : TE} {vs : List Nat} {σ : L2.St} {H1 : Hp} {R : Addr} {Qd : Hp → Prop} (hR : H1 R = none) (F : FeedAt H1 d c cells B) (hn : n ≤ 1000)
    (hs : ∀ (i : Nat) (H' : Hp) (Y : V → Hp → Prop), i < n → FeedAt H' d c cells (B + m * i) → Kp d H1 H' → (∀ (z : Int) (H4 : Hp), z.natAbs < 2 ^ 137 → FeedAt H4 d c cells (B + m * i + m) → Kp d H' H4 → Y (.int z) H4) →
      g (.int (lo + (i : Nat))) (wipe σ vs) H' fun σ2 H2 => wipe σ2 vs = wipe σ vs ∧ te σ2 H2 Y)
    (hd : ∀ (xs : List Int) (H' : Hp), xs.length = n → Bd 137 xs → FeedAt H' d c cells (B + m * n) → Kp d H1 H' → H' R = some (.lst (xs.map V.int)) → Qd H') :
    ∃ W : Nat → Nat → Hp → Prop, (∃ m, W 0 m (upd H1 R (.lst []))) ∧ ∀ i m H, W i m H →
      ((Itr lo n).stop i H ∧ Qd H) ∨ ((Itr lo n).go i H ∧ ∃ Nx : Hp → Prop, (∀ H', Nx H' → ∃ m', m' < m ∧ W (i + 1) m' H') ∧ ∀ x H', (Itr lo n).yld i H x H' → g x (wipe σ vs) H' fun σ2 H2 => wipe σ2 vs = wipe σ vs ∧ tYes σ2 H2 fun b H3 =>
        if b = true then te σ2 H3 fun y H4 => ∃ acc, H4 R = some (.lst acc) ∧ acc.length < sizeLine ∧ Nx (upd H4 R (.lst (acc ++ [y]))) else Nx H3) := by
  refine lc_it walk_range (fun i H' => ∃ xs : List Int, xs.length = i ∧ Bd 137 xs ∧ FeedAt H' d c cells (B + m * i) ∧ Kp d H1 H' ∧ H' R = some (.lst (xs.map V.int)))
    ⟨[], rfl, fun x hx => absurd hx List.not_mem_nil, F.same (same_new hR), (same_new hR).kp, upd_same⟩ (fun _ _ _ _ => True.intro) ?_ (fun H' ⟨xs, h1, h2, h3, h4, h5⟩ => hd xs H' h1 h2 h3 h4 h5)
  rintro i x G G' hi ⟨xs, rfl, hb, FG, kG, eG⟩ ⟨eH, rfl⟩
  obtain rfl := eH.symm
  have nRd : R ≠ d := FG.neL eG
  refine hs xs.length G _ hi FG kG fun z H4 hz F4 k4 => ?_
  have e4 := k4 R _ nRd eG
  have nRc : c ≠ R := fun y => by
    have q1 := F.cl
    rw [y, hR] at q1
    cases q1
  refine ⟨_, e4, ?_, xs ++ [z], by rw [List.length_append]; rfl, ?_, ?_, ?_, ?_⟩
  · rw [List.length_map]
    exact small1000 (by omega)
  · intro y hy
    rcases List.mem_append.mp hy with y1 | y1
    · exact hb y y1
    · rw [List.mem_singleton.mp y1]
      exact hz
  · obtain ⟨sp, ov, tn, q1, q2⟩ := F4.ex
    have F5 : FeedAt (upd H4 R (.lst (xs.map V.int ++ [V.int z]))) d c cells (B + m * xs.length + m) := ⟨⟨sp, ov, tn, by rw [upd_ne nRd.symm]; exact q1, q2⟩, by rw [upd_ne nRc]; exact F4.cl, F4.few⟩
    rw [Nat.mul_succ, ← Nat.add_assoc]
    exact F5
  · intro b o hb' ho
    rw [upd_ne (ne_of_none ho hR)]
    exact k4 b o hb' (kG b o hb' ho)
  · rw [upd_same, List.map_append]
    rfl
def rgOk (n t : Nat) : Bool := Builtin.Range.small 0 (n : Int) (t : Int) && (decide (Builtin.Range.rangeSize 0 (n : Int) (t : Int) = ((Builtin.Range.rangeSize 0 (n : Int) (t : Int)).toNat : Int)) && decide ((Builtin.Range.rangeSize 0 (n : Int) (t : Int)).toNat ≤ 40))
theorem rg_all : ((List.range 41).all fun n => (List.range 41).all fun t => t == 0 || rgOk n t) = true := by decide +kernel
theorem rg_ok {n t : Nat} (hn : n ≤ 40) (h1 : 1 ≤ t) (h2 : t ≤ n) : ∃ m : Nat, RgC 0 (n : Int) (t : Int) m ∧ m ≤ 40 := by
  have a := List.all_eq_true.mp rg_all n (List.mem_range.mpr (by omega))
  have b := List.all_eq_true.mp a t (List.mem_range.mpr (by omega))
  rw [Bool.or_eq_true] at b
  rcases b with b | b
  · have := eq_of_beq b
    omega
  · unfold rgOk at b
    rw [Bool.and_eq_true, Bool.and_eq_true] at b
    exact ⟨_, ⟨by omega, by omega, b.1, of_decide_eq_true b.2.1⟩, of_decide_eq_true b.2.2⟩
/-- the divisors among what is walked -/
def dvO (n : Nat) (x : V) : Option V := match x with
  | .int t => if (n : Int) % t = 0 then some (.int t) else none
  | _ => none
theorem rep_flat (z : Int) : ∀ m : Nat, (List.replicate m [V.int z]).flatten = (List.replicate m z).map V.int
  | 0 => rfl
  | m + 1 => by
    rw [List.replicate_succ, List.flatten_cons, rep_flat z m]
    rfl
theorem ten9 : (10 : Int) ^ (9 : Int).toNat = 1000000000 := by decide
theorem two137 : (2 : Nat) ^ 137 = 174224571863520493293247799005065324265472 := by decide
section
variable {P : Program} {w : World} {K : PySem.W.Frag} {mg : Str → Option Value} {base : Heap}
def spTune : Sp := fun vs H Q _ => ∃ (d c : Addr) (cells : List Int) (B n : Nat), vs = [.ref d, .int (n : Nat)] ∧ FeedAt H d c cells B ∧ B ≤ 50000 ∧ 1 ≤ n ∧ n ≤ 40 ∧
  ∀ (xs : List Int) (p : Addr) (H' : Hp), xs.length = n → Bd 137 xs → FeedAt H' d c cells (B + 100) → Kp d H H' → TAt H' p xs → Q (.ref p) H'
theorem c__law_tune (D : At K mg "_law_tune" s__law_tune ["_law_feed_here", "_law_size_in"]) (c__law_draw : Cal P w K mg base 1 "_law_draw" spDraw) (c__law_any : Cal P w K mg base 2 "_law_any" spAny) (c__law_turned : Cal P w K mg base 1 "_law_turned" spTurn)
    (c__law_strokes : Cal P w K mg base 1 "_law_strokes" (spStrokes K)) (z_range : mg "range" = none) (z_int : mg "int" = none) (z_tuple : mg "tuple" = none) (z_list : mg "list" = none) : Cal P w K mg base 3 "_law_tune" spTune := by
  refine okC D sc__law_tune (fun vs H Q E h => ?_) (fun f cdv A outer s H vs Q E hr h => ?_)
  · obtain ⟨d, c, cells, B, n, rfl, _⟩ := h
    rfl
  · obtain ⟨d, c, cells, B, n, rfl, F, hB, hn, hn2, k⟩ := h
    have nd := sc__law_tune.nd
    refine ⟨_, (pss_cons (ps_set (i := 2) nd rfl (.inl rfl) (pe_k c__law_draw hr (by decide) (by rfl) (pa_cons (pv 0) (pa_cons pe_int pa_nil))))
 (pss_cons (ps_if (pt_cmpR op_eq (pv 2) pe_int (nomark _))
 (pss_one (ps_ret (pe_op op_repP (pe_tup (pa_cons (pe_op op_sub (pe_k c__law_draw hr (by decide) (by rfl) (pa_cons (pv 0) (pa_cons pe_int pa_nil))) pe_int) pa_nil)) (pv 1))))
 pss_nil)
 (pss_cons (ps_if (pt_cmpR op_eq (pv 2) pe_int (nomark _))
 (pss_cons (ps_set (i := 3) nd rfl (.inl rfl) (pe_k c__law_any hr (by decide) (by rfl) (pa_cons (pv 0) (pa_cons (pe_lc (own := [("_law_part", 6)]) rfl nd (pi_range2 (by rfl) z_range (pa_cons pe_int (pa_cons (pe_op op_add (pv 1) pe_int) pa_nil))) (blkOk_by (N := N__law_tune) (sc := defScope s__law_tune) (by decide +kernel)) (fun _ _ _ _ _ => pg_name (i := 6) nd rfl (Or.inl rfl)) (fun _ _ _ _ _ => pts_one (pt_cmpR op_eq (pe_op op_mod (pe_callTy call_int1 (by rfl) z_int (by decide +kernel) (pa_cons (pv 1) pa_nil)) (pv 6)) pe_int (nomark _))) (fun _ _ _ _ _ => (pv 6))) pa_nil))))
 (pss_one (ps_ret (pe_k c__law_turned hr (by decide) (by rfl) (pa_cons (pe_k c__law_strokes hr (by decide) (by rfl) (pa_cons (pv 1) (pa_cons (pe_listRg3 rfl (by rfl) z_list (by rfl) z_range (pa_cons pe_int (pa_cons (pv 1) (pa_cons (pv 3) pa_nil)))) pa_nil))) (pa_cons (pe_k c__law_draw hr (by decide) (by rfl) (pa_cons (pv 0) (pa_cons (pv 1) pa_nil))) pa_nil))))))
 pss_nil)
 (pss_cons (ps_if (pt_cmpR op_eq (pv 2) pe_int (nomark _))
 (pss_cons (ps_set (i := 4) nd rfl (.inr rfl) (pe_k c__law_any hr (by decide) (by rfl) (pa_cons (pv 0) (pa_cons (pe_lst (pa_cons pe_int (pa_cons (pe_op op_pow pe_int pe_int) (pa_cons (pe_op op_pow pe_int pe_int) pa_nil)))) pa_nil))))
 (pss_one (ps_ret (pe_tupleOf (by rfl) z_tuple (pe_lc (own := [("_law_j", 5)]) rfl nd (pi_range1 (by rfl) z_range (pa_cons (pv 1) pa_nil)) (blkOk_by (N := N__law_tune) (sc := defScope s__law_tune) (by decide +kernel)) (fun _ _ _ _ _ => pg_name (i := 5) nd rfl (Or.inl rfl)) (fun _ _ _ _ _ => pts_nil) (fun _ _ _ _ _ => (pe_op op_add (pe_op op_mul (pe_op op_sub (pe_k c__law_draw hr (by decide) (by rfl) (pa_cons (pv 0) (pa_cons pe_int pa_nil))) pe_int) (pv 4)) (pe_k c__law_draw hr (by decide) (by rfl) (pa_cons (pv 0) (pa_cons pe_int pa_nil))))))))))
 pss_nil)
 (pss_cons (ps_if (pt_cmpR op_eq (pv 2) pe_int (nomark _))
 (pss_one (ps_ret (pe_tupleOf (by rfl) z_tuple (pe_lc (own := [("_law_j", 5)]) rfl nd (pi_range1 (by rfl) z_range (pa_cons (pv 1) pa_nil)) (blkOk_by (N := N__law_tune) (sc := defScope s__law_tune) (by decide +kernel)) (fun _ _ _ _ _ => pg_name (i := 5) nd rfl (Or.inl rfl)) (fun _ _ _ _ _ => pts_nil) (fun _ _ _ _ _ => (pe_op op_sub (pe_k c__law_draw hr (by decide) (by rfl) (pa_cons (pv 0) (pa_cons pe_int pa_nil))) pe_int))))))
 pss_nil)
 (pss_one (ps_ret (pe_tupleOf (by rfl) z_tuple (pe_lc (own := [("_law_j", 5)]) rfl nd (pi_range1 (by rfl) z_range (pa_cons (pv 1) pa_nil)) (blkOk_by (N := N__law_tune) (sc := defScope s__law_tune) (by decide +kernel)) (fun _ _ _ _ _ => pg_name (i := 5) nd rfl (Or.inl rfl)) (fun _ _ _ _ _ => pts_nil) (fun _ _ _ _ _ => (pe_callTy call_int1 (by rfl) z_int (by decide +kernel) (pa_cons (pe_cmpR op_eq (pe_k c__law_draw hr (by decide) (by rfl) (pa_cons (pv 0) (pa_cons pe_int pa_nil))) pe_int (nomark _)) pa_nil)))))))))))), ?_⟩
    refine ⟨_, rfl, d, c, cells, B, 6, rfl, F, by omega, by decide, by decide, fun way H1 hw F1 k1 => ?_⟩
    refine ⟨_, rfl, rfl, _, rfl, ite2 (fun _ => ?_) (fun _ => ?_)⟩
    · refine ⟨_, rfl, d, c, cells, B + 1, 5, rfl, F1, by omega, by decide, by decide, fun r2 H2 h2 F2 k2 => ⟨_, _, rfl, rfl, (by show 1 ≤ sizeLine; decide), fun l hl => ⟨_, rfl, l, n, _, rfl, rfl, upd_same, by simp, by omega, by omega, (by show 1 ≤ 1000; decide), fun p H' sm hp => ?_⟩⟩⟩
      rw [Int.toNat_natCast, rep_flat] at hp
      refine k (List.replicate n ((r2 : Int) - 2)) p H' (List.length_replicate ..) ?_ (((F2.same (same_new hl)).same sm).mono (by omega)) (((k1.trans k2).trans (same_new hl).kp).trans sm.kp) hp
      intro x hx
      rw [List.eq_of_mem_replicate hx, two137]
      omega
    · refine ⟨_, rfl, rfl, _, rfl, ite2 (fun _ => ?_) (fun _ => ?_)⟩
      · refine ⟨_, rfl, _, rfl, _, _, rfl, rfl, 1, (n : Int) + 1, rfl, ⟨by omega, by omega, by omega, by omega⟩, fun R hR => ?_⟩
        have en : ((n : Int) + 1 - 1).toNat = n := by omega
        rw [en]
        refine lcF walk_rg (dvO n) hR (by rw [rgG_len]; exact small1000 (by omega)) (fun _ _ => True.intro) ?_ ?_
        · intro x H' Y Z hx sm q1 q2
          unfold rgG at hx
          obtain ⟨i, hi, rfl⟩ := List.mem_map.mp hx
          have i0 : (0 : Int) < 1 + (i : Nat) := by omega
          refine ⟨rfl, _, rfl, .inl ⟨_, rfl, _, rfl, _, _, rfl, rfl, i0, rfl, _, rfl, ite2 (fun e => ?_) (fun e => ?_)⟩⟩
          · have z : (n : Int) % (1 + (i : Nat)) = 0 := V.int.inj (of_decide_eq_true e)
            exact ⟨_, rfl, q1 _ (by unfold dvO; simp only [if_pos z]) H' (Same.refl _)⟩
          · have z : ¬ (n : Int) % (1 + (i : Nat)) = 0 := fun y => e (decide_eq_true (congrArg V.int y))
            exact q2 (by unfold dvO; simp only [if_neg z]) H' (Same.refl _)
        · intro G sG eG
          have mem1 : V.int 1 ∈ (rgG 1 n).filterMap (dvO n) := by
            refine List.mem_filterMap.mpr ⟨.int 1, ?_, ?_⟩
            · unfold rgG
              exact List.mem_map.mpr ⟨0, List.mem_range.mpr (by omega), rfl⟩
            · unfold dvO
              simp only [Int.emod_one, if_pos]
          have l1 : 1 ≤ ((rgG 1 n).filterMap (dvO n)).length := List.length_pos_of_mem mem1
          have l2 : ((rgG 1 n).filterMap (dvO n)).length ≤ 1000 := Nat.le_trans (List.length_filterMap_le _ _) (by rw [rgG_len]; omega)
          refine ⟨d, c, R, cells, B + 1, _, rfl, F1.same sG, by omega, eG, l1, l2, fun x H2 hx F2 k2 => ?_⟩
          obtain ⟨u, hu, eu⟩ := List.mem_filterMap.mp hx
          unfold rgG at hu
          obtain ⟨i, hi, rfl⟩ := List.mem_map.mp hu
          have hi2 := List.mem_range.mp hi
          have ex : x = .int (((1 + i : Nat)) : Int) := by
            unfold dvO at eu
            simp only at eu
            split at eu
            · rw [← Option.some.inj eu, Int.natCast_add]
              rfl
            · cases eu
          subst ex
          obtain ⟨m, hm, hm2⟩ := rg_ok (t := 1 + i) hn2 (by omega) (by omega)
          have kk := (k1.trans sG.kp).trans k2
          refine ⟨_, rfl, _, rfl, _, rfl, 0, (n : Int), ((1 + i : Nat) : Int), m, rfl, hm, by omega, fun l hl => ?_⟩
          have es : ((List.range m).map fun k => V.int (0 + (k : Nat) * ((1 + i : Nat) : Int))) = ((List.range m).map fun (k : Nat) => (0 : Int) + (k : Int) * ((1 + i : Nat) : Int)).map V.int := by
            rw [List.map_map]
            rfl
          rw [es]
          refine ⟨l, _, n, rfl, .inl (.inl (.inl upd_same)), by omega, fun p3 H3 s3 e3 => ?_⟩
          have F3 := (F2.same (same_new hl)).same s3
          refine ⟨_, rfl, _, rfl, d, c, cells, B + 2, n, rfl, F3, by omega, by omega, by omega, fun r4 H4 h4 F4 k4 => ?_⟩
          have e4 : TAt H4 p3 _ := k4 p3 _ (F3.neT e3) e3
          refine ⟨p3, _, n, (r4 : Int), rfl, e4, of_len _ _, by omega, by omega, fun p5 H5 s5 e5 => ?_⟩
          refine k _ p5 H5 (of_len _ _) ?_ ((F4.same s5).mono (by omega)) ((((kk.trans (same_new hl).kp).trans s3.kp).trans k4).trans s5.kp) e5
          refine bd_of fun j hj => ?_
          have pi := per_of (per_ind n ((List.range m).map fun (k : Nat) => (0 : Int) + (k : Int) * ((1 + i : Nat) : Int))) (by omega) ((j : Int) - r4)
          rw [pi]
          exact Nat.lt_of_lt_of_le (abs_ind _ _ _) (by rw [two137]; decide)
      · refine ⟨_, rfl, rfl, _, rfl, ite2 (fun _ => ?_) (fun _ => ?_)⟩
        · refine ⟨_, rfl, _, _, rfl, rfl, ⟨by decide, by decide, by decide⟩, _, _, rfl, rfl, ⟨by decide, by decide, by decide⟩, (by show 3 ≤ sizeLine; decide), fun l hl => ?_⟩
          refine ⟨d, c, l, cells, B + 1, _, rfl, F1.same (same_new hl), by omega, upd_same, (by decide), (by decide), fun x H2 hx F2 k2 => ?_⟩
          obtain ⟨gr, rfl, hg⟩ : ∃ gr : Int, x = .int gr ∧ (0 ≤ gr ∧ gr ≤ 10000000000000000000000000000000000000000) := by
            simp only [List.mem_cons, List.not_mem_nil, or_false] at hx
            rcases hx with rfl | rfl | rfl
            · exact ⟨_, rfl, by decide, by decide⟩
            · exact ⟨_, rfl, by rw [ten9]; decide, by rw [ten9]; decide⟩
            · exact ⟨_, rfl, by rw [ten40]; decide, by rw [ten40]; decide⟩
          have kk := (k1.trans (same_new hl).kp).trans k2
          refine ⟨_, rfl, n, rfl, by omega, by omega, fun R hR => lcDraw (m := 2) hR F2 (by rw [Int.toNat_natCast]; omega) ?_ ?_⟩
          · intro i G Y hi FG kG h4
            rw [Int.toNat_natCast] at hi
            refine ⟨rfl, _, rfl, d, c, cells, _, 9, rfl, FG, by omega, by decide, by decide, fun r3 H3 h3 F3 k3 => ⟨_, _, rfl, rfl, _, rfl, _, _, rfl, rfl, .inl ⟨by omega, by omega⟩, ?_⟩⟩
            refine ⟨_, rfl, d, c, cells, _, 5, rfl, F3, by omega, by decide, by decide, fun r5 H5 h5 F5 k5 => ⟨_, _, rfl, rfl, ?_⟩⟩
            refine h4 _ H5 ?_ F5 (k3.trans k5)
            rw [two137]
            have b1 : ((r3 : Int) - 4) * gr ≤ 4 * gr := Int.mul_le_mul_of_nonneg_right (by omega) hg.1
            have b2 : (-4) * gr ≤ ((r3 : Int) - 4) * gr := Int.mul_le_mul_of_nonneg_right (by omega) hg.1
            omega
          · intro xs G hl hb FG kG eG
            rw [Int.toNat_natCast] at hl FG
            exact .inl ⟨R, _, rfl, .inl (.inl eG), fun p hp => k xs p _ hl hb ((FG.same (same_new hp)).mono (by omega)) ((kk.trans kG).trans (same_new hp).kp) upd_same⟩
        · refine ⟨_, rfl, rfl, _, rfl, ite2 (fun _ => ?_) (fun _ => ?_)⟩
          · refine ⟨_, rfl, n, rfl, by omega, by omega, fun R hR => lcDraw (m := 1) hR F1 (by rw [Int.toNat_natCast]; omega) ?_ ?_⟩
            · intro i G Y hi FG kG h4
              rw [Int.toNat_natCast] at hi
              refine ⟨rfl, _, rfl, d, c, cells, _, 7, rfl, FG, by omega, by decide, by decide, fun r3 H3 h3 F3 k3 => ⟨_, _, rfl, rfl, ?_⟩⟩
              exact h4 _ H3 (by rw [two137]; omega) F3 k3
            · intro xs G hl hb FG kG eG
              rw [Int.toNat_natCast] at hl FG
              exact .inl ⟨R, _, rfl, .inl (.inl eG), fun p hp => k xs p _ hl hb ((FG.same (same_new hp)).mono (by omega)) ((k1.trans kG).trans (same_new hp).kp) upd_same⟩
          · refine ⟨_, rfl, n, rfl, by omega, by omega, fun R hR => lcDraw (m := 1) hR F1 (by rw [Int.toNat_natCast]; omega) ?_ ?_⟩
            · intro i G Y hi FG kG h4
              rw [Int.toNat_natCast] at hi
              refine ⟨rfl, _, rfl, d, c, cells, _, 3, rfl, FG, by omega, by decide, by decide, fun r3 H3 h3 F3 k3 => ⟨rfl, .inr ⟨_, rfl, ?_⟩⟩⟩
              refine h4 _ H3 ?_ F3 k3
              rw [two137]
              split <;> decide
            · intro xs G hl hb FG kG eG
              rw [Int.toNat_natCast] at hl FG
              exact .inl ⟨R, _, rfl, .inl (.inl eG), fun p hp => k xs p _ hl hb ((FG.same (same_new hp)).mono (by omega)) ((k1.trans kG).trans (same_new hp).kp) upd_same⟩
end
end K2

set_option Elab.async false
set_option linter.all false
set_option maxRecDepth 100000
/-! How long the text of wide data is. -/
namespace Gd
open PySem PySem.Spec PyProof.Rows L2
mutual
def costW : PyData → Nat
  | .none => 4
  | .bool _ => 5
  | .int _ => 4301
  | .list xs => costWs xs + 3
  | .tuple xs => costWs xs + 3
  | _ => 0
def costWs : List PyData → Nat
  | [] => 0
  | x :: xs => costW x + 2 + costWs xs
end
theorem wide_text {i : Int} (h : i.natAbs < 10 ^ 4300) : (Str.ofString (toString i)).length ≤ 4301 := by
  rw [PySem.ofString_length]
  exact int_text_length_le10 (by decide) h
mutual
theorem shown_W : ∀ d : PyData, wideB d = true → d.shown.length ≤ costW d
  | .none, _ => by simp only [PyData.shown, costW]; decide +kernel
  | .bool b, _ => by
    simp only [PyData.shown, costW]
    cases b <;> decide +kernel
  | .int i, h => by
    have h1 : i.natAbs < 10 ^ 4300 := by simpa [wideB] using h
    simp only [PyData.shown, costW]
    exact wide_text h1
  | .list xs, h => by
    have e := shown_Ws xs (by simpa [wideB] using h)
    have e2 := listText_len_le (PyData.shownAll xs)
    rw [lensAll] at e2
    simp only [PyData.shown, costW]
    omega
  | .tuple xs, h => by
    have e := shown_Ws xs (by simpa [wideB] using h)
    have e2 := tupleText_len_le (PyData.shownAll xs)
    rw [lensAll] at e2
    simp only [PyData.shown, costW]
    omega
  | .str _, h => by simp [wideB] at h
  | .dict _, h => by simp [wideB] at h
theorem shown_Ws : ∀ xs : List PyData, wideAll xs = true → ((PyData.shownAll xs).map (·.length)).sum + 2 * xs.length ≤ costWs xs
  | [], _ => by simp [PyData.shownAll, costWs]
  | x :: xs, h => by
    have h2 : wideB x = true ∧ wideAll xs = true := by simpa [wideAll] using h
    have e1 := shown_W x h2.1
    have e2 := shown_Ws xs h2.2
    simp only [PyData.shownAll, costWs, List.map_cons, List.sum_cons, List.length_cons]
    omega
end
/-- wide items of depth k at most, n in all -/
structure OkW (ds : List PyData) (k n : Nat) : Prop where
  wi : wideAll ds = true
  dp : PyData.depthAll ds ≤ k
  co : costWs ds ≤ n
theorem okW_nil (k : Nat) : OkW [] k 0 := ⟨by simp [wideAll], by simp [PyData.depthAll], by simp [costWs]⟩
theorem okW_cons {d : PyData} {ds : List PyData} {k n m : Nat} (h : OkW [d] k n) (t : OkW ds k m) : OkW (d :: ds) k (n + m) := by
  have h1 : wideB d = true := by simpa [wideAll] using h.wi
  have h3 : d.depth ≤ k := by simpa [PyData.depthAll] using h.dp
  have h4 : costW d + 2 ≤ n := by simpa [costWs] using h.co
  have t3 := t.dp
  have t4 := t.co
  refine ⟨by simp [wideAll, h1, t.wi], ?_, ?_⟩
  · simp only [PyData.depthAll]
    omega
  · simp only [costWs]
    omega
theorem okW_int {i : Int} {k : Nat} (h : i.natAbs < 10 ^ 4300) : OkW [.int i] k 4303 := by
  refine ⟨?_, by simp [PyData.depthAll, PyData.depth], by simp [costWs, costW]⟩
  simp only [wideAll, wideB, Bool.and_true]
  exact decide_eq_true h
theorem okW_tup {ds : List PyData} {k n : Nat} (h : OkW ds k n) : OkW [.tuple ds] (k + 1) (n + 5) := by
  have h3 := h.dp
  have h4 := h.co
  refine ⟨by simp [wideAll, wideB, h.wi], ?_, ?_⟩
  · simp only [PyData.depthAll, PyData.depth]
    omega
  · simp only [costWs, costW]
    omega
theorem ten_two : 2 ^ 14000 ≤ 10 ^ 4300 := by decide +kernel
theorem okW_ints {xs : List Int} {b : Nat} (h : ∀ x ∈ xs, x.natAbs < 2 ^ b) (hb : b ≤ 14000) : OkW (xs.map PyData.int) 1 (4303 * xs.length) := by
  induction xs with
  | nil => exact ⟨by simp [wideAll], by simp [PyData.depthAll], by simp [costWs]⟩
  | cons x xs ih =>
    have h1 := Nat.lt_of_lt_of_le (h x List.mem_cons_self) (Nat.le_trans (Nat.pow_le_pow_right (by decide) hb) ten_two)
    have e := okW_cons (okW_int (k := 1) h1) (ih fun y hy => h y (List.mem_cons_of_mem _ hy))
    rw [List.length_cons, Nat.mul_succ, Nat.add_comm]
    exact e
/-- the whole list is within the line -/
theorem OkW.list {ds : List PyData} {k n : Nat} (h : OkW ds k n) (hn : n + 3 ≤ 16000000) : (PyData.list ds).shown.length ≤ sizeLine := by
  have e := shown_W (.list ds) (by simpa [wideB] using h.wi)
  have h4 := h.co
  simp only [costW] at e
  rw [sizeLine_eq]
  omega
end Gd

set_option Elab.async false
set_option linter.all false
set_option maxRecDepth 100000
namespace K2
open PySem PySem.Spec PyProof.Rows L2 Gd Pv RZ
section
variable {P : Program} {w : World} {K : PySem.W.Frag} {mg : Str → Option Value} {base : Heap}
def spSameW (K : PySem.W.Frag) : Sp := fun vs H Q _ => ∃ (a b : Addr) (d : PyData) (ds : List PyData) (n : Nat), vs = [.ref a, .ref b] ∧ Dp K H (.ref a) (.list (d :: ds)) ∧ Dp K H (.ref b) (.list (d :: ds)) ∧ OkW (d :: ds) 10 n ∧ n ≤ 15999000 ∧ Q (.bl true) H
theorem c__law_sameW (hN : base.NoDigits) (D : At K mg "_law_same" s__law_same ["_law_told", "_law_due"]) (z_repr : mg "repr" = none) : CalG P w K mg base 1 "_law_same" ["_law_told", "_law_due"] (spSameW K) := by
  refine okCG D sc__law_same (fun vs H Q E h => ?_) (fun f cdv A outer s H vs Q E hr hG h => ?_)
  · obtain ⟨a, b, d, ds, n, rfl, _⟩ := h
    rfl
  · obtain ⟨a, b, d, ds, n, rfl, ha, hb, ok, hn, k⟩ := h
    have nd := sc__law_same.nd
    refine ⟨_, (pss_one (ps_ret (pe_cmpR op_eq (pe_callB (call_reprW hr hG hN) (by rfl) z_repr (by decide +kernel) (pa_cons (pv 0) pa_nil)) (pe_callB (call_reprW hr hG hN) (by rfl) z_repr (by decide +kernel) (pa_cons (pv 1) pa_nil)) (nomark _)))), ?_⟩
    have len := ok.list (by omega)
    have dp : (PyData.list (d :: ds)).depth ≤ 20 := by
      have := ok.dp
      simp only [PyData.depth]
      omega
    refine ⟨_, rfl, a, d, ds, rfl, ha, ok.wi, dp, len, _, rfl, b, d, ds, rfl, hb, ok.wi, dp, len, rfl, ?_⟩
    rw [decide_eq_true rfl]
    exact k
end
end K2

set_option Elab.async false
set_option linter.all false
set_option maxRecDepth 100000
namespace K2
open PySem PySem.Spec PyProof.Rows L2 Gd Pv RZ
/-- a tuple of whole numbers as data -/
def dT (xs : List Int) : PyData := .tuple (xs.map PyData.int)
theorem dpT {K : PySem.W.Frag} {H : Hp} {a : Addr} {xs : List Int} (h : TAt H a xs) : Dp K H (.ref a) (dT xs) := .tup h.sq (dpInts xs)
theorem okT {xs : List Int} {b n : Nat} (h : Bd b xs) (hb : b ≤ 14000) (hl : xs.length ≤ n) : OkW [dT xs] 2 (4303 * n + 5) := by
  have e := okW_tup (okW_ints h hb)
  exact ⟨e.wi, e.dp, Nat.le_trans e.co (by have := Nat.mul_le_mul_left 4303 hl; omega)⟩
theorem _root_.Gd.OkW.mono {ds : List PyData} {k j n : Nat} (h : OkW ds k n) (hk : k ≤ j) : OkW ds j n := ⟨h.wi, Nat.le_trans h.dp hk, h.co⟩
theorem Bd.mono {b c : Nat} {xs : List Int} (h : Bd b xs) (hc : b ≤ c) : Bd c xs := fun x hx => Nat.lt_of_lt_of_le (h x hx) (Nat.pow_le_pow_right (by decide) hc)
theorem pw_one {n : Nat} {xs : List Int} (hl : xs.length = n) (hn : 0 < n) : of n (pw n (per xs) 1) = xs := by
  have e : of n (pw n (per xs) 1) = of n (per xs) := of_congr fun b _ => by
    show conv n (ind n [0]) (per xs) b = _
    have pX : Per n (per xs) := hl ▸ per_per xs
    rw [conv_comm (per_ind n [0]) pX, conv_one 0 hn pX (fun j hj => by rw [ind_at hj]; simp) (per_ind n [0])]
    congr 1
  rw [e, ← hl, of_per]
theorem pw_two {n : Nat} {xs : List Int} (hl : xs.length = n) (hn : 0 < n) : of n (pw n (per xs) 2) = of n (conv n (per xs) (per xs)) := of_congr fun b _ => by
  show conv n (pw n (per xs) 1) (per xs) b = _
  refine conv_congr (fun i => ?_) (fun _ => rfl) _
  have e := per_of (per_pw hl 1) hn i
  rw [← e, pw_one hl hn]
section
variable {P : Program} {w : World} {K : PySem.W.Frag} {mg : Str → Option Value} {base : Heap}
def spPowR : Sp := fun vs H Q _ => ∃ (d c a : Addr) (cells xs : List Int) (B n : Nat), vs = [.ref d, .ref a] ∧ FeedAt H d c cells B ∧ B ≤ 50000 ∧ TAt H a xs ∧ xs.length = n ∧ 0 < n ∧ n ≤ 40 ∧ Bd 137 xs ∧ ∀ H', FeedAt H' d c cells (B + 2) → Kp d H H' → Q (.bl true) H'
end
end K2

/-! What the products of lists as periodic functions are. -/
namespace Pv
section
variable {n : Nat} {F G H : Int → Int}
theorem Per.mir (h : Per n F) : Per n (fun b => F (-b)) := h.neg
theorem Per.turn (h : Per n F) (k : Int) : Per n (fun b => F (b - k)) := h.shift (-k)
theorem cvL (f : Per n F) (hn : 0 < n) : of n (conv n (per (of n F)) G) = of n (conv n F G) := of_congr fun _ _ => conv_congr (fun i => per_of f hn i) (fun _ => rfl) _
theorem cvR (g : Per n G) (hn : 0 < n) : of n (conv n F (per (of n G))) = of n (conv n F G) := of_congr fun _ _ => conv_congr (fun _ => rfl) (fun i => per_of g hn i) _
theorem t_comm (f : Per n F) (g : Per n G) : of n (conv n F G) = of n (conv n G F) := of_congr fun _ _ => conv_comm f g _
theorem t_assL (g : Per n G) (hn : 0 < n) : of n (conv n (per (of n (conv n F G))) H) = of n (conv n (conv n F G) H) := cvL (per_conv g) hn
theorem t_assR (g : Per n G) (h : Per n H) (hn : 0 < n) : of n (conv n F (per (of n (conv n G H)))) = of n (conv n (conv n F G) H) := by
  rw [cvR (per_conv h) hn]
  exact of_congr fun _ _ => (conv_assoc g h _).symm
theorem t_total (g : Per n G) (hn : 0 < n) : S (of n (conv n F G)).length (per (of n (conv n F G))) = S n F * S n G := by
  rw [of_len, ← conv_total g]
  exact S_congr fun j _ => per_of (per_conv g) hn j
theorem t_mirL (f : Per n F) (g : Per n G) (hn : 0 < n) : of n (conv n (per (of n fun b => F (-b))) (per (of n fun b => G (-b)))) = of n (fun b => conv n F G (-b)) := by
  rw [cvL f.mir hn, cvR g.mir hn]
  exact of_congr fun _ _ => conv_mirror f g _
theorem t_mirR (g : Per n G) (hn : 0 < n) : of n (fun b => per (of n (conv n F G)) (-b)) = of n (fun b => conv n F G (-b)) := of_congr fun _ _ => per_of (per_conv g) hn _
theorem t_disL (g : Per n G) (h : Per n H) (hn : 0 < n) : of n (conv n F (per (of n fun i => G i + H i))) = of n (fun b => conv n F G b + conv n F H b) := by
  rw [cvR (g.add h) hn]
  exact of_congr fun _ _ => conv_add _
theorem t_disR (g : Per n G) (h : Per n H) (hn : 0 < n) : of n (fun b => per (of n (conv n F G)) b + per (of n (conv n F H)) b) = of n (fun b => conv n F G b + conv n F H b) := of_congr fun _ _ => by
  rw [per_of (per_conv g) hn, per_of (per_conv h) hn]
theorem t_spot {D : Int → Int} {s : Nat} (hs : s < n) (f : Per n F) (hD : ∀ j : Nat, j < n → D j = if j = s then 1 else 0) (d : Per n D) (hn : 0 < n) : of n (conv n F (per (of n D))) = of n (fun b => F (b - s)) := by
  rw [cvR d hn]
  exact of_congr fun _ _ => conv_one s hs f hD d _
theorem of_const (n : Nat) (c : Int) : of n (fun _ => c) = List.replicate n c := by
  unfold of
  exact (List.map_eq_replicate_iff.mpr (fun _ _ => rfl)).trans (by rw [List.length_range])
theorem per_const (n : Nat) (c : Int) : Per n (fun _ => c) := fun _ => rfl
theorem t_ones (hn : 0 < n) : of n (conv n F (per (of n fun _ => 1))) = List.replicate n (S n F) := by
  rw [cvR (per_const n 1) hn, ← of_const]
  exact of_congr fun _ _ => conv_ones _
theorem t_turnL (f : Per n F) (g : Per n G) (k : Int) (hn : 0 < n) : of n (conv n (per (of n fun b => F (b - k))) G) = of n (fun b => conv n F G (b - k)) := by
  rw [cvL (f.turn k) hn]
  exact of_congr fun _ _ => conv_turn f g k _
theorem t_turnR (g : Per n G) (k : Int) (hn : 0 < n) : of n (fun b => per (of n (conv n F G)) (b - k)) = of n (fun b => conv n F G (b - k)) := of_congr fun _ _ => per_of (per_conv g) hn _
end
end Pv

set_option Elab.async false
set_option linter.all false
set_option maxRecDepth 100000
set_option maxHeartbeats 4000000
set_option exponentiation.threshold 20000
namespace K2
open PySem PySem.Spec PyProof.Rows L2 Gd Pv RZ
section
variable {P : Program} {w : World} {K : PySem.W.Frag} {mg : Str → Option Value} {base : Heap}
def spProdR : Sp := fun vs H Q _ => ∃ (d c r a1 a2 a3 : Addr) (cells xs ys zs : List Int) (B n : Nat) (k : Int), vs = [.ref d, .ref r, .int k] ∧ FeedAt H d c cells B ∧ B ≤ 50000 ∧ H r = some (.lst [V.ref a1, .ref a2, .ref a3]) ∧
  TAt H a1 xs ∧ TAt H a2 ys ∧ TAt H a3 zs ∧ xs.length = n ∧ ys.length = n ∧ zs.length = n ∧ 0 < n ∧ n ≤ 40 ∧ Bd 137 xs ∧ Bd 137 ys ∧ Bd 137 zs ∧ ∀ H', FeedAt H' d c cells (B + 1) → Kp d H H' → Q (.bl true) H'
theorem TAt.own {H : Hp} {a l : Addr} {xs : List Int} {us : List V} {v : HO} (h : TAt H a xs) (e : H l = some (.lst us)) : TAt (upd H l v) a xs := by
  have hne : a ≠ l := fun z => by
    subst z
    have h2 : H a = some (.tup (xs.map V.int)) := h
    rw [e] at h2
    cases h2
  show upd H l v a = _
  unfold upd
  rw [if_neg hne]
  exact h
theorem zval {zs : List Int} {v : V} {n i : Nat} (lz : zs.length = n) (hi : i < n) (ez : (zs.map V.int)[i]? = some v) : v = .int (per zs i) := by
  rw [List.getElem?_map, List.getElem?_eq_getElem (by omega)] at ez
  rw [per_get (by omega)]
  exact (Option.some.inj ez).symm
end
end K2

set_option Elab.async false
set_option linter.all false
set_option maxRecDepth 100000
/-! Lists of whole numbers and tuples of such, told item by item. -/
namespace K2
open PySem PySem.Spec PyProof.Rows L2 Gd Pv RZ
inductive TD where
  | i (x : Int)
  | t (xs : List Int)
def TD.data : TD → PyData
  | .i x => .int x
  | .t xs => dT xs
def OneAt (H : Hp) : V → TD → Prop
  | v, .i x => v = .int x
  | v, .t xs => ∃ a, v = .ref a ∧ TAt H a xs
def AllAt (H : Hp) : List V → List TD → Prop
  | [], [] => True
  | v :: vs, d :: ds => OneAt H v d ∧ AllAt H vs ds
  | _, _ => False
theorem OneAt.same {H H' : Hp} (s : Same H H') : ∀ {v : V} {d : TD}, OneAt H v d → OneAt H' v d
  | _, .i _, h => h
  | _, .t _, ⟨a, e, h⟩ => ⟨a, e, h.same s⟩
theorem AllAt.same {H H' : Hp} (s : Same H H') : ∀ {vs : List V} {ds : List TD}, AllAt H vs ds → AllAt H' vs ds
  | [], [], h => h
  | _ :: _, _ :: _, ⟨h, t⟩ => ⟨h.same s, t.same s⟩
  | [], _ :: _, h => h.elim
  | _ :: _, [], h => h.elim
theorem OneAt.own {H : Hp} {l : Addr} {us : List V} {o : HO} (e : H l = some (.lst us)) : ∀ {v : V} {d : TD}, OneAt H v d → OneAt (upd H l o) v d
  | _, .i _, h => h
  | _, .t _, ⟨a, e1, h⟩ => ⟨a, e1, h.own e⟩
theorem AllAt.own {H : Hp} {l : Addr} {us : List V} {o : HO} (e : H l = some (.lst us)) : ∀ {vs : List V} {ds : List TD}, AllAt H vs ds → AllAt (upd H l o) vs ds
  | [], [], h => h
  | _ :: _, _ :: _, ⟨h, t⟩ => ⟨h.own e, t.own e⟩
  | [], _ :: _, h => h.elim
  | _ :: _, [], h => h.elim
theorem AllAt.append {H : Hp} : ∀ {vs us : List V} {ds es : List TD}, AllAt H vs ds → AllAt H us es → AllAt H (vs ++ us) (ds ++ es)
  | [], _, [], _, _, h => h
  | _ :: _, _, _ :: _, _, ⟨h, t⟩, u => ⟨h, t.append u⟩
  | [], _, _ :: _, _, h, _ => h.elim
  | _ :: _, _, [], _, h, _ => h.elim
theorem AllAt.len {H : Hp} : ∀ {vs : List V} {ds : List TD}, AllAt H vs ds → vs.length = ds.length
  | [], [], _ => rfl
  | _ :: _, _ :: _, ⟨_, t⟩ => by rw [List.length_cons, List.length_cons, t.len]
  | [], _ :: _, h => h.elim
  | _ :: _, [], h => h.elim
theorem OneAt.dp {K : PySem.W.Frag} {H : Hp} : ∀ {v : V} {d : TD}, OneAt H v d → Dp K H v d.data
  | _, .i _, rfl => .int _
  | _, .t _, ⟨_, rfl, h⟩ => dpT h
theorem AllAt.dp {K : PySem.W.Frag} {H : Hp} : ∀ {vs : List V} {ds : List TD}, AllAt H vs ds → DpAll K H vs (ds.map TD.data)
  | [], [], _ => .nil
  | _ :: _, _ :: _, ⟨h, t⟩ => .cons h.dp t.dp
  | [], _ :: _, h => h.elim
  | _ :: _, [], h => h.elim
/-- small enough to be told -/
def TD.Ok : TD → Prop
  | .i x => x.natAbs < 2 ^ 14000
  | .t xs => Bd 14000 xs ∧ xs.length ≤ 40
theorem okTD {d : TD} (h : d.Ok) : OkW [d.data] 2 172125 := by
  cases d with
  | i x => exact ⟨(okW_int (k := 2) (Nat.lt_of_lt_of_le h ten_two)).wi, (okW_int (k := 2) (Nat.lt_of_lt_of_le h ten_two)).dp, Nat.le_trans (okW_int (k := 2) (Nat.lt_of_lt_of_le h ten_two)).co (by decide)⟩
  | t xs => exact okT h.1 (by decide) h.2
theorem okTDs : ∀ {ds : List TD}, (∀ d ∈ ds, d.Ok) → OkW (ds.map TD.data) 2 (172125 * ds.length)
  | [], _ => okW_nil 2
  | d :: ds, h => by
    have e := okW_cons (okTD (h d List.mem_cons_self)) (okTDs fun x hx => h x (List.mem_cons_of_mem _ hx))
    rw [List.length_cons, Nat.mul_succ, Nat.add_comm]
    exact e
theorem TD.ok_t {xs : List Int} {b : Nat} (h : Bd b xs) (hb : b ≤ 14000) (hl : xs.length ≤ 40) : (TD.t xs).Ok := ⟨h.mono hb, hl⟩
/-! ### mathematics of the plain ones -/
theorem bts_ind {n : Nat} {ss : List Int} (h : Beats n ss) : bts n (ind n ss) = ss := by
  have asc : ∀ F : Int → Int, ∀ m : Nat, (bts m F).Pairwise (· < ·) ∧ ∀ x ∈ bts m F, x < (m : Int) := by
    intro F m
    induction m with
    | zero => exact ⟨List.Pairwise.nil, fun x hx => absurd hx List.not_mem_nil⟩
    | succ m ih =>
      rw [bts_succ]
      by_cases e : F m = 0
      · rw [if_pos e, List.append_nil]
        exact ⟨ih.1, fun x hx => by have := ih.2 x hx; omega⟩
      · rw [if_neg e]
        refine ⟨List.pairwise_append.mpr ⟨ih.1, List.pairwise_singleton _ _, fun x hx y hy => ?_⟩, fun x hx => ?_⟩
        · rw [List.mem_singleton] at hy
          subst hy
          exact ih.2 x hx
        · rcases List.mem_append.mp hx with z | z
          · have := ih.2 x z
            omega
          · rw [List.mem_singleton] at z
            omega
  have mem : ∀ x : Int, x ∈ bts n (ind n ss) ↔ x ∈ ss := by
    intro x
    unfold bts
    rw [List.mem_map]
    constructor
    · rintro ⟨j, hj, rfl⟩
      obtain ⟨h1, h2⟩ := List.mem_filter.mp hj
      have h3 := List.mem_range.mp h1
      have h4 := of_decide_eq_true h2
      rw [ind_at h3] at h4
      by_cases z : (j : Int) ∈ ss
      · exact z
      · rw [if_neg z] at h4
        exact absurd rfl h4
    · intro hx
      obtain ⟨j, rfl⟩ := Int.eq_ofNat_of_zero_le (h.lo x hx)
      have hj := h.hi _ hx
      refine ⟨j, List.mem_filter.mpr ⟨List.mem_range.mpr (by omega), ?_⟩, rfl⟩
      rw [ind_at (by omega), if_pos hx]
      decide
  have uniq : ∀ {as bs : List Int}, as.Pairwise (· < ·) → bs.Pairwise (· < ·) → (∀ x, x ∈ as ↔ x ∈ bs) → as = bs := by
    intro as
    induction as with
    | nil =>
      intro bs _ _ hm
      cases bs with
      | nil => rfl
      | cons b bs => exact absurd ((hm b).mpr List.mem_cons_self) List.not_mem_nil
    | cons a as ih =>
      intro bs pa pb hm
      cases bs with
      | nil => exact absurd ((hm a).mp List.mem_cons_self) List.not_mem_nil
      | cons b bs =>
        rw [List.pairwise_cons] at pa pb
        have e : a = b := by
          rcases List.mem_cons.mp ((hm a).mp List.mem_cons_self) with z | z
          · exact z
          · rcases List.mem_cons.mp ((hm b).mpr List.mem_cons_self) with y | y
            · exact y.symm
            · have := pb.1 a z
              have := pa.1 b y
              omega
        subst e
        refine congrArg _ (ih pa.2 pb.2 fun x => ⟨fun hx => ?_, fun hx => ?_⟩)
        · rcases List.mem_cons.mp ((hm x).mp (List.mem_cons_of_mem _ hx)) with z | z
          · subst z
            have := pa.1 x hx
            omega
          · exact z
        · rcases List.mem_cons.mp ((hm x).mpr (List.mem_cons_of_mem _ hx)) with z | z
          · subst z
            have := pb.1 x hx
            omega
          · exact z
  exact uniq (asc _ n).1 h.asc mem
theorem bts_per (n : Nat) (hn : 0 < n) {F : Int → Int} (f : Per n F) : bts n (per (of n F)) = bts n F := by
  unfold bts
  congr 1
  refine List.filter_congr fun j _ => ?_
  rw [per_of f hn]
theorem turn_back {n : Nat} {xs : List Int} (hl : xs.length = n) (hn : 0 < n) (k : Int) : of n (fun b => per (of n fun b => per xs (b - k)) (b - -k)) = xs := by
  have p : Per n (per xs) := hl ▸ per_per xs
  have e : of n (fun b => per (of n fun b => per xs (b - k)) (b - -k)) = of n (per xs) := of_congr fun j _ => by
    rw [per_of (p.turn k) hn]
    congr 1
    omega
  rw [e, ← hl, of_per]
theorem mirror_back {n : Nat} {xs : List Int} (hl : xs.length = n) (hn : 0 < n) : of n (fun b => per (of n fun b => per xs (-b)) (-b)) = xs := by
  have p : Per n (per xs) := hl ▸ per_per xs
  have e : of n (fun b => per (of n fun b => per xs (-b)) (-b)) = of n (per xs) := of_congr fun j _ => by
    rw [per_of p.mir hn]
    congr 1
    omega
  rw [e, ← hl, of_per]
theorem turn_all {n : Nat} {xs : List Int} (hl : xs.length = n) : of n (fun b => per xs (b - (n : Int))) = xs := by
  have p : Per n (per xs) := hl ▸ per_per xs
  have e : of n (fun b => per xs (b - (n : Int))) = of n (per xs) := of_congr fun j _ => by
    have := p ((j : Int) - n)
    rw [← this]
    congr 1
    omega
  rw [e, ← hl, of_per]
end K2

/-! Polynomials as lists of whole numbers: products, division by monic ones. -/
namespace Po
open Pv
/-- without noughts at its end -/
def tr (xs : List Int) : List Int := (xs.reverse.dropWhile (· == 0)).reverse
theorem tr_nil : tr [] = [] := rfl
theorem tr_zero (xs : List Int) : tr (xs ++ [0]) = tr xs := by
  unfold tr
  rw [List.reverse_append]
  rfl
theorem tr_last {xs : List Int} {x : Int} (h : x ≠ 0) : tr (xs ++ [x]) = xs ++ [x] := by
  unfold tr
  rw [List.reverse_append]
  show (List.dropWhile (· == 0) (x :: xs.reverse)).reverse = _
  rw [List.dropWhile_cons, if_neg (by simpa using h), List.reverse_cons, List.reverse_reverse]
/-- the number at a place, 0 beside -/
def co (xs : List Int) : Int → Int := fun i => if 0 ≤ i then xs.getD i.toNat 0 else 0
theorem co_neg {xs : List Int} {i : Int} (h : i < 0) : co xs i = 0 := by
  unfold co
  rw [if_neg (by omega)]
theorem co_nat (xs : List Int) (j : Nat) : co xs j = xs.getD j 0 := by
  unfold co
  rw [if_pos (by omega)]
  rfl
theorem co_get {xs : List Int} {j : Nat} (h : j < xs.length) : co xs j = xs[j] := by
  rw [co_nat, List.getD_eq_getElem?_getD, List.getElem?_eq_getElem h]
  rfl
theorem co_big {xs : List Int} {i : Int} (h : (xs.length : Int) ≤ i) : co xs i = 0 := by
  unfold co
  by_cases z : 0 ≤ i
  · rw [if_pos z, List.getD_eq_getElem?_getD, List.getElem?_eq_none (by omega)]
    rfl
  · rw [if_neg z]
theorem co_of {n : Nat} {F : Int → Int} {j : Nat} (h : j < n) : co (of n F) j = F j := by
  rw [co_nat, List.getD_eq_getElem?_getD, of_get h]
  rfl
theorem of_co {xs : List Int} {n : Nat} (h : xs.length = n) : of n (co xs) = xs := by
  subst h
  refine List.ext_getElem (of_len _ _) fun i h1 h2 => ?_
  have z := of_get (F := co xs) h2
  rw [List.getElem?_eq_getElem h1] at z
  rw [Option.some.inj z, co_get h2]
theorem co_app0 (xs : List Int) (i : Int) : co (xs ++ [0]) i = co xs i := by
  by_cases z : 0 ≤ i
  · obtain ⟨j, rfl⟩ := Int.eq_ofNat_of_zero_le z
    rw [co_nat, co_nat, List.getD_eq_getElem?_getD, List.getD_eq_getElem?_getD]
    by_cases h : j < xs.length
    · rw [List.getElem?_append_left h]
    · rw [List.getElem?_append_right (by omega), List.getElem?_eq_none (by omega : xs.length ≤ j)]
      cases hk : j - xs.length with
      | zero => rfl
      | succ k => rfl
  · rw [co_neg (by omega), co_neg (by omega)]
theorem snoc_cases (xs : List Int) : xs = [] ∨ ∃ ys y, xs = ys ++ [y] := by
  cases h : xs.reverse with
  | nil => exact .inl (List.reverse_eq_nil_iff.mp h)
  | cons y r => exact .inr ⟨r.reverse, y, by rw [← List.reverse_reverse (as := xs), h, List.reverse_cons]⟩
theorem tr_ind {p : List Int → Prop} (h0 : p []) (hz : ∀ xs, p xs → p (xs ++ [0])) (hl : ∀ xs x, x ≠ 0 → p (xs ++ [x])) : ∀ xs, p xs := by
  have key : ∀ n (xs : List Int), xs.length = n → p xs := by
    intro n
    induction n with
    | zero =>
      intro xs e
      rw [List.eq_nil_of_length_eq_zero e]
      exact h0
    | succ n ih =>
      intro xs e
      rcases snoc_cases xs with rfl | ⟨ys, y, rfl⟩
      · exact h0
      · rw [List.length_append] at e
        by_cases hy : y = 0
        · subst hy
          exact hz ys (ih ys (by simpa using e))
        · exact hl ys y hy
  exact fun xs => key _ xs rfl
theorem co_tr (xs : List Int) (i : Int) : co (tr xs) i = co xs i := by
  revert xs
  refine tr_ind rfl (fun xs ih => ?_) (fun xs x h => by rw [tr_last h])
  rw [tr_zero, ih, co_app0]
theorem tr_len (xs : List Int) : (tr xs).length ≤ xs.length := by
  unfold tr
  rw [List.length_reverse]
  exact Nat.le_trans (List.dropWhile_sublist _).length_le (by rw [List.length_reverse]; exact Nat.le_refl _)
theorem tr_mem {xs : List Int} {x : Int} (h : x ∈ tr xs) : x ∈ xs := by
  unfold tr at h
  exact List.mem_reverse.mp ((List.dropWhile_sublist _).subset (List.mem_reverse.mp h))
/-- nothing to trim -/
def Nf (xs : List Int) : Prop := xs = [] ∨ ∃ ys y, y ≠ 0 ∧ xs = ys ++ [y]
theorem nf_tr (xs : List Int) : Nf (tr xs) := by
  revert xs
  refine tr_ind (.inl rfl) (fun xs ih => by rw [tr_zero]; exact ih) (fun xs x h => ?_)
  rw [tr_last h]
  exact .inr ⟨xs, x, h, rfl⟩
theorem Nf.tr {xs : List Int} (h : Nf xs) : tr xs = xs := by
  rcases h with rfl | ⟨ys, y, h, rfl⟩
  · rfl
  · exact tr_last h
theorem nf_len {xs ys : List Int} (hx : Nf xs) (e : ∀ i, co xs i = co ys i) : xs.length ≤ ys.length := by
  rcases hx with rfl | ⟨zs, z, h, rfl⟩
  · exact Nat.zero_le _
  · refine Classical.byContradiction fun hl => h ?_
    rw [List.length_append] at hl
    have e1 := e (zs.length : Nat)
    have hl2 : ys.length ≤ zs.length := by simp at hl; omega
    rw [co_big (xs := ys) (by omega), co_get (by rw [List.length_append]; simp)] at e1
    rw [List.getElem_append_right (Nat.le_refl _)] at e1
    simpa using e1
theorem nf_ext {xs ys : List Int} (hx : Nf xs) (hy : Nf ys) (e : ∀ i, co xs i = co ys i) : xs = ys := by
  have l1 := nf_len hx e
  have l2 := nf_len hy fun i => (e i).symm
  have l := Nat.le_antisymm l1 l2
  exact (of_co l).symm.trans ((of_congr fun j _ => e j).trans (of_co rfl))
theorem tr_ext {xs ys : List Int} (e : ∀ i, co xs i = co ys i) : tr xs = tr ys := nf_ext (nf_tr _) (nf_tr _) fun i => by rw [co_tr, co_tr, e]
theorem co_of_all {n : Nat} {F : Int → Int} (h0 : ∀ i, i < 0 → F i = 0) (h1 : ∀ i, (n : Int) ≤ i → F i = 0) (i : Int) : co (of n F) i = F i := by
  by_cases z : i < 0
  · rw [co_neg z, h0 i z]
  · obtain ⟨j, rfl⟩ := Int.eq_ofNat_of_zero_le (by omega : 0 ≤ i)
    by_cases y : j < n
    · exact co_of y
    · rw [co_big (by rw [of_len]; omega), h1 _ (by omega)]
/-- two windows that both hold all of a function are told alike -/
theorem tr_win {n m : Nat} {F : Int → Int} (h0 : ∀ i, i < 0 → F i = 0) (h1 : ∀ i, (n : Int) ≤ i → F i = 0) (h2 : ∀ i, (m : Int) ≤ i → F i = 0) : tr (of n F) = tr (of m F) :=
  tr_ext fun i => by rw [co_of_all h0 h1, co_of_all h0 h2]
/-! ### products -/
/-- the product of a function that is 0 from n on -/
def mu (n : Nat) (F G : Int → Int) : Int → Int := fun b => S n fun j => F j * G (b - j)
theorem mu_neg {n : Nat} {F G : Int → Int} (g : ∀ i, i < 0 → G i = 0) (b : Int) (h : b < 0) : mu n F G b = 0 := by
  refine (S_congr fun j _ => ?_).trans (S_zero n)
  rw [g _ (by omega), Int.mul_zero]
theorem mu_big {n m : Nat} {F G : Int → Int} (g : ∀ i, (m : Int) ≤ i → G i = 0) (b : Int) (h : (n : Int) + m ≤ b + 1) : mu n F G b = 0 := by
  refine (S_congr fun j hj => ?_).trans (S_zero n)
  rw [g _ (by omega), Int.mul_zero]
theorem mu_congr {n : Nat} {F F' G G' : Int → Int} (h : ∀ i, F i = F' i) (g : ∀ i, G i = G' i) (b : Int) : mu n F G b = mu n F' G' b := S_congr fun j _ => by rw [h, g]
theorem S_more {n m : Nat} {F : Int → Int} (h : ∀ i : Nat, n ≤ i → F i = 0) (hm : n ≤ m) : S m F = S n F := by
  obtain ⟨k, rfl⟩ := Nat.exists_eq_add_of_le hm
  clear hm
  induction k with
  | zero => rfl
  | succ k ih =>
    show S (n + k) F + F ((n + k : Nat) : Int) = _
    rw [ih, h _ (by omega), Int.add_zero]
theorem mu_more {n m : Nat} {F G : Int → Int} (f : ∀ i : Nat, n ≤ i → F i = 0) (hm : n ≤ m) (b : Int) : mu m F G b = mu n F G b :=
  S_more (fun i hi => by rw [f i hi, Int.zero_mul]) hm
theorem mu_comm {n m : Nat} {F G : Int → Int} (f0 : ∀ i, i < 0 → F i = 0) (f : ∀ i : Nat, n ≤ i → F i = 0) (g0 : ∀ i, i < 0 → G i = 0) (g : ∀ i : Nat, m ≤ i → G i = 0) (b : Int) : mu n F G b = mu m G F b := by
  by_cases hb : b < 0
  · rw [mu_neg g0 b hb, mu_neg f0 b hb]
  · obtain ⟨c, rfl⟩ := Int.eq_ofNat_of_zero_le (by omega : 0 ≤ b)
    -- both are sums to the greatest window
    have key : ∀ {n : Nat} {F G : Int → Int}, (∀ i : Nat, n ≤ i → F i = 0) → (∀ i, i < 0 → G i = 0) → mu n F G c = S (c + 1) fun j => F j * G (c - j) := by
      intro n F G f g0
      have e1 : S (max n (c + 1)) (fun j => F j * G (c - j)) = S n fun j => F j * G (c - j) := S_more (fun i hi => by rw [f i hi, Int.zero_mul]) (Nat.le_max_left _ _)
      have e2 : S (max n (c + 1)) (fun j => F j * G (c - j)) = S (c + 1) fun j => F j * G (c - j) := S_more (fun i hi => by rw [g0 _ (by omega), Int.mul_zero]) (Nat.le_max_right _ _)
      exact e1.symm.trans e2
    rw [key f g0, key g f0, ← S_rev]
    refine S_congr fun j _ => ?_
    rw [show (((c + 1 : Nat) : Int) - 1 - (j : Int)) = c - j by omega, show (c : Int) - (c - j) = j by omega, Int.mul_comm]
theorem co_zero_nat {xs : List Int} (i : Nat) (h : xs.length ≤ i) : co xs i = 0 := co_big (by omega)
/-- the product as a list, trimmed -/
def ml (xs ys : List Int) : List Int := tr (of (xs.length + ys.length) (mu xs.length (co xs) (co ys)))
theorem co_ml (xs ys : List Int) (i : Int) : co (ml xs ys) i = mu xs.length (co xs) (co ys) i := by
  unfold ml
  rw [co_tr, co_of_all (fun i h => mu_neg (fun _ => co_neg) i h) (fun i h => mu_big (m := ys.length) (fun _ => co_big) i (by omega))]
theorem ml_comm (xs ys : List Int) : ml xs ys = ml ys xs := by
  refine nf_ext (nf_tr _) (nf_tr _) fun i => ?_
  show co (ml xs ys) i = co (ml ys xs) i
  rw [co_ml, co_ml]
  exact mu_comm (fun _ => co_neg) co_zero_nat (fun _ => co_neg) co_zero_nat i
theorem co_nil (i : Int) : co [] i = 0 := by
  unfold co
  by_cases h : 0 ≤ i
  · rw [if_pos h]
    rfl
  · rw [if_neg h]
theorem ml_nil (xs : List Int) : ml xs [] = [] := by
  refine nf_ext (nf_tr _) (.inl rfl) fun i => ?_
  show co (ml xs []) i = _
  rw [co_ml, co_nil]
  exact (S_congr fun j _ => by rw [co_nil, Int.mul_zero]).trans (S_zero _)
theorem ml_win {n : Nat} {xs ys : List Int} (h : xs.length + ys.length ≤ n + 1) : tr (of n (mu xs.length (co xs) (co ys))) = ml xs ys :=
  tr_win (fun i h => mu_neg (fun _ => co_neg) i h) (fun i hi => mu_big (m := ys.length) (fun _ => co_big) i (by omega)) (fun i hi => mu_big (m := ys.length) (fun _ => co_big) i (by omega))
/-! ### values -/
/-- the value, from the last number on -/
def ev (t : Int) (xs : List Int) : Int := xs.foldr (fun x v => v * t + x) 0
theorem ev_S (t : Int) (xs : List Int) : ev t xs = S xs.length fun i => co xs i * t ^ i.toNat := by
  induction xs with
  | nil => rfl
  | cons x xs ih =>
    show ev t xs * t + x = _
    rw [List.length_cons, S_front, ih]
    have e : S xs.length (fun j => co (x :: xs) (j + 1) * t ^ (j + 1).toNat) = S xs.length (fun i => co xs i * t ^ i.toNat) * t := by
      rw [← S_mulR]
      refine S_congr fun j _ => ?_
      rw [show ((j : Int) + 1).toNat = j + 1 by omega, show co (x :: xs) ((j : Int) + 1) = co xs j by
        rw [show (j : Int) + 1 = ((j + 1 : Nat) : Int) by omega, co_nat, co_nat]; rfl, Int.pow_succ, Int.toNat_natCast, Int.mul_assoc]
    rw [e, show co (x :: xs) 0 = x from rfl]
    show _ = x * t ^ 0 + _
    rw [Int.pow_zero, Int.mul_one, Int.add_comm]
theorem ev_win {t : Int} {xs : List Int} {F : Int → Int} {n : Nat} (e : ∀ i, co xs i = F i) (h : ∀ i : Nat, n ≤ i → F i = 0) : ev t xs = S n fun i => F i * t ^ i.toNat := by
  have e1 : ev t xs = S xs.length fun i => F i * t ^ i.toNat := (ev_S t xs).trans (S_congr fun j _ => by rw [e])
  have h2 : ∀ i : Nat, xs.length ≤ i → F i * t ^ (i : Int).toNat = 0 := fun i hi => by rw [← e, co_big (by omega), Int.zero_mul]
  have a1 := S_more (m := max n xs.length) (F := fun i => F i * t ^ i.toNat) h2 (Nat.le_max_right _ _)
  have a2 := S_more (n := n) (m := max n xs.length) (F := fun i => F i * t ^ i.toNat) (fun i hi => by show F i * _ = 0; rw [h i hi, Int.zero_mul]) (Nat.le_max_left _ _)
  rw [e1, ← a1, a2]
theorem ev_ml (t : Int) (xs ys : List Int) : ev t (ml xs ys) = ev t xs * ev t ys := by
  rw [ev_win (n := xs.length + ys.length) (co_ml xs ys) (fun i hi => mu_big (m := ys.length) (fun _ => co_big) i (by omega))]
  have e1 : S (xs.length + ys.length) (fun i => mu xs.length (co xs) (co ys) i * t ^ i.toNat) = S (xs.length + ys.length) (fun i => S xs.length fun j => co xs j * co ys (i - j) * t ^ i.toNat) :=
    S_congr fun i _ => (S_mulR _ _ _).symm
  rw [e1, S_swap (xs.length + ys.length) xs.length fun i j => co xs j * co ys (i - j) * t ^ i.toNat, ev_S t xs, ← S_mulR]
  refine S_congr fun j hj => ?_
  have e2 : S (xs.length + ys.length) (fun i => co xs j * co ys (i - j) * t ^ i.toNat) = co xs j * S (xs.length + ys.length) (fun i => co ys (i - j) * t ^ i.toNat) := by
    rw [← S_mulL]
    exact S_congr fun i _ => Int.mul_assoc _ _ _
  rw [e2, Int.mul_assoc]
  congr 1
  rw [ev_S t ys]
  -- the sum from j on
  have cut : ∀ (k n : Nat) (f : Int → Int), (∀ i : Nat, i < k → f i = 0) → S (k + n) f = S n fun i => f (i + k) := by
    intro k n f h
    induction n with
    | zero => exact (S_congr h).trans (S_zero k)
    | succ n ih =>
      show S (k + n) f + f ((k + n : Nat) : Int) = S n (fun i => f (i + k)) + f ((n : Int) + k)
      rw [ih, show ((k + n : Nat) : Int) = (n : Int) + k by omega]
  have e3 := cut j (xs.length - j + ys.length) (fun i => co ys (i - j) * t ^ i.toNat) fun i hi => by rw [co_neg (by omega), Int.zero_mul]
  rw [show j + (xs.length - j + ys.length) = xs.length + ys.length by omega] at e3
  rw [e3, show Int.toNat (j : Int) = j from rfl]
  have e4 : S (xs.length - j + ys.length) (fun i => co ys (i + j - j) * t ^ (i + (j : Int)).toNat) = S ys.length fun i => co ys i * t ^ (i + (j : Int)).toNat := by
    rw [S_congr (G := fun i => co ys i * t ^ (i + (j : Int)).toNat) fun i _ => by rw [Int.add_sub_cancel]]
    exact S_more (fun i hi => by rw [co_big (by omega), Int.zero_mul]) (by omega)
  rw [e4, ← S_mulL]
  refine S_congr fun i _ => ?_
  rw [show ((i : Int) + (j : Int)).toNat = j + i by omega, Int.pow_add, show Int.toNat (i : Int) = i from rfl, ← Int.mul_assoc, Int.mul_comm (co ys i), Int.mul_assoc, Int.mul_comm (co ys i)]
end Po

/-! Division by monic polynomials, the long way, from the highest shift down. -/
namespace Po
open Pv
def stp (d : Nat) (B R : Int → Int) (s : Nat) : Int → Int := fun i => R i - R ((s : Int) + d) * B (i - s)
/-- what is left behind the shifts s - 1, s - 2 down to 0 -/
def run (d : Nat) (B : Int → Int) : Nat → (Int → Int) → Int → Int
  | 0, R => R
  | s + 1, R => run d B s (stp d B R s)
def fac (d : Nat) (B : Int → Int) : Nat → (Int → Int) → List Int
  | 0, _ => []
  | s + 1, R => fac d B s (stp d B R s) ++ [R ((s : Int) + d)]
theorem fac_len (d : Nat) (B : Int → Int) : ∀ (s : Nat) (R : Int → Int), (fac d B s R).length = s
  | 0, _ => rfl
  | s + 1, R => by
    show (fac d B s _ ++ [_]).length = _
    rw [List.length_append, fac_len d B s]
    rfl
/-- the rest, the quotient -/
def rs (one div : List Int) : List Int := tr (of one.length (run (div.length - 1) (co div) (one.length - (div.length - 1)) (co one)))
def qs (one div : List Int) : List Int := tr (fac (div.length - 1) (co div) (one.length - (div.length - 1)) (co one))
/-- monic: a 1 at its end -/
def Mo (div : List Int) : Prop := ∃ ys, div = ys ++ [1]
theorem Mo.len {div : List Int} (h : Mo div) : 1 ≤ div.length := by
  obtain ⟨ys, rfl⟩ := h
  simp
theorem Mo.top {div : List Int} (h : Mo div) : co div ((div.length - 1 : Nat) : Int) = 1 := by
  obtain ⟨ys, rfl⟩ := h
  rw [co_get (by simp)]
  simp
theorem Mo.big {div : List Int} (h : Mo div) (i : Int) (hi : ((div.length - 1 : Nat) : Int) < i) : co div i = 0 := by
  have := h.len
  exact co_big (by omega)
theorem mul_run {d : Nat} {B : Int → Int} (h1 : B d = 1) (h2 : ∀ i, (d : Int) < i → B i = 0) (F : Int → Int) : ∀ s : Nat, run d B s (mu s F B) = (fun _ => 0) ∧ fac d B s (mu s F B) = of s F
  | 0 => ⟨rfl, rfl⟩
  | s + 1 => by
    have lead : mu (s + 1) F B ((s : Int) + d) = F s := by
      show mu s F B ((s : Int) + d) + F s * B ((s : Int) + d - s) = F s
      have e : mu s F B ((s : Int) + d) = 0 := by
        refine (S_congr fun j hj => ?_).trans (S_zero s)
        rw [h2 _ (by omega), Int.mul_zero]
      rw [e, show (s : Int) + d - s = d by omega, h1, Int.zero_add, Int.mul_one]
    have st : stp d B (mu (s + 1) F B) s = mu s F B := by
      funext i
      show mu (s + 1) F B i - mu (s + 1) F B ((s : Int) + d) * B (i - s) = _
      rw [lead]
      show mu s F B i + F s * B (i - s) - F s * B (i - s) = _
      omega
    obtain ⟨e1, e2⟩ := mul_run h1 h2 F s
    refine ⟨?_, ?_⟩
    · show run d B s (stp d B (mu (s + 1) F B) s) = _
      rw [st, e1]
    · show fac d B s (stp d B (mu (s + 1) F B) s) ++ [mu (s + 1) F B ((s : Int) + d)] = _
      rw [st, e2, lead]
      unfold of
      rw [List.range_succ, List.map_append]
      rfl
theorem tr_zeros (n : Nat) : tr (of n fun _ => 0) = [] := nf_ext (nf_tr _) (.inl rfl) fun i => by
  rw [co_tr, co_of_all (fun _ _ => rfl) (fun _ _ => rfl), co_nil]
/-- what was multiplied comes out again -/
theorem div_ml {xs div : List Int} (hx : Nf xs) (hm : Mo div) : qs (ml xs div) div = xs ∧ rs (ml xs div) div = [] := by
  have hl := hm.len
  have hL : (ml xs div).length - (div.length - 1) = xs.length := by
    rcases hx with rfl | ⟨ys, y, hy, rfl⟩
    · rw [ml_comm, ml_nil]
      simp
    · have n1 : ((ys ++ [y]).length : Nat) = ys.length + 1 := by simp
      have top : co (ml (ys ++ [y]) div) ((ys.length + (div.length - 1) : Nat) : Int) = y := by
        rw [co_ml, n1]
        show mu ys.length (co (ys ++ [y])) (co div) _ + co (ys ++ [y]) (ys.length : Int) * co div (((ys.length + (div.length - 1) : Nat) : Int) - (ys.length : Int)) = y
        have e : mu ys.length (co (ys ++ [y])) (co div) ((ys.length + (div.length - 1) : Nat) : Int) = 0 := by
          refine (S_congr fun j hj => ?_).trans (S_zero _)
          rw [hm.big _ (by omega), Int.mul_zero]
        rw [e, show (((ys.length + (div.length - 1) : Nat) : Int) - (ys.length : Int)) = ((div.length - 1 : Nat) : Int) by omega, hm.top, Int.zero_add, Int.mul_one, co_get (by simp)]
        simp
      have l1 : ys.length + (div.length - 1) < (ml (ys ++ [y]) div).length := by
        refine Classical.byContradiction fun z => hy ?_
        rw [← top, co_big (by omega)]
      have l2 : (ml (ys ++ [y]) div).length ≤ ys.length + 1 + (div.length - 1) := by
        have := nf_len (ys := of (ys.length + 1 + (div.length - 1)) (mu (ys.length + 1) (co (ys ++ [y])) (co div))) (nf_tr _ : Nf (ml (ys ++ [y]) div)) fun i => by
          show co (ml (ys ++ [y]) div) i = _
          rw [co_ml, co_of_all (fun i h => mu_neg (fun _ => co_neg) i h) (fun i h => mu_big (m := div.length) (fun _ => co_big) i (by omega)), n1]
        rw [of_len] at this
        exact this
      rw [n1]
      omega
  have e : co (ml xs div) = mu xs.length (co xs) (co div) := funext fun i => co_ml xs div i
  obtain ⟨a1, a2⟩ := mul_run hm.top hm.big (co xs) xs.length
  refine ⟨?_, ?_⟩
  · unfold qs
    rw [hL, e, a2, of_co rfl, hx.tr]
  · unfold rs
    rw [hL, e, a1, tr_zeros]
theorem mo_one : Mo [1] := ⟨[], rfl⟩
theorem ml_one {xs : List Int} (hx : Nf xs) : ml xs [1] = xs := by
  refine nf_ext (nf_tr _) hx fun i => ?_
  show co (ml xs [1]) i = _
  rw [ml_comm, co_ml]
  show 0 + co [1] 0 * co xs (i - 0) = _
  rw [Int.sub_zero, Int.zero_add, show co [1] 0 = 1 from rfl, Int.one_mul]
theorem div_one {xs : List Int} (hx : Nf xs) : qs xs [1] = xs ∧ rs xs [1] = [] := by
  have := div_ml hx mo_one
  rw [ml_one hx] at this
  exact this
theorem div_nil (div : List Int) : qs [] div = [] ∧ rs [] div = [] := by
  unfold qs rs
  rw [List.length_nil, Nat.zero_sub]
  exact ⟨rfl, rfl⟩
/-! ### by x ** n - 1 -/
theorem run_clock {n : Nat} {B : Int → Int} (hn : 0 < n) (b0 : B 0 = -1) (b1 : B n = 1) (b2 : ∀ i, i ≠ 0 → i ≠ (n : Int) → B i = 0) : ∀ (m : Nat) (R : Int → Int), m ≤ n → ∀ i : Int,
    run n B m R i = if 0 ≤ i ∧ i < (m : Int) then R i + R (i + n) else if (n : Int) ≤ i ∧ i < (n : Int) + m then 0 else R i
  | 0, R, _, i => by
    rw [if_neg (by omega), if_neg (by omega)]
    rfl
  | s + 1, R, h, i => by
    show run n B s (stp n B R s) i = _
    rw [run_clock hn b0 b1 b2 s (stp n B R s) (by omega) i]
    have h1 : stp n B R s s = R s + R ((s : Int) + n) := by
      show R s - R ((s : Int) + n) * B ((s : Int) - s) = _
      rw [Int.sub_self, b0]
      omega
    have h2 : stp n B R s ((s : Int) + n) = 0 := by
      show R ((s : Int) + n) - R ((s : Int) + n) * B ((s : Int) + n - s) = _
      rw [show (s : Int) + n - s = n by omega, b1]
      omega
    have h3 : ∀ j : Int, j ≠ s → j ≠ (s : Int) + n → stp n B R s j = R j := fun j z1 z2 => by
      show R j - R ((s : Int) + n) * B (j - s) = _
      rw [b2 _ (by omega) (by omega)]
      omega
    by_cases c1 : 0 ≤ i ∧ i < (s : Int)
    · rw [if_pos c1, if_pos (by omega), h3 i (by omega) (by omega), h3 (i + n) (by omega) (by omega)]
    · rw [if_neg c1]
      by_cases c2 : (n : Int) ≤ i ∧ i < (n : Int) + s
      · rw [if_pos c2, if_neg (by omega), if_pos (by omega)]
      · rw [if_neg c2]
        by_cases c3 : i = s
        · subst c3
          rw [h1, if_pos (by omega)]
        · by_cases c4 : i = (s : Int) + n
          · subst c4
            rw [h2, if_neg (by omega), if_pos (by omega)]
          · rw [h3 i c3 c4, if_neg (by omega), if_neg (by omega)]
/-- x ** n - 1 -/
def cl (n : Nat) : List Int := (-1) :: (List.replicate (n - 1) 0 ++ [1])
theorem cl_len {n : Nat} (hn : 0 < n) : (cl n).length = n + 1 := by
  unfold cl
  simp
  omega
theorem cl_mo (n : Nat) : Mo (cl n) := ⟨(-1) :: List.replicate (n - 1) 0, rfl⟩
theorem cl_co {n : Nat} (hn : 0 < n) (i : Int) (h0 : i ≠ 0) (h1 : i ≠ (n : Int)) : co (cl n) i = 0 := by
  by_cases z : i < 0
  · exact co_neg z
  · by_cases y : (n : Int) < i
    · exact co_big (by rw [cl_len hn]; omega)
    · obtain ⟨j, rfl⟩ : ∃ j : Nat, i = ((j + 1 : Nat) : Int) := ⟨(i - 1).toNat, by omega⟩
      rw [co_nat, List.getD_eq_getElem?_getD]
      unfold cl
      rw [List.getElem?_cons_succ, List.getElem?_append_left (by rw [List.length_replicate]; omega), List.getElem?_replicate, if_pos (by omega)]
      rfl
theorem poly_clock {n : Nat} {xs ys : List Int} (lx : xs.length = n) (ly : ys.length = n) (hn : 0 < n) : rs (ml (tr xs) (tr ys)) (cl n) = tr (of n (conv n (per xs) (per ys))) := by
  refine nf_ext (nf_tr _) (nf_tr _) fun i => ?_
  have d : (cl n).length - 1 = n := by rw [cl_len hn]; omega
  have b1 : co (cl n) n = 1 := by
    have := (cl_mo n).top
    rw [d] at this
    exact this
  have eR : ∀ i, co (ml (tr xs) (tr ys)) i = mu n (co xs) (co ys) i := fun i => by
    rw [co_ml]
    rw [mu_congr (fun j => co_tr xs j) (fun j => co_tr ys j)]
    have l1 := tr_len xs
    refine (mu_more (fun j hj => ?_) (by omega) i).symm
    rw [← co_tr]
    exact co_big (by omega)
  have lm : (ml (tr xs) (tr ys)).length ≤ 2 * n := Nat.le_trans (tr_len _) (by rw [of_len]; have := tr_len xs; have := tr_len ys; omega)
  unfold rs
  rw [co_tr, co_tr, d]
  have big : ∀ i : Int, ((ml (tr xs) (tr ys)).length : Int) ≤ i → co (ml (tr xs) (tr ys)) i = 0 := fun i h => co_big h
  have neg : ∀ i : Int, i < 0 → co (ml (tr xs) (tr ys)) i = 0 := fun i h => co_neg h
  have rc := run_clock (B := co (cl n)) hn rfl b1 (fun i => cl_co hn i) ((ml (tr xs) (tr ys)).length - n) (co (ml (tr xs) (tr ys))) (by omega)
  rw [co_of_all (fun i h => by rw [rc, if_neg (by omega), if_neg (by omega)]; exact neg i h) (fun i h => by
    rw [rc]
    by_cases c1 : 0 ≤ i ∧ i < (((ml (tr xs) (tr ys)).length - n : Nat) : Int)
    · omega
    · rw [if_neg c1]
      by_cases c2 : (n : Int) ≤ i ∧ i < (n : Int) + (((ml (tr xs) (tr ys)).length - n : Nat) : Int)
      · rw [if_pos c2]
      · rw [if_neg c2, big i h]), rc]
  by_cases z : 0 ≤ i ∧ i < (n : Int)
  · obtain ⟨b, rfl⟩ := Int.eq_ofNat_of_zero_le z.1
    have hb : b < n := by omega
    rw [co_of hb]
    have e1 : (if 0 ≤ (b : Int) ∧ (b : Int) < (((ml (tr xs) (tr ys)).length - n : Nat) : Int) then co (ml (tr xs) (tr ys)) b + co (ml (tr xs) (tr ys)) ((b : Int) + n)
        else if (n : Int) ≤ (b : Int) ∧ (b : Int) < (n : Int) + (((ml (tr xs) (tr ys)).length - n : Nat) : Int) then 0 else co (ml (tr xs) (tr ys)) b) = co (ml (tr xs) (tr ys)) b + co (ml (tr xs) (tr ys)) ((b : Int) + n) := by
      by_cases c1 : 0 ≤ (b : Int) ∧ (b : Int) < (((ml (tr xs) (tr ys)).length - n : Nat) : Int)
      · rw [if_pos c1]
      · rw [if_neg c1, if_neg (by omega), big ((b : Int) + n) (by omega), Int.add_zero]
    rw [e1, eR, eR]
    unfold mu
    rw [← S_add]
    refine S_congr fun j hj => ?_
    rw [← Int.mul_add]
    have px : per xs j = co xs j := by rw [per_get (by omega), co_get (by omega)]
    rw [px]
    congr 1
    by_cases y : (j : Int) ≤ b
    · obtain ⟨t, ht⟩ := Int.eq_ofNat_of_zero_le (by omega : 0 ≤ (b : Int) - j)
      rw [ht, co_big (by omega : (ys.length : Int) ≤ (b : Int) + n - j), Int.add_zero, per_get (by omega), co_get (by omega)]
    · obtain ⟨t, ht⟩ := Int.eq_ofNat_of_zero_le (by omega : 0 ≤ (b : Int) + n - j)
      rw [co_neg (by omega : (b : Int) - j < 0), Int.zero_add, ht]
      have pp : Per n (per ys) := ly ▸ per_per ys
      rw [← pp ((b : Int) - j), show (b : Int) - j + n = t by omega, per_get (by omega), co_get (by omega)]
  · rw [if_neg (by omega)]
    by_cases y : i < 0
    · rw [if_neg (by omega), neg i y, co_neg y]
    · rw [co_big (xs := of n _) (by rw [of_len]; omega)]
      by_cases c2 : (n : Int) ≤ i ∧ i < (n : Int) + (((ml (tr xs) (tr ys)).length - n : Nat) : Int)
      · rw [if_pos c2]
      · rw [if_neg c2, big i (by omega)]
/-! ### sizes -/
theorem abs_step {c e : Nat} {R B : Int → Int} {d s : Nat} (hR : ∀ i, (R i).natAbs ≤ 2 ^ c) (hB : ∀ i, (B i).natAbs ≤ 2 ^ e) (i : Int) : (stp d B R s i).natAbs ≤ 2 ^ (c + (e + 1)) := by
  have h1 := hR i
  have h2 : (R ((s : Int) + d) * B (i - s)).natAbs ≤ 2 ^ c * 2 ^ e := by
    rw [Int.natAbs_mul]
    exact Nat.mul_le_mul (hR _) (hB _)
  have h3 : (2 : Nat) ^ c ≤ 2 ^ c * 2 ^ e := Nat.le_mul_of_pos_right _ (Nat.pow_pos (by decide))
  have h4 : (2 : Nat) ^ (c + (e + 1)) = 2 * (2 ^ c * 2 ^ e) := by
    rw [Nat.pow_add, Nat.pow_succ, ← Nat.mul_assoc, Nat.mul_comm]
  show (R i - R ((s : Int) + d) * B (i - s)).natAbs ≤ _
  omega
theorem abs_run {d e : Nat} {B : Int → Int} (hB : ∀ i, (B i).natAbs ≤ 2 ^ e) : ∀ (s c : Nat) (R : Int → Int), (∀ i, (R i).natAbs ≤ 2 ^ c) → (∀ i, (run d B s R i).natAbs ≤ 2 ^ (c + s * (e + 1))) ∧ ∀ x ∈ fac d B s R, x.natAbs ≤ 2 ^ (c + s * (e + 1))
  | 0, c, R, h => ⟨fun i => by rw [Nat.zero_mul]; exact h i, fun x hx => absurd hx List.not_mem_nil⟩
  | s + 1, c, R, h => by
    obtain ⟨a1, a2⟩ := abs_run (d := d) hB s (c + (e + 1)) (stp d B R s) (abs_step h hB)
    have e1 : c + (e + 1) + s * (e + 1) = c + (s + 1) * (e + 1) := by rw [Nat.succ_mul]; omega
    rw [e1] at a1 a2
    refine ⟨a1, fun x hx => ?_⟩
    rcases List.mem_append.mp hx with z | z
    · exact a2 x z
    · rw [List.mem_singleton.mp z]
      exact Nat.le_trans (h _) (Nat.pow_le_pow_right (by decide) (by omega))
end Po

set_option Elab.async false
set_option linter.all false
set_option maxRecDepth 100000
namespace K2
open PySem PySem.Spec PyProof.Rows L2 Gd Pv RZ Po
theorem shT (xs : List Int) : SeqAt.shaped (dT xs) = true := by
  unfold SeqAt.shaped dT
  have h1 := canInts xs
  have h2 := depthInts xs
  simp only [PyData.canLay0, PyData.depth, h1, Bool.true_and]
  exact decide_eq_true (by omega)
theorem shL (xs : List Int) : SeqAt.shaped (.list (xs.map PyData.int)) = true := by
  unfold SeqAt.shaped
  have h1 := canInts xs
  have h2 := depthInts xs
  simp only [PyData.canLay0, PyData.depth, h1, Bool.true_and]
  exact decide_eq_true (by omega)
theorem eqT_nil (xs : List Int) : PyData.eqv (dT xs) (dT []) = decide (xs = []) := by
  cases xs with
  | nil => rfl
  | cons x xs => rfl
theorem eqL_nil (xs : List Int) : PyData.eqv (.list (xs.map PyData.int)) (.list []) = decide (xs = []) := by
  cases xs with
  | nil => rfl
  | cons x xs => rfl
theorem eqT_one (y z : Int) : PyData.eqv (dT [y]) (dT [z]) = decide (y = z) := by
  show (decide (y = z) && true) = _
  rw [Bool.and_true]
theorem sIx_m1 (n d : Nat) : HT.sIx n d (some (-1)) = n - 1 := by
  unfold HT.sIx
  simp
  omega
/-- the last one of a tuple, as a tuple -/
theorem cut_last {xs : List Int} {y : Int} : cutV ((xs ++ [y]).map V.int) (some (-1)) none = [V.int y] := by
  unfold cutV
  rw [sIx_m1, HT.sIx_none, List.map_append, List.length_append, List.length_map]
  simp
section
variable {P : Program} {w : World} {K : PySem.W.Frag} {mg : Str → Option Value} {base : Heap}
theorem last_full {H : Hp} {a : Addr} {xs : List Int} (ha : TAt H a xs) (h : HT.sIx (xs.map V.int).length 0 (some (-1)) = 0 ∧ HT.sIx (xs.map V.int).length (xs.map V.int).length none = (xs.map V.int).length) : TAt H a (xs.drop (xs.length - 1)) := by
  have h1 := h.1
  rw [sIx_m1, List.length_map] at h1
  rw [h1]
  exact ha
theorem last_part {H : Hp} {p : Addr} {xs : List Int} : TAt (upd H p (.tup (cutV (xs.map V.int) (some (-1)) none))) p (xs.drop (xs.length - 1)) := by
  show upd H p _ p = _
  rw [upd_same]
  congr 2
  unfold cutV
  rw [sIx_m1, HT.sIx_none, List.length_map, ← List.map_drop, List.take_of_length_le (by simp)]
def spIsPoly : Sp := fun vs H Q _ => ∃ (a : Addr) (xs : List Int), vs = [.ref a] ∧ TAt H a xs ∧ Nf xs ∧ xs.length ≤ 1000 ∧ ∀ H', Same H H' → Q (.bl true) H'
def spIsMonic : Sp := fun vs H Q _ => ∃ (a : Addr) (xs : List Int), vs = [.ref a] ∧ TAt H a xs ∧ Mo xs ∧ xs.length ≤ 1000 ∧ ∀ H', Same H H' → Q (.bl true) H'
theorem c_is_polynomial (D : At K mg "is_polynomial" s_is_polynomial ["thing"]) (c_are_integers : Cal P w K mg base 2 "are_integers" (spAreInts K)) : Cal P w K mg base 3 "is_polynomial" spIsPoly := by
  refine okC D sc_is_polynomial (fun vs H Q E h => ?_) (fun f cdv A outer s H vs Q E hr h => ?_)
  · obtain ⟨a, xs, rfl, _⟩ := h
    rfl
  · obtain ⟨a, xs, rfl, ha, hx, h2, q⟩ := h
    have nd := sc_is_polynomial.nd
    have hu64 := hr.units
    refine ⟨_, (pss_one (ps_ret (pe_and (pe_k c_are_integers hr (by decide) (by rfl) (pa_cons (pv 0) pa_nil)) (pe_one (pe_cmpR (op_neD hu64) (pe_slice sl_tupA (pv 0) (po_some (pe_un un_neg pe_int)) po_none) (pe_tup (pa_cons pe_int pa_nil)) (nomark _)))))), ?_⟩
    refine ⟨_, rfl, a, xs, rfl, ha, h2, fun H1 s1 => ⟨true, rfl, iteT ?_⟩⟩
    refine ⟨_, rfl, _, rfl, _, rfl, a, _, rfl, (ha.same s1).sq, fun hc => ?_, fun hc p hp => ?_⟩
    · have eb := last_full (ha.same s1) hc
      have s2 := Same.refl H1
      refine ⟨(by show 1 ≤ sizeLine; decide), fun t ht => ?_⟩
      have st := same_new (o := .tup [V.int 0]) ht
      refine ⟨dT (xs.drop (xs.length - 1)), dT [0], dpT (eb.same st), dpT (show TAt _ t [0] from upd_same), shT _, shT _, ?_⟩
      have e : PyData.eqv (dT (xs.drop (xs.length - 1))) (dT [0]) = false := by
        rcases hx with rfl | ⟨ys, y, hy, rfl⟩
        · rfl
        · rw [List.length_append, show (ys.length + [y].length - 1) = ys.length by simp, List.drop_left, eqT_one, decide_eq_false hy]
      rw [e]
      exact q _ ((s1.trans s2).trans st)
    · have eb := last_part (H := H1) (p := p) (xs := xs)
      have s2 := same_new (o := .tup (cutV (xs.map V.int) (some (-1)) none)) hp
      refine ⟨(by show 1 ≤ sizeLine; decide), fun t ht => ?_⟩
      have st := same_new (o := .tup [V.int 0]) ht
      refine ⟨dT (xs.drop (xs.length - 1)), dT [0], dpT (eb.same st), dpT (show TAt _ t [0] from upd_same), shT _, shT _, ?_⟩
      have e : PyData.eqv (dT (xs.drop (xs.length - 1))) (dT [0]) = false := by
        rcases hx with rfl | ⟨ys, y, hy, rfl⟩
        · rfl
        · rw [List.length_append, show (ys.length + [y].length - 1) = ys.length by simp, List.drop_left, eqT_one, decide_eq_false hy]
      rw [e]
      exact q _ ((s1.trans s2).trans st)
theorem c_is_monic (D : At K mg "is_monic" s_is_monic ["thing"]) (c_are_integers : Cal P w K mg base 2 "are_integers" (spAreInts K)) : Cal P w K mg base 3 "is_monic" spIsMonic := by
  refine okC D sc_is_monic (fun vs H Q E h => ?_) (fun f cdv A outer s H vs Q E hr h => ?_)
  · obtain ⟨a, xs, rfl, _⟩ := h
    rfl
  · obtain ⟨a, xs, rfl, ha, hx, h2, q⟩ := h
    have nd := sc_is_monic.nd
    have hu64 := hr.units
    refine ⟨_, (pss_one (ps_ret (pe_and (pe_k c_are_integers hr (by decide) (by rfl) (pa_cons (pv 0) pa_nil)) (pe_one (pe_cmpR (op_eqD hu64) (pe_slice sl_tupA (pv 0) (po_some (pe_un un_neg pe_int)) po_none) (pe_tup (pa_cons pe_int pa_nil)) (nomark _)))))), ?_⟩
    refine ⟨_, rfl, a, xs, rfl, ha, h2, fun H1 s1 => ⟨true, rfl, iteT ?_⟩⟩
    refine ⟨_, rfl, _, rfl, _, rfl, a, _, rfl, (ha.same s1).sq, fun hc => ?_, fun hc p hp => ?_⟩
    · have eb := last_full (ha.same s1) hc
      have s2 := Same.refl H1
      refine ⟨(by show 1 ≤ sizeLine; decide), fun t ht => ?_⟩
      have st := same_new (o := .tup [V.int 1]) ht
      refine ⟨dT (xs.drop (xs.length - 1)), dT [1], dpT (eb.same st), dpT (show TAt _ t [1] from upd_same), shT _, shT _, ?_⟩
      have e : PyData.eqv (dT (xs.drop (xs.length - 1))) (dT [1]) = true := by
        obtain ⟨ys, rfl⟩ := hx
        rw [List.length_append, show (ys.length + [(1 : Int)].length - 1) = ys.length by simp, List.drop_left, eqT_one, decide_eq_true rfl]
      rw [e]
      exact q _ ((s1.trans s2).trans st)
    · have eb := last_part (H := H1) (p := p) (xs := xs)
      have s2 := same_new (o := .tup (cutV (xs.map V.int) (some (-1)) none)) hp
      refine ⟨(by show 1 ≤ sizeLine; decide), fun t ht => ?_⟩
      have st := same_new (o := .tup [V.int 1]) ht
      refine ⟨dT (xs.drop (xs.length - 1)), dT [1], dpT (eb.same st), dpT (show TAt _ t [1] from upd_same), shT _, shT _, ?_⟩
      have e : PyData.eqv (dT (xs.drop (xs.length - 1))) (dT [1]) = true := by
        obtain ⟨ys, rfl⟩ := hx
        rw [List.length_append, show (ys.length + [(1 : Int)].length - 1) = ys.length by simp, List.drop_left, eqT_one, decide_eq_true rfl]
      rw [e]
      exact q _ ((s1.trans s2).trans st)
end
end K2

set_option Elab.async false
set_option linter.all false
set_option maxRecDepth 100000
namespace K2
open PySem PySem.Spec PyProof.Rows L2 Gd Pv RZ Po
/-- a list of whole numbers that is followed -/
def LAt (H : Hp) (a : Addr) (xs : List Int) : Prop := H a = some (.lst (xs.map V.int))
theorem LAt.same {H H' : Hp} {a : Addr} {xs : List Int} (s : Same H H') (h : LAt H a xs) : LAt H' a xs := s _ _ h
theorem tr_cut {xs : List Int} {m : Nat} (h : m < xs.length) (z : xs[m] = 0) : tr (xs.take (m + 1)) = tr (xs.take m) := by
  rw [List.take_succ_eq_append_getElem h, z, tr_zero]
theorem tr_stop {xs : List Int} {m : Nat} (h : m < xs.length) (z : xs[m] ≠ 0) : tr (xs.take (m + 1)) = xs.take (m + 1) := by
  rw [List.take_succ_eq_append_getElem h, tr_last z]
theorem at_nat {xs : List Int} {j : Nat} (h : j < xs.length) : atI (xs.map V.int) (j : Int) = some (.int xs[j]) := by
  unfold atI ixN
  rw [List.length_map, if_pos (by omega), if_pos (by omega)]
  show (xs.map V.int)[(j : Int).toNat]? = _
  rw [Int.toNat_natCast, List.getElem?_map, List.getElem?_eq_getElem h]
  rfl
theorem at_last {xs : List Int} {y : Int} : atI ((xs ++ [y]).map V.int) (-1) = some (.int y) := by
  unfold atI ixN
  rw [List.length_map, List.length_append, if_neg (by omega), if_pos (by simp; omega)]
  show ((xs ++ [y]).map V.int)[((-1 : Int) + ((xs.length + [y].length : Nat) : Int)).toNat]? = _
  rw [show ((-1 : Int) + ((xs.length + [y].length : Nat) : Int)).toNat = xs.length by simp; omega, List.getElem?_map]
  simp
theorem cut_take {xs : List Int} {m : Nat} : cutV (xs.map V.int) none (some (m : Int)) = (xs.take m).map V.int := by
  unfold cutV
  rw [HT.sIx_none, HT.sIx_nat, List.drop_zero, Nat.sub_zero, List.length_map, ← List.map_take, ← List.take_eq_take_min]
section
variable {P : Program} {w : World} {K : PySem.W.Frag} {mg : Str → Option Value} {base : Heap}
def spTrimT : Sp := fun vs H Q _ => ∃ (a : Addr) (xs : List Int), vs = [.ref a] ∧ TAt H a xs ∧ xs.length ≤ 1000 ∧ ∀ (p : Addr) (H' : Hp), Same H H' → TAt H' p (tr xs) → Q (.ref p) H'
theorem c_trimmedT (D : At K mg "trimmed" s_trimmed ["weights"]) (z_len : mg "len" = none) (z_tuple : mg "tuple" = none) : Cal P w K mg base 1 "trimmed" spTrimT := by
  refine okC D sc_trimmed (fun vs H Q E h => ?_) (fun f cdv A outer s H vs Q E hr h => ?_)
  · obtain ⟨a, xs, rfl, _⟩ := h
    rfl
  · obtain ⟨a, xs, rfl, ha, hz, q⟩ := h
    have nd := sc_trimmed.nd
    refine ⟨_, (pss_cons (ps_set (i := 1) nd rfl (.inl rfl) (pe_callB call_len_seq (by rfl) z_len PySem.boot_len (pa_cons (pv 0) pa_nil)))
 (pss_cons (ps_while PassesOwn.never (PW.pt (pw_and (pt_cmpR op_gt (pv 1) pe_int (nomark _)) (pw_and1 (pt_cmpR op_eq (pe_ix ix_tup (pv 0) (pe_op op_sub (pv 1) pe_int) (fun _ _ => rfl)) pe_int (nomark _)))))
 (pss_one (ps_aug (i := 1) nd rfl (.inl rfl) pe_int ip_sub)))
 (pss_one (ps_ret (pe_tupleOf (by rfl) z_tuple (pe_slice sl_tupA (pv 0) po_none (po_some (pv 1)))))))), ?_⟩
    refine ⟨_, rfl, a, _, rfl, .inr ha.sq, fun m σ H' => σ = [some (.ref a), some (.int (m : Nat))] ∧ H' = H ∧ m ≤ xs.length ∧ tr (xs.take m) = tr xs, ⟨xs.length, by rw [List.length_map]; rfl, rfl, Nat.le_refl _, by rw [List.take_length]⟩, ?_⟩
    rintro m σ H1 ⟨rfl, rfl, hm, ht⟩
    have fin : tr (xs.take m) = xs.take m → (tThen (tSl (rSlA K) (tVar 0) tNoPart (tPart (tVar 1))) (kTup K)) [some (.ref a), some (.int (m : Nat))] H1 Q := fun e => by
      refine ⟨_, rfl, _, rfl, _, rfl, a, _, rfl, ha.sq, fun hc => ?_, fun hc p hp => ?_⟩
      · refine .inr ⟨a, _, rfl, ha.sq, q a H1 (Same.refl _) ?_⟩
        have h2 := hc.2
        rw [HT.sIx_nat, List.length_map] at h2
        rw [← ht, e, List.take_of_length_le (by omega)]
        exact ha
      · refine .inr ⟨p, xs.take m |>.map V.int, rfl, .inl (.inl (by rw [upd_same, cut_take])), q p _ (same_new hp) ?_⟩
        show upd H1 p _ p = _
        rw [upd_same, cut_take, ← ht, e]
    refine ⟨_, rfl, _, _, rfl, rfl, _, rfl, ite2 (fun c => ?_) (fun c => ?_)⟩
    · have c1 : (0 : Int) < (m : Int) := of_decide_eq_true c
      obtain ⟨j, rfl⟩ : ∃ j, m = j + 1 := ⟨m - 1, by omega⟩
      have hj : j < xs.length := by omega
      have at0 : atI (xs.map V.int) (((j + 1 : Nat) : Int) - 1) = some (.int xs[j]) := by
        rw [show ((j + 1 : Nat) : Int) - 1 = (j : Int) by omega]
        exact at_nat hj
      refine ⟨_, rfl, _, rfl, _, _, rfl, rfl, a, _, _, _, rfl, rfl, .inl (.inl ha), at0, rfl, _, rfl, ite2 (fun e => ?_) (fun e => ?_)⟩
      · have e0 : xs[j] = 0 := V.int.inj (of_decide_eq_true e)
        refine ⟨fun σ' H' => ∃ m', m' < j + 1 ∧ (σ' = [some (.ref a), some (.int (m' : Nat))] ∧ H' = H1 ∧ m' ≤ xs.length ∧ tr (xs.take m') = tr xs), fun _ _ z => z, ?_⟩
        refine ⟨_, rfl, _, _, rfl, rfl, j, by omega, ?_, rfl, by omega, by rw [← tr_cut hj e0, ht]⟩
        show _ = [some (V.ref a), some (V.int (j : Nat))]
        rw [show ((j : Nat) : Int) = ((j + 1 : Nat) : Int) - 1 by omega]
        rfl
      · have e0 : xs[j] ≠ 0 := fun z => e (decide_eq_true (congrArg V.int z))
        exact fin (tr_stop hj e0)
    · have c1 : ¬ (0 : Int) < (m : Int) := fun z => c (decide_eq_true z)
      obtain rfl : m = 0 := by omega
      exact iteF (fin rfl)

def spTrimL : Sp := fun vs H Q _ => ∃ (a : Addr) (xs : List Int), vs = [.ref a] ∧ LAt H a xs ∧ xs.length ≤ 1000 ∧ ∀ (p : Addr) (H' : Hp), Same H H' → TAt H' p (tr xs) → Q (.ref p) H'
theorem c_trimmedL (D : At K mg "trimmed" s_trimmed ["weights"]) (z_len : mg "len" = none) (z_tuple : mg "tuple" = none) : Cal P w K mg base 1 "trimmed" spTrimL := by
  refine okC D sc_trimmed (fun vs H Q E h => ?_) (fun f cdv A outer s H vs Q E hr h => ?_)
  · obtain ⟨a, xs, rfl, _⟩ := h
    rfl
  · obtain ⟨a, xs, rfl, ha, hz, q⟩ := h
    have nd := sc_trimmed.nd
    refine ⟨_, (pss_cons (ps_set (i := 1) nd rfl (.inl rfl) (pe_callB call_len_seq (by rfl) z_len PySem.boot_len (pa_cons (pv 0) pa_nil)))
 (pss_cons (ps_while PassesOwn.never (PW.pt (pw_and (pt_cmpR op_gt (pv 1) pe_int (nomark _)) (pw_and1 (pt_cmpR op_eq (pe_ix ix_list (pv 0) (pe_op op_sub (pv 1) pe_int) (fun _ _ => rfl)) pe_int (nomark _)))))
 (pss_one (ps_aug (i := 1) nd rfl (.inl rfl) pe_int ip_sub)))
 (pss_one (ps_ret (pe_tupleOf (by rfl) z_tuple (pe_slice sl_list (pv 0) po_none (po_some (pv 1)))))))), ?_⟩
    refine ⟨_, rfl, a, _, rfl, .inl (.inl (.inl ha)), fun m σ H' => σ = [some (.ref a), some (.int (m : Nat))] ∧ H' = H ∧ m ≤ xs.length ∧ tr (xs.take m) = tr xs, ⟨xs.length, by rw [List.length_map]; rfl, rfl, Nat.le_refl _, by rw [List.take_length]⟩, ?_⟩
    rintro m σ H1 ⟨rfl, rfl, hm, ht⟩
    have fin : tr (xs.take m) = xs.take m → (tThen (tSl (rSlL K) (tVar 0) tNoPart (tPart (tVar 1))) (kTup K)) [some (.ref a), some (.int (m : Nat))] H1 Q := fun e => by
      refine ⟨_, rfl, _, rfl, _, rfl, a, _, rfl, .inl (.inl ha), fun p hp => ?_⟩
      refine .inl ⟨p, xs.take m |>.map V.int, rfl, .inl (.inl (by rw [upd_same, cut_take])), fun t h2 => q t _ ((same_new hp).trans (same_new h2)) ?_⟩
      show upd _ t _ t = _
      rw [upd_same, ← ht, e]
    refine ⟨_, rfl, _, _, rfl, rfl, _, rfl, ite2 (fun c => ?_) (fun c => ?_)⟩
    · have c1 : (0 : Int) < (m : Int) := of_decide_eq_true c
      obtain ⟨j, rfl⟩ : ∃ j, m = j + 1 := ⟨m - 1, by omega⟩
      have hj : j < xs.length := by omega
      have at0 : atI (xs.map V.int) (((j + 1 : Nat) : Int) - 1) = some (.int xs[j]) := by
        rw [show ((j + 1 : Nat) : Int) - 1 = (j : Int) by omega]
        exact at_nat hj
      refine ⟨_, rfl, _, rfl, _, _, rfl, rfl, a, _, _, _, rfl, rfl, .inl (.inl ha), at0, rfl, _, rfl, ite2 (fun e => ?_) (fun e => ?_)⟩
      · have e0 : xs[j] = 0 := V.int.inj (of_decide_eq_true e)
        refine ⟨fun σ' H' => ∃ m', m' < j + 1 ∧ (σ' = [some (.ref a), some (.int (m' : Nat))] ∧ H' = H1 ∧ m' ≤ xs.length ∧ tr (xs.take m') = tr xs), fun _ _ z => z, ?_⟩
        refine ⟨_, rfl, _, _, rfl, rfl, j, by omega, ?_, rfl, by omega, by rw [← tr_cut hj e0, ht]⟩
        show _ = [some (V.ref a), some (V.int (j : Nat))]
        rw [show ((j : Nat) : Int) = ((j + 1 : Nat) : Int) - 1 by omega]
        rfl
      · have e0 : xs[j] ≠ 0 := fun z => e (decide_eq_true (congrArg V.int z))
        exact fin (tr_stop hj e0)
    · have c1 : ¬ (0 : Int) < (m : Int) := fun z => c (decide_eq_true z)
      obtain rfl : m = 0 := by omega
      exact iteF (fin rfl)

/-- of a tuple or a list -/
def spBare (K : PySem.W.Frag) : Sp := fun vs H Q _ => ∃ (a : Addr) (xs : List Int), vs = [.ref a] ∧ (SqL K H a (xs.map V.int) ∨ SqT K H a (xs.map V.int)) ∧ xs.length ≤ 1000 ∧ ∀ (p : Addr) (H' : Hp), Same H H' → TAt H' p (tr xs) → Q (.ref p) H'
theorem c__law_bare (D : At K mg "_law_bare" s__law_bare ["_law_row_here"]) (z_list : mg "list" = none) (z_tuple : mg "tuple" = none) : Cal P w K mg base 1 "_law_bare" (spBare K) := by
  refine okC D sc__law_bare (fun vs H Q E h => ?_) (fun f cdv A outer s H vs Q E hr h => ?_)
  · obtain ⟨a, xs, rfl, _⟩ := h
    rfl
  · obtain ⟨a, xs, rfl, ha, hz, q⟩ := h
    have nd := sc__law_bare.nd
    have hu64 := hr.units
    refine ⟨_, (pss_cons (ps_set (i := 1) nd rfl (.inl rfl) (pe_callTy call_list_of (by rfl) z_list (by decide +kernel) (pa_cons (pv 0) pa_nil)))
 (pss_cons (ps_while PassesOwn.never (PW.pt (pw_and (pt_cmpR (op_neD hu64) (pv 1) (pe_lst pa_nil) (nomark _)) (pw_and1 (pt_cmpR op_eq (pe_ix ix_list (pv 1) (pe_un un_neg pe_int) (fun _ _ => rfl)) pe_int (nomark _)))))
 (pss_one (ps_expr (pe_bm0 PySem.F.plainAttrs_list PySem.F.slot_list_pop PySem.F.type_list_pop mt_pop (pv 1)))))
 (pss_one (ps_ret (pe_tupleOf (by rfl) z_tuple (pv 1)))))), ?_⟩
    refine ⟨_, rfl, a, _, rfl, ha, fun l hl => ⟨fun m σ H' => σ = [some (.ref a), some (.ref l)] ∧ Same H H' ∧ ∃ us : List Int, us.length = m ∧ LAt H' l us ∧ tr us = tr xs, ⟨xs.length, rfl, same_new hl, xs, rfl, upd_same, rfl⟩, ?_⟩⟩
    rintro m σ H1 ⟨rfl, s1, us, rfl, el, ht⟩
    have fin : ∀ H2, Same H1 H2 → tr us = us → (tThen (tVar 1) (kTup K)) [some (.ref a), some (.ref l)] H2 Q := fun H2 s2 e => by
      refine ⟨_, rfl, .inl ⟨l, _, rfl, .inl (.inl (el.same s2)), fun p hp => q p _ ((s1.trans s2).trans (same_new hp)) ?_⟩⟩
      show upd _ p _ p = _
      rw [upd_same, ← ht, e]
    refine ⟨_, rfl, Nat.zero_le _, fun t ht2 => ?_⟩
    have st := same_new (o := .lst []) ht2
    refine ⟨.list (us.map PyData.int), .list [], .lst (.inl (.inl (el.same st))) (dpInts us), .lst (.inl (.inl upd_same)) .nil, shL us, rfl, ?_⟩
    rw [eqL_nil]
    refine ⟨_, rfl, ite2 (fun c => ?_) (fun c => ?_)⟩
    · rcases snoc_cases us with rfl | ⟨vs, y, rfl⟩
      · exact absurd c (by decide)
      refine ⟨_, rfl, _, rfl, l, _, _, _, rfl, rfl, .inl (.inl (el.same st)), at_last, rfl, _, rfl, ite2 (fun e => ?_) (fun e => ?_)⟩
      · have e0 : y = 0 := V.int.inj (of_decide_eq_true e)
        subst e0
        have st2 := el.same st
        generalize upd H1 t (.lst []) = H2 at st st2 ⊢
        refine ⟨fun σ' H' => ∃ m', m' < (vs ++ [(0 : Int)]).length ∧ (σ' = [some (.ref a), some (.ref l)] ∧ Same H H' ∧ ∃ us : List Int, us.length = m' ∧ LAt H' l us ∧ tr us = tr xs), fun _ _ z => z, ?_⟩
        refine ⟨_, rfl, .inl ⟨rfl, _, .inl (.inl st2)⟩, l, _, .int 0, rfl, rfl, st2, ?_, vs.length, by simp, rfl, same_own (s1.trans st) hl, vs, rfl, ?_, by rw [← ht, tr_zero]⟩
        · rw [List.map_append, List.length_append, List.length_map]
          simp
        · show upd _ l _ l = _
          rw [upd_same, List.map_append]
          simp
      · have e0 : y ≠ 0 := fun z => e (decide_eq_true (congrArg V.int z))
        exact fin _ st (tr_last e0)
    · have e0 : us = [] := by
        refine Classical.byContradiction fun z => c ?_
        rw [decide_eq_false z]
        rfl
      subst e0
      exact iteF (fin _ st rfl)
end
end K2

set_option Elab.async false
set_option linter.all false
set_option maxRecDepth 100000
/-! A tuple times a number that is not above 1. -/
namespace Gd
open PySem PySem.Spec PyProof.Rows L2
theorem tuple_mul0 (l : Addr) (items : Array Value) (n : Nat) (dd : Option Addr) (sl : Array (Option Value)) (u : Tok) :
    Meets (Builtin.«tuple.__mul__» ⟨[.ref l, .int 0 u], []⟩) (fun _ R s => s.heap.get? l = some { cls := .type "tuple", dict := dd, data := .seq items n, slots := sl } ∧ items.isEmpty = false ∧
      R (.ok (.ret (Value.ref s.heap.objs.size))) { s with heap := s.heap.push { cls := .type "tuple", data := .seq #[] } }) :=
  .of_wp fun prog w A R s h => by
    obtain ⟨hp, g, d, tk, os⟩ := s
    obtain ⟨hl, he, h⟩ := h
    have f1 := AutoSeq1.idx_int
    have c0 : (decide ((0 : Int) < -(2 ^ 63)) || decide ((0 : Int) ≥ 2 ^ 63)) = false := by decide
    have c1 : (items.isEmpty || (0 : Int) == 1) = false := by rw [he]; rfl
    wp_walk using wpAny_loadPart' hl
    repeat (first
      | (refine wpAny_ite_false (decide_eq_false (by rw [c0]; exact Bool.false_ne_true)) ?_; wp_walk using wpAny_loadPart' hl)
      | (refine wpAny_ite_false (decide_eq_false (by rw [c1]; exact Bool.false_ne_true)) ?_; wp_walk using wpAny_loadPart' hl))
    exact ⟨_, rfl, h⟩
variable {X : Cx}
/-- tuple * k of a followed one that isn't empty -/
def rRepN : R2 := fun x y H Q => ∃ l xs, ∃ k : Nat, x = .ref l ∧ y = .int (k : Nat) ∧ H l = some (.tup xs) ∧ xs ≠ [] ∧ k ≤ 1000 ∧ xs.length ≤ 1000 ∧ ∀ p H', Same H H' → H' p = some (.tup (List.replicate k xs).flatten) → Q (.ref p) H'
theorem op_repN : OpR X (binaryOp .Mult) rRepN := by
  intro pins s σ H x y v u Q I rx ry h
  obtain ⟨l, xs, k, rfl, rfl, hT, hne, h2, hz, q⟩ := h
  by_cases hk : k = 0
  · subst hk
    cases rx
    obtain ⟨t, rfl⟩ := ry
    obtain ⟨its, r, ⟨⟨cls, dd, data, sl⟩, ho, hc, n, hd⟩, hs⟩ := I.tuple (.inl (.inl hT))
    simp only at hc hd
    subst hc hd
    have hie : its.toArray.isEmpty = false := by
      cases its with
      | nil =>
        cases r
        exact absurd rfl hne
      | cons a b => rfl
    refine wpAny_binaryOp_repeat_ref (T := "tuple") (U := "int") (by decide) ⟨_, ho, rfl⟩ (fun s' => typeIs_int s' 0 t) noFill_tuple_mul F.fills_int_mul F.slot_int_rmul repeat_tuple F.slot_int_index.lookup
      (call_meets F.slot_int_rmul (typeIs_int s 0 t) F.entry_int_rmul (F.args_int_rmul_2 _ _) (int_rmul_tuple 0 t l its.toArray n dd sl)
        ⟨ho, rfl, ⟨_, ho, rfl⟩, call_meets F.slot_tuple_mul ⟨_, ho, rfl⟩ F.entry_tuple_mul (F.args_tuple_mul_2 _ _) (tuple_mul0 l its.toArray n dd sl t) ⟨ho, hie, ?_⟩⟩)
    have I2 : Inv X pins σ H { s with heap := s.heap.push { cls := .type "tuple", data := .seq #[] } } := I.kept (t' := s.toks) fun b o e => Heap.get?_push_of_some _ e
    refine ⟨.ref _, upd H _ (.tup []), I.laid (fun b o e => Heap.get?_push_of_some _ e) (Nat.le_refl _) (show ObjOk X.prog X.w _ _ _ (.tup _) from ?_), rfl, q _ _ (same_new (I.hok.fresh (Nat.le_refl _))) upd_same⟩
    exact ⟨Nat.zero_le _, [], .nil, ⟨_, Heap.get?_push_size _ rfl, rfl, _, rfl⟩⟩
  · exact op_repP pins s σ H _ _ v u Q I rx ry ⟨l, k, xs, rfl, rfl, hT, hne, by omega, by omega, hz, fun p H' sm hp => q p H' sm (by rw [Int.toNat_natCast] at hp; exact hp)⟩
end Gd

set_option Elab.async false
set_option linter.all false
set_option maxRecDepth 100000
set_option maxHeartbeats 4000000
namespace K2
open PySem PySem.Spec PyProof.Rows L2 Gd Pv RZ Po
theorem at_of {n j : Nat} {F : Int → Int} {i : Int} (h : j < n) (e : i = (j : Int)) : atI ((of n F).map V.int) i = some (.int (F j)) := by
  subst e
  rw [at_nat (xs := of n F) (j := j) (by rw [of_len]; exact h)]
  have z := of_get (F := F) h
  rw [List.getElem?_eq_getElem (by rw [of_len]; exact h)] at z
  rw [Option.some.inj z]
theorem at_co {xs : List Int} {j : Nat} {i : Int} (h : j < xs.length) (e : i = (j : Int)) : atI (xs.map V.int) i = some (.int (co xs j)) := by
  subst e
  rw [at_nat h, co_get h]
theorem ix_of {n j : Nat} {F : Int → Int} {i : Int} (h : j < n) (e : i = (j : Int)) : ixN ((of n F).map V.int).length i = some j := by
  subst e
  rw [List.length_map, of_len]
  unfold ixN
  rw [if_pos (by omega), if_pos (by omega)]
  rfl
theorem of_set {n j : Nat} {F : Int → Int} {v : Int} : (of n F).set j v = of n fun i => if i = (j : Int) then v else F i := by
  refine List.ext_getElem (by rw [List.length_set, of_len, of_len]) fun i h1 h2 => ?_
  rw [of_len] at h2
  have z := of_get (F := fun i => if i = (j : Int) then v else F i) h2
  rw [List.getElem?_eq_getElem (by rw [of_len]; exact h2)] at z
  have y := of_get (F := F) h2
  rw [List.getElem?_eq_getElem (by rw [of_len]; exact h2)] at y
  rw [Option.some.inj z, List.getElem_set, Option.some.inj y]
  by_cases e : j = i
  · subst e
    rw [if_pos rfl, if_pos rfl]
  · rw [if_neg e, if_neg (by omega)]
/-- c times G, put from j on, k of them -/
def ptl (W : Int → Int) (c : Int) (G : Int → Int) (j k : Nat) : Int → Int := fun b => W b + if 0 ≤ b - j ∧ b - j < (k : Int) then c * G (b - j) else 0
theorem ptl_zero (n : Nat) (W : Int → Int) (c : Int) (G : Int → Int) (j : Nat) : of n (ptl W c G j 0) = of n W := of_congr fun b _ => by
  show W b + (if 0 ≤ (b : Int) - j ∧ (b : Int) - j < ((0 : Nat) : Int) then _ else 0) = _
  rw [if_neg (by omega), Int.add_zero]
theorem ptl_at (W : Int → Int) (c : Int) (G : Int → Int) (j k : Nat) : ptl W c G j k ((j : Int) + k) = W ((j : Int) + k) := by
  show W _ + (if 0 ≤ (j : Int) + k - j ∧ (j : Int) + k - j < (k : Int) then _ else 0) = _
  rw [if_neg (by omega), Int.add_zero]
theorem ptl_all {m : Nat} (n : Nat) (W : Int → Int) (c : Int) {G : Int → Int} (j : Nat) (g0 : ∀ i, i < 0 → G i = 0) (g1 : ∀ i, (m : Int) ≤ i → G i = 0) : of n (ptl W c G j m) = of n fun b => W b + c * G (b - j) := of_congr fun b _ => by
  show W b + (if 0 ≤ (b : Int) - j ∧ (b : Int) - j < (m : Int) then _ else 0) = _
  by_cases z : 0 ≤ (b : Int) - j ∧ (b : Int) - j < (m : Int)
  · rw [if_pos z]
  · rw [if_neg z]
    by_cases y : (b : Int) - j < 0
    · rw [g0 _ y, Int.mul_zero]
    · rw [g1 _ (by omega), Int.mul_zero]
theorem ptl_step {n : Nat} {W : Int → Int} {c : Int} {G : Int → Int} {j k : Nat} : (of n (ptl W c G j k)).set (j + k) (W ((j : Int) + k) + c * G k) = of n (ptl W c G j (k + 1)) := by
  rw [of_set]
  refine of_congr fun b _ => ?_
  show (if (b : Int) = ((j + k : Nat) : Int) then _ else W b + (if 0 ≤ (b : Int) - j ∧ (b : Int) - j < (k : Int) then c * G ((b : Int) - j) else 0)) = W b + (if 0 ≤ (b : Int) - j ∧ (b : Int) - j < ((k + 1 : Nat) : Int) then c * G ((b : Int) - j) else 0)
  by_cases e : (b : Int) = ((j + k : Nat) : Int)
  · rw [if_pos e, if_pos (by omega), e, show (((j + k : Nat) : Int) - j) = k by omega, show (((j + k : Nat) : Int)) = (j : Int) + k by omega]
  · rw [if_neg e]
    by_cases z : 0 ≤ (b : Int) - j ∧ (b : Int) - j < (k : Int)
    · rw [if_pos z, if_pos (by omega)]
    · rw [if_neg z, if_neg (by omega)]
theorem zvc {F : Int → Int} {v : V} {n i : Nat} (hi : i < n) (ez : ((of n F).map V.int)[i]? = some v) : v = .int (F i) := by
  rw [List.getElem?_map, of_get hi] at ez
  exact (Option.some.inj ez).symm
theorem co_pad {xs : List Int} {m : Nat} (h : xs.length ≤ m) : xs ++ List.replicate (m - xs.length) 0 = of m (co xs) := by
  refine List.ext_getElem (by rw [List.length_append, List.length_replicate, of_len]; omega) fun i h1 h2 => ?_
  rw [of_len] at h2
  have z := of_get (F := co xs) h2
  rw [List.getElem?_eq_getElem (by rw [of_len]; exact h2)] at z
  rw [Option.some.inj z]
  by_cases y : i < xs.length
  · rw [List.getElem_append_left y, co_get y]
  · rw [List.getElem_append_right (by omega), List.getElem_replicate, co_big (by omega)]
/-- the sum, trimmed -/
def pl (xs ys : List Int) : List Int := tr (of (xs.length + ys.length) fun i => co xs i + co ys i)
theorem pl_win {n : Nat} {xs ys : List Int} (h1 : xs.length ≤ n) (h2 : ys.length ≤ n) : tr (of n fun i => co xs i + co ys i) = pl xs ys :=
  tr_win (fun i h => by rw [co_neg h, co_neg h]; rfl) (fun i h => by rw [co_big (by omega), co_big (by omega)]; rfl) (fun i h => by rw [co_big (by omega), co_big (by omega)]; rfl)
theorem pl_nil {xs : List Int} (hx : Nf xs) : pl xs [] = xs := by
  unfold pl
  rw [show (of (xs.length + [].length) fun i => co xs i + co [] i) = of xs.length (co xs) from of_congr fun j _ => by rw [co_nil, Int.add_zero], of_co rfl, hx.tr]
section
variable {P : Program} {w : World} {K : PySem.W.Frag} {mg : Str → Option Value} {base : Heap}
def spPad : Sp := fun vs H Q _ => ∃ (a : Addr) (xs : List Int) (m : Nat), vs = [.ref a, .int (m : Nat)] ∧ TAt H a xs ∧ xs.length ≤ m ∧ m ≤ 1000 ∧ ∀ (p : Addr) (H' : Hp), Same H H' → TAt H' p (of m (co xs)) → Q (.ref p) H'
theorem c_padded (D : At K mg "padded" s_padded ["one", "many"]) (z_len : mg "len" = none) : Cal P w K mg base 1 "padded" spPad := by
  refine okC D sc_padded (fun vs H Q E h => ?_) (fun f cdv A outer s H vs Q E hr h => ?_)
  · obtain ⟨a, xs, m, rfl, _⟩ := h
    rfl
  · obtain ⟨a, xs, m, rfl, ha, h1, h2, q⟩ := h
    have nd := sc_padded.nd
    refine ⟨_, (pss_one (ps_ret (pe_op op_catA (pv 0) (pe_op op_repN (pe_tup (pa_cons pe_int pa_nil)) (pe_op op_sub (pv 1) (pe_callB call_len_seq (by rfl) z_len PySem.boot_len (pa_cons (pv 0) pa_nil))))))), ?_⟩
    refine ⟨_, rfl, (by show 1 ≤ sizeLine; decide), fun t ht => ⟨_, rfl, _, rfl, a, _, rfl, .inr (ha.same (same_new ht)).sq, _, _, rfl, rfl, t, _, m - xs.length, rfl, ?_, upd_same, by simp, by omega, (by show 1 ≤ 1000; decide), fun p H' sm hp => ?_⟩⟩
    · rw [List.length_map]
      show V.int ((m : Int) - (xs.length : Nat)) = _
      congr 1
      omega
    have s1 := (same_new (o := .tup [V.int 0]) ht).trans sm
    have ha1 := ha.same s1
    rw [rep_flat] at hp
    have hp2 : TAt H' p (List.replicate (m - xs.length) 0) := hp
    refine ⟨a, p, _, _, rfl, rfl, ha1.sq, hp2.sq, ?_, fun e => ?_, fun e1 e2 => ?_, fun e1 e2 r hr2 => ?_⟩
    · rw [List.length_map, List.length_map, List.length_replicate, sizeLine_eq]
      omega
    · have e0 : xs = [] := List.map_eq_nil_iff.mp e
      subst e0
      refine q p H' s1 ?_
      rw [← co_pad (by simp)]
      exact hp2
    · have e0 := List.map_eq_nil_iff.mp e2
      refine q a H' s1 ?_
      rw [← co_pad h1, e0, List.append_nil]
      exact ha1
    · refine q r _ (s1.trans (same_new hr2)) ?_
      show upd _ r _ r = _
      rw [upd_same, ← co_pad h1, List.map_append]
def spPlus : Sp := fun vs H Q _ => ∃ (a b : Addr) (xs ys : List Int), vs = [.ref a, .ref b] ∧ TAt H a xs ∧ TAt H b ys ∧ Nf xs ∧ Nf ys ∧ xs.length ≤ 500 ∧ ys.length ≤ 500 ∧ ∀ (p : Addr) (H' : Hp), Same H H' → TAt H' p (pl xs ys) → Q (.ref p) H'
theorem c_plus (D : At K mg "plus" s_plus ["one", "other"]) (c_need : Cal P w K mg base 1 "need" spNeed) (c_is_polynomial : Cal P w K mg base 3 "is_polynomial" spIsPoly) (c_padded : Cal P w K mg base 1 "padded" spPad) (c_trimmedL : Cal P w K mg base 1 "trimmed" spTrimL)
    (z_len : mg "len" = none) (z_zip : mg "zip" = none) (z_max : mg "max" = none) : Cal P w K mg base 4 "plus" spPlus := by
  refine okC D sc_plus (fun vs H Q E h => ?_) (fun f cdv A outer s H vs Q E hr h => ?_)
  · obtain ⟨a, b, xs, ys, rfl, _⟩ := h
    rfl
  · obtain ⟨a, b, xs, ys, rfl, ha, hb, nx, ny, lx, ly, q⟩ := h
    have nd := sc_plus.nd
    refine ⟨_, (pss_cons (ps_expr (pe_k c_need hr (by decide) (by rfl) (pa_cons (pe_k c_is_polynomial hr (by decide) (by rfl) (pa_cons (pv 0) pa_nil)) (pa_cons pe_str pa_nil))))
 (pss_cons (ps_expr (pe_k c_need hr (by decide) (by rfl) (pa_cons (pe_k c_is_polynomial hr (by decide) (by rfl) (pa_cons (pv 1) pa_nil)) (pa_cons pe_str pa_nil))))
 (pss_cons (ps_set (i := 2) nd rfl (.inl rfl) (pe_callB (call_max2 rfl) (by rfl) z_max (by decide +kernel) (pa_cons (pe_callB call_len_seq (by rfl) z_len PySem.boot_len (pa_cons (pv 0) pa_nil)) (pa_cons (pe_callB call_len_seq (by rfl) z_len PySem.boot_len (pa_cons (pv 1) pa_nil)) pa_nil))))
 (pss_one (ps_ret (pe_k c_trimmedL hr (by decide) (by rfl) (pa_cons (pe_lc (own := [("a", 3), ("b", 4)]) rfl nd (pi_zipA (by rfl) z_zip (pa_cons (pe_k c_padded hr (by decide) (by rfl) (pa_cons (pv 0) (pa_cons (pv 2) pa_nil))) (pa_cons (pe_k c_padded hr (by decide) (by rfl) (pa_cons (pv 1) (pa_cons (pv 2) pa_nil))) pa_nil))) (blkOk_by (N := N_plus) (sc := defScope s_plus) (by decide +kernel)) (g := gTup K 2 (gCons (gName 3) (gCons (gName 4) gNil))) (fun _ _ _ _ _ => (pg_tup rfl (pgs_cons (pg_name (i := 3) nd rfl (.inl rfl)) (pgs_cons (pg_name (i := 4) nd rfl (.inl rfl)) pgs_nil)))) (fun _ _ _ _ _ => pts_nil) (fun _ _ _ _ _ => (pe_op op_add (pv 3) (pv 4)))) pa_nil))))))), ?_⟩
    refine ⟨_, rfl, a, xs, rfl, ha, nx, by omega, fun H1 s1 => ⟨_, rfl, ?_⟩⟩
    refine ⟨_, rfl, b, ys, rfl, hb.same s1, ny, by omega, fun H2 s2 => ⟨_, rfl, ?_⟩⟩
    have s02 := s1.trans s2
    refine ⟨_, rfl, a, _, rfl, .inr (ha.same s02).sq, _, rfl, b, _, rfl, .inr (hb.same s02).sq, _, _, rfl, ?_⟩
    rw [List.length_map, List.length_map]
    obtain ⟨m, em, m1, m2, m3⟩ : ∃ m : Nat, (if ((ys.length : Nat) : Int) > ((xs.length : Nat) : Int) then ((ys.length : Nat) : Int) else ((xs.length : Nat) : Int)) = (m : Int) ∧ xs.length ≤ m ∧ ys.length ≤ m ∧ m ≤ 500 := by
      by_cases z : ((ys.length : Nat) : Int) > ((xs.length : Nat) : Int)
      · exact ⟨ys.length, if_pos z, by omega, Nat.le_refl _, ly⟩
      · exact ⟨xs.length, if_neg z, Nat.le_refl _, by omega, lx⟩
    rw [em]
    refine ⟨_, rfl, _, rfl, a, xs, m, rfl, ha.same s02, m1, by omega, fun p1 H3 s3 e1 => ⟨_, rfl, _, rfl, b, ys, m, rfl, (hb.same s02).same s3, m2, by omega, fun p2 H4 s4 e2 => ?_⟩⟩
    have e1' := e1.same s4
    refine ⟨p1, p2, _, _, rfl, .inr ⟨e1'.sq, e2.sq, fun R hR => lc_it (walk_zT (xs := (of m (co xs)).map V.int) (ys := (of m (co ys)).map V.int) (n := m) (by rw [List.length_map, of_len]; omega) (by rw [List.length_map, of_len]; omega) (.inl (by rw [List.length_map, of_len])))
      (fun i H' => Same H4 H' ∧ H' R = some (.lst ((List.range i).map fun j => V.int (co xs (j : Nat) + co ys (j : Nat))))) ⟨same_new hR, upd_same⟩ (fun _ _ _ z => ⟨(e1'.same z.1).sq, (e2.same z.1).sq⟩) ?_ ?_⟩⟩
    · rintro i x G G' hi ⟨sG, eG⟩ ⟨T, x1, x2, rfl, nT, rfl, f1, f2⟩
      obtain rfl := zvc hi f1
      obtain rfl := zvc hi f2
      have sT := same_new (o := .tup [V.int (co xs i), .int (co ys i)]) nT
      refine ⟨T, _, rfl, .inl (.inl upd_same), rfl, _, _, rfl, _, _, rfl, rfl, rfl, _, rfl, _, rfl, _, _, rfl, rfl, ?_⟩
      exact ⟨_, sT _ _ eG, by rw [List.length_map, List.length_range]; exact small1000 (by omega), same_own (sG.trans sT) hR, by rw [upd_same, List.range_succ, List.map_append]; rfl⟩
    rintro G0 ⟨sG, eG⟩
    rw [of_V m fun b => co xs b + co ys b] at eG
    refine ⟨R, _, rfl, eG, by rw [of_len]; omega, fun p H5 s5 e5 => ?_⟩
    rw [pl_win m1 m2] at e5
    exact q p H5 (((s02.trans (s3.trans s4)).trans sG).trans s5) e5
theorem c__law_sum (D : At K mg "_law_sum" s__law_sum ["_law_first", "_law_second"]) (c__law_bare : Cal P w K mg base 1 "_law_bare" (spBare K)) (z_len : mg "len" = none) (z_list : mg "list" = none) (z_range : mg "range" = none) : Cal P w K mg base 2 "_law_sum" spPlus := by
  refine okC D sc__law_sum (fun vs H Q E h => ?_) (fun f cdv A outer s H vs Q E hr h => ?_)
  · obtain ⟨a, b, xs, ys, rfl, _⟩ := h
    rfl
  · obtain ⟨a, b, xs, ys, rfl, ha, hb, nx, ny, lx, ly, q⟩ := h
    have nd := sc__law_sum.nd
    refine ⟨_, (pss_cons (ps_set (i := 2) nd rfl (.inl rfl) (pe_op op_cat (pe_callTy call_list_of (by rfl) z_list (by decide +kernel) (pa_cons (pv 0) pa_nil)) (pe_op op_rep (pe_lst (pa_cons pe_int pa_nil)) (pe_callB call_len_seq (by rfl) z_len PySem.boot_len (pa_cons (pv 1) pa_nil)))))
 (pss_cons (ps_for PassesOwn.never rfl (pi_range1 (by rfl) z_range (pa_cons (pe_callB call_len_seq (by rfl) z_len PySem.boot_len (pa_cons (pv 1) pa_nil)) pa_nil)) (pg_name (i := 3) nd rfl (.inl rfl))
 (pss_one (ps_asg (pe_op op_add (pe_ix ix_list (pv 2) (pv 3) (fun _ _ => rfl)) (pe_ix ix_tup (pv 1) (pv 3) (fun _ _ => rfl))) (pg_sub (pv 2) (pv 3) set_list))))
 (pss_one (ps_ret (pe_k c__law_bare hr (by decide) (by rfl) (pa_cons (pv 2) pa_nil)))))), ?_⟩
    refine ⟨_, rfl, a, _, rfl, .inr ha.sq, fun l1 hl1 => ⟨(by show 1 ≤ sizeLine; decide), fun l2 hl2 => ⟨_, rfl, b, _, rfl, .inr ((hb.same (same_new hl1)).same (same_new hl2)).sq, ?_⟩⟩⟩
    rw [List.length_map]
    refine ⟨l2, (ys.length : Nat), _, rfl, rfl, upd_same, by omega, by omega, by rw [Int.toNat_natCast, sizeLine_eq]; show 1 * ys.length ≤ _; omega, fun l3 hl3 => ?_⟩
    rw [Int.toNat_natCast, rep_flat]
    have sa := same_new (o := .lst (xs.map V.int)) hl1
    have sb := same_new (o := .lst [V.int 0]) hl2
    have sc := same_new (o := .lst ((List.replicate ys.length (0 : Int)).map V.int)) hl3
    refine ⟨l1, l3, _, _, rfl, rfl, (sb.trans sc) _ _ upd_same, upd_same, by rw [List.length_map, List.length_map, List.length_replicate, sizeLine_eq]; omega, fun R hR => ?_⟩
    have s0 := (sa.trans (sb.trans sc)).trans (same_new (o := .lst (xs.map V.int ++ (List.replicate ys.length (0 : Int)).map V.int)) hR)
    have eR : (upd (upd (upd (upd H l1 (.lst (xs.map V.int))) l2 (.lst [V.int 0])) l3 (.lst ((List.replicate ys.length (0 : Int)).map V.int))) R (.lst (xs.map V.int ++ (List.replicate ys.length (0 : Int)).map V.int))) R = some (.lst ((of (xs.length + ys.length) (ptl (co xs) 1 (co ys) 0 0)).map V.int)) := by
      rw [upd_same, ptl_zero, ← co_pad (by omega), List.map_append, Nat.add_sub_cancel_left]
    have hR0 : H R = none := by
      cases z : H R with
      | none => rfl
      | some o =>
        have y := (sa.trans (sb.trans sc)) R o z
        rw [hR] at y
        cases y
    generalize upd (upd (upd (upd H l1 (.lst (xs.map V.int))) l2 (.lst [V.int 0])) l3 (.lst ((List.replicate ys.length (0 : Int)).map V.int))) R (.lst (xs.map V.int ++ (List.replicate ys.length (0 : Int)).map V.int)) = G0 at s0 eR ⊢
    clear sa sb sc hl1 hl2 hl3 hR
    refine ⟨_, rfl, b, _, rfl, .inr (hb.same s0).sq, ?_⟩
    rw [List.length_map]
    refine ⟨ys.length, rfl, by omega, by omega, for_it walk_range (fun k σ H' => ∃ y3 : Option V, σ = [some (.ref a), some (.ref b), some (.ref R), y3] ∧ Same H H' ∧ H' R = some (.lst ((of (xs.length + ys.length) (ptl (co xs) 1 (co ys) 0 k)).map V.int)))
      ⟨_, rfl, s0, eR⟩ (fun _ _ _ _ _ => True.intro) ?_ ?_⟩
    · rintro k x σ G G' hk ⟨y3, rfl, sG, eG⟩ ⟨eH, rfl⟩
      obtain rfl := eH.symm
      rw [Int.toNat_natCast] at hk
      have hkn : k < xs.length + ys.length := by omega
      refine ⟨_, rfl, _, rfl, R, _, _, _, rfl, rfl, .inl (.inl eG), at_of hkn (by omega), _, rfl, _, rfl, b, _, _, _, rfl, rfl, .inl (.inl (sG _ _ hb)), at_co (j := k) (by omega) (by omega), _, _, rfl, rfl, ?_⟩
      refine ⟨_, rfl, _, rfl, R, _, _, _, rfl, rfl, eG, ix_of hkn (by omega), ?_⟩
      refine ⟨_, rfl, same_own sG hR0, ?_⟩
      have e1 := ptl_at (co xs) 1 (co ys) 0 k
      have e2 := ptl_step (n := xs.length + ys.length) (W := co xs) (c := 1) (G := co ys) (j := 0) (k := k)
      rw [show ((0 : Nat) : Int) + (k : Int) = (k : Int) by omega] at e1 e2
      rw [upd_same, ← List.map_set, e1, ← e2, Int.one_mul, Nat.zero_add]
    · rintro σ G ⟨y3, rfl, sG, eG⟩
      rw [Int.toNat_natCast, ptl_all _ _ _ _ (fun _ => co_neg) (fun _ => co_big)] at eG
      refine ⟨_, rfl, R, _, rfl, .inl (.inl (.inl eG)), by rw [of_len]; omega, fun p H' sm hp => q p H' (sG.trans sm) ?_⟩
      have e3 : tr (of (xs.length + ys.length) fun b => co xs b + 1 * co ys (b - ((0 : Nat) : Int))) = pl xs ys := by
        unfold pl
        congr 1
        exact of_congr fun j _ => by rw [Int.one_mul, show ((j : Int) - ((0 : Nat) : Int)) = j by omega]
      rw [e3] at hp
      exact hp
end
end K2

set_option Elab.async false
set_option linter.all false
set_option maxRecDepth 100000
set_option maxHeartbeats 4000000
namespace K2
open PySem PySem.Spec PyProof.Rows L2 Gd Pv RZ Po
section
variable {P : Program} {w : World} {K : PySem.W.Frag} {mg : Str → Option Value} {base : Heap}
def spTimes : Sp := fun vs H Q _ => ∃ (a b : Addr) (xs ys : List Int) (c d : Nat), vs = [.ref a, .ref b] ∧ TAt H a xs ∧ TAt H b ys ∧ Nf xs ∧ Nf ys ∧ xs.length ≤ 400 ∧ ys.length ≤ 400 ∧ Bd c xs ∧ Bd d ys ∧ 0 < c ∧ 0 < d ∧ c + d ≤ 100000 ∧
  ∀ (p : Addr) (H' : Hp), Same H H' → TAt H' p (ml xs ys) → Q (.ref p) H'
theorem Bd.co {c : Nat} {xs : List Int} (h : Bd c xs) (i : Int) : (co xs i).natAbs < 2 ^ c := by
  by_cases z : 0 ≤ i
  · obtain ⟨j, rfl⟩ := Int.eq_ofNat_of_zero_le z
    by_cases y : j < xs.length
    · rw [co_get y]
      exact h _ (List.getElem_mem _)
    · rw [co_big (by omega)]
      exact Nat.pow_pos (by decide)
  · rw [co_neg (by omega)]
    exact Nat.pow_pos (by decide)
theorem c_times (D : At K mg "times" s_times ["one", "other"]) (c_need : Cal P w K mg base 1 "need" spNeed) (c_is_polynomial : Cal P w K mg base 3 "is_polynomial" spIsPoly) (c_trimmedL : Cal P w K mg base 1 "trimmed" spTrimL)
    (z_len : mg "len" = none) (z_range : mg "range" = none) (z_enumerate : mg "enumerate" = none) : Cal P w K mg base 4 "times" spTimes := by
  refine okC D sc_times (fun vs H Q E h => ?_) (fun f cdv A outer s H vs Q E hr h => ?_)
  · obtain ⟨a, b, xs, ys, c, d, rfl, _⟩ := h
    rfl
  · obtain ⟨a, b, xs, ys, c, d, rfl, ha, hb, nx, ny, lx, ly, bx, bY, c0, d0, hcd, q⟩ := h
    have nd := sc_times.nd
    refine ⟨_, (pss_cons (ps_expr (pe_k c_need hr (by decide) (by rfl) (pa_cons (pe_k c_is_polynomial hr (by decide) (by rfl) (pa_cons (pv 0) pa_nil)) (pa_cons pe_str pa_nil))))
 (pss_cons (ps_expr (pe_k c_need hr (by decide) (by rfl) (pa_cons (pe_k c_is_polynomial hr (by decide) (by rfl) (pa_cons (pv 1) pa_nil)) (pa_cons pe_str pa_nil))))
 (pss_cons (ps_setLc (i := 2) (own := [("_", 5)]) rfl nd rfl rfl (sw_true rfl rfl rfl (by decide +kernel)) (pi_range1 (by rfl) z_range (pa_cons (pe_op op_add (pe_callB call_len_seq (by rfl) z_len PySem.boot_len (pa_cons (pv 0) pa_nil)) (pe_callB call_len_seq (by rfl) z_len PySem.boot_len (pa_cons (pv 1) pa_nil))) pa_nil)) (blkOk_by (N := N_times) (sc := defScope s_times) (by decide +kernel)) (fun _ _ _ _ _ => pg_name (i := 5) nd rfl (Or.inl rfl)) (fun _ _ _ _ _ => pts_nil) (fun _ _ _ _ _ => pe_int))
 (pss_cons (ps_for PassesOwn.never rfl (pi_enT (by rfl) z_enumerate (pa_cons (pv 0) pa_nil)) (pg_tup rfl (pgs_cons (pg_name (i := 3) nd rfl (.inl rfl)) (pgs_cons (pg_name (i := 4) nd rfl (.inl rfl)) pgs_nil)))
 (pss_one (ps_for PassesOwn.never rfl (pi_enT (by rfl) z_enumerate (pa_cons (pv 1) pa_nil)) (pg_tup rfl (pgs_cons (pg_name (i := 6) nd rfl (.inl rfl)) (pgs_cons (pg_name (i := 7) nd rfl (.inl rfl)) pgs_nil)))
 (pss_one (ps_asg (pe_op op_add (pe_ix ix_list (pv 2) (pe_op op_add (pv 3) (pv 6)) (fun _ _ => rfl)) (pe_op op_mulW (pv 4) (pv 7))) (pg_sub (pv 2) (pe_op op_add (pv 3) (pv 6)) set_list))))))
 (pss_one (ps_ret (pe_k c_trimmedL hr (by decide) (by rfl) (pa_cons (pv 2) pa_nil)))))))), ?_⟩
    refine ⟨_, rfl, a, xs, rfl, ha, nx, by omega, fun H1 s1 => ⟨_, rfl, ?_⟩⟩
    refine ⟨_, rfl, b, ys, rfl, hb.same s1, ny, by omega, fun H2 s2 => ⟨_, rfl, ?_⟩⟩
    have s02 := s1.trans s2
    have ha2 := ha.same s02
    have hb2 := hb.same s02
    refine ⟨_, rfl, a, _, rfl, .inr ha2.sq, _, rfl, b, _, rfl, .inr hb2.sq, _, _, rfl, rfl, ((xs.length + ys.length : Nat) : Int), by rw [List.length_map, List.length_map, Int.natCast_add], by omega, by omega, fun R hR => lcR (fun _ => V.int 0) hR (by rw [Int.toNat_natCast]; omega) ?_ ?_⟩
    · intro i G R2 hi sG h4
      exact ⟨rfl, h4 G (Same.refl _)⟩
    · intro G0 s0 e0
      rw [Int.toNat_natCast, of_V _ fun _ => 0] at e0
      have e0' : G0 R = some (.lst ((of (xs.length + ys.length) (mu 0 (co xs) (co ys))).map V.int)) := e0
      refine ⟨_, rfl, a, _, rfl, (ha2.same s0).sq, for_it walk_enT (fun j σ H' => ∃ (y3 y4 y5 y6 y7 : Option V), σ = [some (.ref a), some (.ref b), some (.ref R), y3, y4, y5, y6, y7] ∧ Same H2 H' ∧ H' R = some (.lst ((of (xs.length + ys.length) (mu j (co xs) (co ys))).map V.int)))
        ⟨_, _, _, _, _, rfl, s0, e0'⟩ (fun _ _ _ _ z => by obtain ⟨_, _, _, _, _, _, sz, _⟩ := z; exact (ha2.same sz).sq) ?_ ?_⟩
      · rintro j x σ G G' hj ⟨y3, y4, y5, y6, y7, rfl, sG, eG⟩ ⟨T, x1, x2, rfl, nT, rfl, e1, e2⟩
        rw [List.length_map] at hj
        have hx2 : x2 = V.int (co xs j) := by
          have q1 : (xs.map V.int)[j]? = some x2 := e2
          rw [List.getElem?_map, List.getElem?_eq_getElem hj] at q1
          rw [co_get hj]
          exact (Option.some.inj q1).symm
        have hx1 : x1 = V.int (j : Nat) := (Option.some.inj e1).symm
        subst hx1 hx2
        have sT := same_new (o := .tup [V.int (j : Nat), .int (co xs j)]) nT
        refine ⟨T, _, rfl, .inl (.inl upd_same), rfl, _, _, rfl, _, _, rfl, rfl, ?_⟩
        have e3 := sT _ _ eG
        have s3 := sG.trans sT
        generalize upd G T (.tup [V.int (j : Nat), .int (co xs j)]) = G1 at e3 s3 ⊢
        refine ⟨_, rfl, b, _, rfl, (hb2.same s3).sq, for_it walk_enT (fun k σ H' => ∃ (y5 y6 y7 : Option V), σ = [some (.ref a), some (.ref b), some (.ref R), some (.int (j : Nat)), some (.int (co xs j)), y5, y6, y7] ∧ Same H2 H' ∧
            H' R = some (.lst ((of (xs.length + ys.length) (ptl (mu j (co xs) (co ys)) (co xs j) (co ys) j k)).map V.int)))
          ⟨_, _, _, rfl, s3, by rw [ptl_zero]; exact e3⟩ (fun _ _ _ _ z => by obtain ⟨_, _, _, _, sz, _⟩ := z; exact (hb2.same sz).sq) ?_ ?_⟩
        · rintro k x σ G2 G2' hk ⟨y5, y6, y7, rfl, s4, e4⟩ ⟨T2, x1, x2, rfl, nT2, rfl, f1, f2⟩
          rw [List.length_map] at hk
          have hx2 : x2 = V.int (co ys k) := by
            have q1 : (ys.map V.int)[k]? = some x2 := f2
            rw [List.getElem?_map, List.getElem?_eq_getElem hk] at q1
            rw [co_get hk]
            exact (Option.some.inj q1).symm
          have hx1 : x1 = V.int (k : Nat) := (Option.some.inj f1).symm
          subst hx1 hx2
          have sT2 := same_new (o := .tup [V.int (k : Nat), .int (co ys k)]) nT2
          refine ⟨T2, _, rfl, .inl (.inl upd_same), rfl, _, _, rfl, _, _, rfl, rfl, ?_⟩
          have e5 := sT2 _ _ e4
          have s5 := s4.trans sT2
          generalize upd G2 T2 (.tup [V.int (k : Nat), .int (co ys k)]) = G3 at e5 s5 ⊢
          have hjk : j + k < xs.length + ys.length := by omega
          refine ⟨_, rfl, _, rfl, _, rfl, _, _, rfl, rfl, R, _, _, _, rfl, rfl, .inl (.inl e5), at_of (j := j + k) hjk (by omega), _, rfl, _, rfl, _, _, rfl, rfl, wide_mul (bx.co j) (bY.co k) c0 d0 (by omega), _, _, rfl, rfl, ?_⟩
          refine ⟨_, rfl, _, rfl, _, rfl, _, _, rfl, rfl, R, _, _, _, rfl, rfl, e5, ix_of (j := j + k) hjk (by omega), ?_⟩
          refine ⟨_, _, _, rfl, same_own s5 hR, ?_⟩
          rw [upd_same, ← List.map_set, Int.natCast_add, ptl_at, ptl_step]
        · rintro σ G2 ⟨y5, y6, y7, rfl, s4, e4⟩
          rw [List.length_map, ptl_all _ _ _ _ (fun _ => co_neg) (fun _ => co_big)] at e4
          exact ⟨_, _, _, _, _, rfl, s4, e4⟩
      · rintro σ G ⟨y3, y4, y5, y6, y7, rfl, sG, eG⟩
        rw [List.length_map] at eG
        exact ⟨_, rfl, R, _, rfl, eG, by rw [of_len]; omega, fun p H' sm hp => q p H' ((s02.trans sG).trans sm) hp⟩
theorem c__law_times (D : At K mg "_law_times" s__law_times ["_law_first", "_law_second"]) (c__law_bare : Cal P w K mg base 1 "_law_bare" (spBare K))
    (z_len : mg "len" = none) (z_range : mg "range" = none) (z_max : mg "max" = none) : Cal P w K mg base 2 "_law_times" spTimes := by
  refine okC D sc__law_times (fun vs H Q E h => ?_) (fun f cdv A outer s H vs Q E hr h => ?_)
  · obtain ⟨a, b, xs, ys, c, d, rfl, _⟩ := h
    rfl
  · obtain ⟨a, b, xs, ys, c, d, rfl, ha, hb, nx, ny, lx, ly, bx, bY, c0, d0, hcd, q⟩ := h
    have nd := sc__law_times.nd
    refine ⟨_, (pss_cons (ps_set (i := 2) nd rfl (.inl rfl) (pe_op op_rep (pe_lst (pa_cons pe_int pa_nil)) (pe_callB (cr_max rfl) (by rfl) z_max (by decide +kernel) (pa_cons (pe_lst (pa_cons pe_int (pa_cons (pe_op op_sub (pe_op op_add (pe_callB call_len_seq (by rfl) z_len PySem.boot_len (pa_cons (pv 0) pa_nil)) (pe_callB call_len_seq (by rfl) z_len PySem.boot_len (pa_cons (pv 1) pa_nil))) pe_int) pa_nil))) pa_nil))))
 (pss_cons (ps_for PassesOwn.never rfl (pi_range1 (by rfl) z_range (pa_cons (pe_callB call_len_seq (by rfl) z_len PySem.boot_len (pa_cons (pv 0) pa_nil)) pa_nil)) (pg_name (i := 3) nd rfl (.inl rfl))
 (pss_one (ps_for PassesOwn.never rfl (pi_range1 (by rfl) z_range (pa_cons (pe_callB call_len_seq (by rfl) z_len PySem.boot_len (pa_cons (pv 1) pa_nil)) pa_nil)) (pg_name (i := 4) nd rfl (.inl rfl))
 (pss_one (ps_asg (pe_op op_add (pe_ix ix_list (pv 2) (pe_op op_add (pv 3) (pv 4)) (fun _ _ => rfl)) (pe_op op_mulW (pe_ix ix_tup (pv 0) (pv 3) (fun _ _ => rfl)) (pe_ix ix_tup (pv 1) (pv 4) (fun _ _ => rfl)))) (pg_sub (pv 2) (pe_op op_add (pv 3) (pv 4)) set_list))))))
 (pss_one (ps_ret (pe_k c__law_bare hr (by decide) (by rfl) (pa_cons (pv 2) pa_nil)))))), ?_⟩
    refine ⟨(by show 1 ≤ sizeLine; decide), fun l1 hl1 => ?_⟩
    have sa := same_new (o := .lst [V.int 0]) hl1
    refine ⟨_, rfl, a, _, rfl, .inr (ha.same sa).sq, _, rfl, b, _, rfl, .inr (hb.same sa).sq, _, _, rfl, rfl, _, _, rfl, rfl, (by show 2 ≤ sizeLine; decide), fun l2 hl2 => ?_⟩
    rw [List.length_map, List.length_map]
    have sb := same_new (o := .lst [V.int 0, .int ((xs.length : Int) + (ys.length : Int) - 1)]) hl2
    refine ⟨l2, [0, (xs.length : Int) + (ys.length : Int) - 1], rfl, .inl (.inl upd_same), (by show 0 < 2; decide), fun m hm hmax => ?_⟩
    obtain ⟨M, rfl, hM⟩ : ∃ M : Nat, m = (M : Int) ∧ M = xs.length + ys.length - 1 := by
      have h1 := hmax 0 (by simp)
      have h2 := hmax ((xs.length : Int) + (ys.length : Int) - 1) (by simp)
      simp only [List.mem_cons, List.not_mem_nil, or_false] at hm
      refine ⟨xs.length + ys.length - 1, ?_, rfl⟩
      rcases hm with rfl | rfl <;> omega
    refine ⟨l1, (M : Nat), _, rfl, rfl, sb _ _ upd_same, by omega, by omega, by rw [Int.toNat_natCast, sizeLine_eq]; show 1 * M ≤ _; omega, fun R hR => ?_⟩
    rw [Int.toNat_natCast, rep_flat]
    have s0 := (sa.trans sb).trans (same_new (o := .lst ((List.replicate M (0 : Int)).map V.int)) hR)
    have e0 : (upd (upd (upd H l1 (.lst [V.int 0])) l2 (.lst [V.int 0, .int ((xs.length : Int) + (ys.length : Int) - 1)])) R (.lst ((List.replicate M (0 : Int)).map V.int))) R = some (.lst ((of M (mu 0 (co xs) (co ys))).map V.int)) := by
      rw [upd_same, ← of_const]
      rfl
    have hR0 : H R = none := by
      cases z : H R with
      | none => rfl
      | some o =>
        have y := (sa.trans sb) R o z
        rw [hR] at y
        cases y
    generalize upd (upd (upd H l1 (.lst [V.int 0])) l2 (.lst [V.int 0, .int ((xs.length : Int) + (ys.length : Int) - 1)])) R (.lst ((List.replicate M (0 : Int)).map V.int)) = G0 at s0 e0 ⊢
    clear sa sb hl1 hl2 hR hmax hm
    refine ⟨_, rfl, a, _, rfl, .inr (ha.same s0).sq, ?_⟩
    rw [List.length_map]
    refine ⟨xs.length, rfl, by omega, by omega, for_it walk_range (fun j σ H' => ∃ (y3 y4 : Option V), σ = [some (.ref a), some (.ref b), some (.ref R), y3, y4] ∧ Same H H' ∧ H' R = some (.lst ((of M (mu j (co xs) (co ys))).map V.int)))
      ⟨_, _, rfl, s0, e0⟩ (fun _ _ _ _ _ => True.intro) ?_ ?_⟩
    · rintro j x σ G G' hj ⟨y3, y4, rfl, sG, eG⟩ ⟨eH, rfl⟩
      obtain rfl := eH.symm
      rw [Int.toNat_natCast] at hj
      refine ⟨_, rfl, b, _, rfl, .inr (hb.same sG).sq, ?_⟩
      rw [List.length_map]
      refine ⟨ys.length, rfl, by omega, by omega, for_it walk_range (fun k σ H' => ∃ (y4 : Option V), σ = [some (.ref a), some (.ref b), some (.ref R), some (.int (0 + (j : Int))), y4] ∧ Same H H' ∧
          H' R = some (.lst ((of M (ptl (mu j (co xs) (co ys)) (co xs j) (co ys) j k)).map V.int)))
        ⟨_, rfl, sG, by rw [ptl_zero]; exact eG⟩ (fun _ _ _ _ _ => True.intro) ?_ ?_⟩
      · rintro k x σ G2 G2' hk ⟨y4, rfl, s4, e4⟩ ⟨eH, rfl⟩
        obtain rfl := eH.symm
        rw [Int.toNat_natCast] at hk
        have hjk : j + k < M := by omega
        refine ⟨_, rfl, _, rfl, _, rfl, _, _, rfl, rfl, R, _, _, _, rfl, rfl, .inl (.inl e4), at_of (j := j + k) hjk (by omega), _, rfl, _, rfl, a, _, _, _, rfl, rfl, .inl (.inl (s4 _ _ ha)), at_co (j := j) hj (by omega), _, rfl, _, rfl, b, _, _, _, rfl, rfl, .inl (.inl (s4 _ _ hb)), at_co (j := k) hk (by omega), _, _, rfl, rfl, wide_mul (bx.co j) (bY.co k) c0 d0 (by omega), _, _, rfl, rfl, ?_⟩
        refine ⟨_, rfl, _, rfl, _, rfl, _, _, rfl, rfl, R, _, _, _, rfl, rfl, e4, ix_of (j := j + k) hjk (by omega), ?_⟩
        refine ⟨_, rfl, same_own s4 hR0, ?_⟩
        rw [upd_same, ← List.map_set, Int.natCast_add, ptl_at, ptl_step]
      · rintro σ G2 ⟨y4, rfl, s4, e4⟩
        rw [Int.toNat_natCast, ptl_all _ _ _ _ (fun _ => co_neg) (fun _ => co_big)] at e4
        exact ⟨_, _, rfl, s4, e4⟩
    · rintro σ G ⟨y3, y4, rfl, sG, eG⟩
      rw [Int.toNat_natCast] at eG
      refine ⟨_, rfl, R, _, rfl, .inl (.inl (.inl eG)), by rw [of_len]; omega, fun p H' sm hp => q p H' (sG.trans sm) ?_⟩
      rw [ml_win (by omega)] at hp
      exact hp
end
end K2

set_option Elab.async false
set_option linter.all false
set_option maxRecDepth 100000
set_option maxHeartbeats 4000000
namespace K2
open PySem PySem.Spec PyProof.Rows L2 Gd Pv RZ Po
theorem rgd_all : (List.range 1001).all (fun m => decide (Builtin.Range.small ((m : Int) - 1) (-1) (-1) = true ∧ Builtin.Range.rangeSize ((m : Int) - 1) (-1) (-1) = (m : Int))) = true := by decide +kernel
theorem rgd {m : Nat} (h : m ≤ 1000) : RgC ((m : Int) - 1) (-1) (-1) m := by
  have := of_decide_eq_true (List.all_eq_true.mp rgd_all m (List.mem_range.mpr (by omega)))
  exact ⟨by decide, by decide, this.1, this.2⟩
/-- how far the division has come: s shifts are left -/
structure Dvn (d : Nat) (B R0 : Int → Int) (m c e s : Nat) (R : Int → Int) (ft : List Int) : Prop where
  le : s ≤ m
  run : run d B s R = run d B m R0
  fac : fac d B s R ++ ft = fac d B m R0
  abs : ∀ i, (R i).natAbs ≤ 2 ^ (c + (m - s) * (e + 1))
theorem Dvn.start {d : Nat} {B R0 : Int → Int} {m c e : Nat} (h : ∀ i, (R0 i).natAbs ≤ 2 ^ c) : Dvn d B R0 m c e m R0 [] :=
  ⟨Nat.le_refl _, rfl, List.append_nil _, fun i => by rw [Nat.sub_self, Nat.zero_mul]; exact h i⟩
theorem Dvn.next {d : Nat} {B R0 R : Int → Int} {m c e s : Nat} {ft : List Int} (h : Dvn d B R0 m c e (s + 1) R ft) (hB : ∀ i, (B i).natAbs ≤ 2 ^ e) : Dvn d B R0 m c e s (stp d B R s) (R ((s : Int) + d) :: ft) := by
  have h1 := h.le
  refine ⟨by omega, h.run, ?_, fun i => ?_⟩
  · rw [← h.fac]
    show _ = (Po.fac d B s (stp d B R s) ++ [R ((s : Int) + d)]) ++ ft
    rw [List.append_assoc]
    rfl
  · have z := abs_step (d := d) (s := s) h.abs hB i
    have e1 : c + (m - s) * (e + 1) = c + (m - (s + 1)) * (e + 1) + (e + 1) := by
      rw [show m - s = m - (s + 1) + 1 by omega, Nat.succ_mul]
      omega
    rw [e1]
    exact z
theorem Dvn.done {d : Nat} {B R0 R : Int → Int} {m c e : Nat} {ft : List Int} (h : Dvn d B R0 m c e 0 R ft) : R = Po.run d B m R0 ∧ ft = Po.fac d B m R0 := ⟨h.run, h.fac⟩
theorem Dvn.bits {d : Nat} {B R0 R : Int → Int} {m c e s : Nat} {ft : List Int} (h : Dvn d B R0 m c e s R ft) (i : Int) : (R i).natAbs < 2 ^ (c + m * (e + 1) + 1) :=
  Nat.lt_of_le_of_lt (h.abs i) (Nat.lt_of_le_of_lt (Nat.pow_le_pow_right (by decide) (by have := Nat.mul_le_mul_right (e + 1) (Nat.sub_le m s); omega : c + (m - s) * (e + 1) ≤ c + m * (e + 1))) (Nat.pow_lt_pow_right (by decide) (Nat.lt_succ_self _)))
theorem set_zeros (s : Nat) (x : Int) (ft : List Int) : (List.replicate (s + 1) (0 : Int) ++ ft).set s x = List.replicate s 0 ++ (x :: ft) := by
  rw [List.replicate_succ', List.append_assoc, List.set_append_right _ _ (by rw [List.length_replicate]; exact Nat.le_refl _), List.length_replicate, Nat.sub_self]
  rfl
theorem stp_of {n d s : Nat} {B R : Int → Int} : (of n fun b => R b + -R ((s : Int) + d) * B (b - s)) = of n (stp d B R s) := of_congr fun b _ => by
  show _ = R b - R ((s : Int) + d) * B (b - s)
  rw [Int.neg_mul]
  omega
section
variable {P : Program} {w : World} {K : PySem.W.Frag} {mg : Str → Option Value} {base : Heap}
def spDiv : Sp := fun vs H Q _ => ∃ (a b : Addr) (xs ds : List Int) (c e : Nat), vs = [.ref a, .ref b] ∧ TAt H a xs ∧ TAt H b ds ∧ 1 ≤ ds.length ∧ xs.length ≤ 1000 ∧ ds.length ≤ 1000 ∧ Bd c xs ∧ Bd e ds ∧ 0 < e ∧ c + xs.length * (e + 1) + 1 + e ≤ 90000 ∧
  ∀ (t p1 p2 : Addr) (H' : Hp), Same H H' → H' t = some (.tup [.ref p1, .ref p2]) → TAt H' p1 (qs xs ds) → TAt H' p2 (rs xs ds) → Q (.ref t) H'
theorem c_divided (D : At K mg "divided" s_divided ["one", "divisor"]) (c_trimmedL : Cal P w K mg base 1 "trimmed" spTrimL) (z_len : mg "len" = none) (z_list : mg "list" = none) (z_range : mg "range" = none) (z_reversed : mg "reversed" = none) : Cal P w K mg base 2 "divided" spDiv := by
  refine okC D sc_divided (fun vs H Q E h => ?_) (fun f cdv A outer s H vs Q E hr h => ?_)
  · obtain ⟨a, b, xs, ds, c, e, rfl, _⟩ := h
    rfl
  · obtain ⟨a, b, xs, ds, c, e, rfl, ha, hb, l1, lx, ld, bx, bd, e0, hcd, q⟩ := h
    have nd := sc_divided.nd
    refine ⟨_, (pss_cons (ps_set (i := 2) nd rfl (.inl rfl) (pe_op op_sub (pe_callB call_len_seq (by rfl) z_len PySem.boot_len (pa_cons (pv 1) pa_nil)) pe_int))
 (pss_cons (ps_set (i := 3) nd rfl (.inl rfl) (pe_callTy call_list_of (by rfl) z_list (by decide +kernel) (pa_cons (pv 0) pa_nil)))
 (pss_cons (ps_setLc (i := 4) (own := [("_", 8)]) rfl nd rfl rfl (sw_true rfl rfl rfl (by decide +kernel)) (pi_range1 (by rfl) z_range (pa_cons (pe_op op_sub (pe_callB call_len_seq (by rfl) z_len PySem.boot_len (pa_cons (pv 0) pa_nil)) (pv 2)) pa_nil)) (blkOk_by (N := N_divided) (sc := defScope s_divided) (by decide +kernel)) (fun _ _ _ _ _ => pg_name (i := 8) nd rfl (Or.inl rfl)) (fun _ _ _ _ _ => pts_nil) (fun _ _ _ _ _ => pe_int))
 (pss_cons (ps_for PassesOwn.never rfl (pi_revR (by rfl) z_reversed (prg_1 (by rfl) z_range (pe_op op_sub (pe_callB call_len_seq (by rfl) z_len PySem.boot_len (pa_cons (pv 0) pa_nil)) (pv 2)))) (pg_name (i := 5) nd rfl (.inl rfl))
 (pss_cons (ps_set (i := 6) nd rfl (.inl rfl) (pe_ix ix_list (pv 3) (pe_op op_add (pv 5) (pv 2)) (fun _ _ => rfl)))
 (pss_cons (ps_asg (pv 6) (pg_sub (pv 4) (pv 5) set_list))
 (pss_one (ps_for PassesOwn.never rfl (pi_range1 (by rfl) z_range (pa_cons (pe_op op_add (pv 2) pe_int) pa_nil)) (pg_name (i := 7) nd rfl (.inl rfl))
 (pss_one (ps_asg (pe_op op_sub (pe_ix ix_list (pv 3) (pe_op op_add (pv 5) (pv 7)) (fun _ _ => rfl)) (pe_op op_mulW (pv 6) (pe_ix ix_tup (pv 1) (pv 7) (fun _ _ => rfl)))) (pg_sub (pv 3) (pe_op op_add (pv 5) (pv 7)) set_list))))))))
 (pss_one (ps_ret (pe_tup (pa_cons (pe_k c_trimmedL hr (by decide) (by rfl) (pa_cons (pv 4) pa_nil)) (pa_cons (pe_k c_trimmedL hr (by decide) (by rfl) (pa_cons (pv 3) pa_nil)) pa_nil))))))))), ?_⟩
    obtain ⟨d, hd⟩ : ∃ d : Nat, ds.length = d + 1 := ⟨ds.length - 1, by omega⟩
    have hB : ∀ i, (co ds i).natAbs ≤ 2 ^ e := fun i => Nat.le_of_lt (bd.co i)
    have bigB : ∀ i, ((d + 1 : Nat) : Int) ≤ i → co ds i = 0 := fun i hi => co_big (by omega)
    refine ⟨_, rfl, b, _, rfl, .inr hb.sq, _, _, rfl, rfl, ?_⟩
    rw [List.length_map, hd]
    dsimp only
    rw [show (((d + 1 : Nat) : Int) - 1) = (d : Int) by omega]
    refine ⟨_, rfl, a, _, rfl, .inr ha.sq, fun r hr0 => ?_⟩
    have s1 := same_new (o := .lst (xs.map V.int)) hr0
    have e1 : LAt (upd H r (.lst (xs.map V.int))) r xs := upd_same
    generalize upd H r (.lst (xs.map V.int)) = H1 at s1 e1 ⊢
    refine ⟨_, rfl, a, _, rfl, .inr (ha.same s1).sq, _, rfl, _, _, rfl, rfl, ((xs.length : Int) - (d : Int)), by rw [List.length_map], by omega, by omega, fun R hR => lcR (fun _ => V.int 0) hR (by omega) ?_ ?_⟩
    · intro i G R2 hi sG h4
      exact ⟨rfl, h4 G (Same.refl _)⟩
    · intro G0 s0 e2
      obtain ⟨m, hm⟩ : ∃ m : Nat, m = xs.length - d := ⟨_, rfl⟩
      have em : ((xs.length : Int) - (d : Int)).toNat = m := by omega
      rw [em, of_V _ fun _ => 0, of_const] at e2
      have s01 := s1.trans s0
      have er : G0 r = some (.lst ((of xs.length (co xs)).map V.int)) := by
        rw [of_co rfl]
        exact s0 _ _ e1
      have nrR : r ≠ R := fun z => by
        have y := e1
        rw [z] at y
        have y2 : H1 R = some (.lst (xs.map V.int)) := y
        rw [hR] at y2
        cases y2
      refine ⟨_, rfl, a, _, rfl, .inr (ha.same s01).sq, _, rfl, _, _, rfl, rfl, (xs.length : Int) - (d : Int), by rw [List.length_map], by omega, by omega, by omega, by omega, ?_⟩
      rw [Int.sub_zero, em]
      refine for_it walk_rangeC (fun i σ H' => ∃ (y5 y6 y7 y8 : Option V) (F : Int → Int) (ft : List Int), σ = [some (.ref a), some (.ref b), some (.int (d : Nat)), some (.ref r), some (.ref R), y5, y6, y7, y8] ∧ Same H H' ∧ H' r = some (.lst ((of xs.length F).map V.int)) ∧
          H' R = some (.lst ((List.replicate (m - i) 0 ++ ft).map V.int)) ∧ Dvn d (co ds) (co xs) m c e (m - i) F ft)
        ⟨_, _, _, _, co xs, [], rfl, s01, er, by rw [Nat.sub_zero, List.append_nil]; exact e2, by rw [Nat.sub_zero]; exact Dvn.start fun i => Nat.le_of_lt (bx.co i)⟩ (fun _ _ _ _ _ => True.intro) ?_ ?_
      · rintro i x σ G G' hi ⟨y5, y6, y7, y8, F, ft, rfl, sG, eG, eF, dn⟩ ⟨eH, rfl⟩
        obtain rfl := eH.symm
        obtain ⟨s, hs⟩ : ∃ s, m - i = s + 1 := ⟨m - i - 1, by omega⟩
        rw [hs] at eF dn
        have hsl : s + d < xs.length := by omega
        have ei : (0 + ((m : Nat) : Int) - 1 + (i : Int) * -1) = (s : Int) := by omega
        refine ⟨_, rfl, _, rfl, _, rfl, _, _, rfl, rfl, r, _, _, _, rfl, rfl, .inl (.inl eG), at_of (j := s + d) hsl (by rw [ei]; omega), ?_⟩
        have hix : ixN ((List.replicate (s + 1) (0 : Int) ++ ft).map V.int).length (0 + ((m : Nat) : Int) - 1 + (i : Int) * -1) = some s := by
          rw [ei, List.length_map, List.length_append, List.length_replicate]
          unfold ixN
          rw [if_pos (by omega), if_pos (by omega)]
          rfl
        refine ⟨_, rfl, _, rfl, _, rfl, R, _, _, _, rfl, rfl, eF, hix, ?_⟩
        have nn : H R = none := by
          cases z : H R with
          | none => rfl
          | some o =>
            have y := s1 R o z
            rw [hR] at y
            cases y
        have s5 := same_own (o := .lst (((List.replicate (s + 1) (0 : Int) ++ ft).map V.int).set s (.int (F ((s + d : Nat) : Int))))) sG nn
        have e5 : (upd G R (.lst (((List.replicate (s + 1) (0 : Int) ++ ft).map V.int).set s (.int (F ((s + d : Nat) : Int)))))) R = some (.lst ((List.replicate s 0 ++ (F ((s : Int) + d) :: ft)).map V.int)) := by
          rw [upd_same, ← List.map_set, set_zeros, Int.natCast_add]
        have e6 : (upd G R (.lst (((List.replicate (s + 1) (0 : Int) ++ ft).map V.int).set s (.int (F ((s + d : Nat) : Int)))))) r = some (.lst ((of xs.length F).map V.int)) := by
          rw [upd_ne nrR]
          exact eG
        generalize upd G R (.lst (((List.replicate (s + 1) (0 : Int) ++ ft).map V.int).set s (.int (F ((s + d : Nat) : Int))))) = G5 at s5 e5 e6 ⊢
        refine ⟨_, rfl, _, _, rfl, rfl, ((d + 1 : Nat) : Int), by rw [Int.natCast_add]; rfl, by omega, by omega, ?_⟩
        rw [Int.toNat_natCast]
        refine for_it walk_range (fun k σ H' => ∃ (y7 : Option V), σ = [some (.ref a), some (.ref b), some (.int (d : Nat)), some (.ref r), some (.ref R), some (.int (0 + ((m : Nat) : Int) - 1 + (i : Int) * -1)), some (.int (F ((s + d : Nat) : Int))), y7, y8] ∧ Same H H' ∧
            H' R = some (.lst ((List.replicate s 0 ++ (F ((s : Int) + d) :: ft)).map V.int)) ∧ H' r = some (.lst ((of xs.length (ptl F (-F ((s + d : Nat) : Int)) (co ds) s k)).map V.int)))
          ⟨_, rfl, s5, e5, by rw [ptl_zero]; exact e6⟩ (fun _ _ _ _ _ => True.intro) ?_ ?_
        · rintro k x σ G2 G2' hk ⟨y7, rfl, s7, e7, e8⟩ ⟨eH, rfl⟩
          obtain rfl := eH.symm
          have hsk : s + k < xs.length := by omega
          refine ⟨_, rfl, _, rfl, _, rfl, _, _, rfl, rfl, r, _, _, _, rfl, rfl, .inl (.inl e8), at_of (j := s + k) hsk (by rw [ei]; omega), _, rfl, _, rfl, _, rfl, b, _, _, _, rfl, rfl, .inl (.inl (s7 _ _ hb)), at_co (j := k) (by omega) (by omega), _, _, rfl, rfl, wide_mul (a := c + m * (e + 1) + 1) (b := e) (dn.bits _) (bd.co _) (by omega) e0 ?_, _, _, rfl, rfl, ?_⟩
          · have := Nat.mul_le_mul_right (e + 1) (by omega : m ≤ xs.length)
            omega
          refine ⟨_, rfl, _, rfl, _, rfl, _, _, rfl, rfl, r, _, _, _, rfl, rfl, e8, ix_of (j := s + k) hsk (by rw [ei]; omega), ?_⟩
          have nnr : H r = none := hr0
          refine ⟨_, rfl, same_own s7 nnr, ?_, ?_⟩
          · rw [upd_ne nrR.symm]
            exact e7
          · rw [upd_same, ← List.map_set, ← ptl_step, Int.neg_mul, ← Int.sub_eq_add_neg, show ((s + k : Nat) : Int) = (s : Int) + k from Int.natCast_add _ _, ptl_at]
        · rintro σ G2 ⟨y7, rfl, s7, e7, e8⟩
          rw [ptl_all _ _ _ _ (fun _ => co_neg) bigB, show ((s + d : Nat) : Int) = (s : Int) + d from Int.natCast_add _ _, stp_of] at e8
          have hs2 : m - (i + 1) = s := by omega
          exact ⟨_, _, _, _, _, _, rfl, s7, e8, by rw [hs2]; exact e7, by rw [hs2]; exact dn.next hB⟩
      · rintro σ G ⟨y5, y6, y7, y8, F, ft, rfl, sG, eG, eF, dn⟩
        rw [Nat.sub_self] at eF dn
        obtain ⟨rfl, rfl⟩ := dn.done
        have hmd : xs.length - (ds.length - 1) = m := by omega
        have hdd : ds.length - 1 = d := by omega
        refine ⟨_, rfl, R, _, rfl, eF, ?_, fun p1 H5 s5 e5 => ⟨_, rfl, r, _, rfl, s5 _ _ eG, by rw [of_len]; exact lx, fun p2 H6 s6 e6 => ⟨(by show 2 ≤ sizeLine; decide), fun t ht => ?_⟩⟩⟩
        · rw [List.length_append, List.length_replicate, fac_len]
          omega
        have st := same_new (o := .tup [V.ref p1, .ref p2]) ht
        refine q t p1 p2 _ (sG.trans (s5.trans (s6.trans st))) upd_same ?_ ?_
        · have z := (e5.same s6).same st
          unfold qs
          rw [hmd, hdd]
          exact z
        · have z := e6.same st
          unfold rs
          rw [hmd, hdd]
          exact z
end
end K2

set_option Elab.async false
set_option linter.all false
set_option maxRecDepth 100000
set_option maxHeartbeats 4000000
namespace K2
open PySem PySem.Spec PyProof.Rows L2 Gd Pv RZ Po
section
variable {P : Program} {w : World} {K : PySem.W.Frag} {mg : Str → Option Value} {base : Heap}
theorem c__law_split (D : At K mg "_law_split" s__law_split ["_law_first", "_law_base_here"]) (c__law_bare : Cal P w K mg base 1 "_law_bare" (spBare K)) (z_len : mg "len" = none) (z_list : mg "list" = none) (z_range : mg "range" = none) (z_max : mg "max" = none) : Cal P w K mg base 2 "_law_split" spDiv := by
  refine okC D sc__law_split (fun vs H Q E h => ?_) (fun f cdv A outer s H vs Q E hr h => ?_)
  · obtain ⟨a, b, xs, ds, c, e, rfl, _⟩ := h
    rfl
  · obtain ⟨a, b, xs, ds, c, e, rfl, ha, hb, l1, lx, ld, bx, bd, e0, hcd, q⟩ := h
    have nd := sc__law_split.nd
    refine ⟨_, (pss_cons (ps_par (i := 3) (j := 4) rfl nd rfl rfl (by decide) rfl rfl (pa_cons (pe_callTy call_list_of (by rfl) z_list (by decide +kernel) (pa_cons (pv 0) pa_nil)) (pa_cons (pe_op op_rep (pe_lst (pa_cons pe_int pa_nil)) (pe_callB (cr_max rfl) (by rfl) z_max (by decide +kernel) (pa_cons (pe_lst (pa_cons pe_int (pa_cons (pe_op op_add (pe_op op_sub (pe_callB call_len_seq (by rfl) z_len PySem.boot_len (pa_cons (pv 0) pa_nil)) (pe_callB call_len_seq (by rfl) z_len PySem.boot_len (pa_cons (pv 1) pa_nil))) pe_int) pa_nil))) pa_nil))) pa_nil)) rfl)
 (pss_cons (ps_for PassesOwn.never rfl (pi_range3 (by rfl) z_range (pa_cons (pe_op op_sub (pe_callB call_len_seq (by rfl) z_len PySem.boot_len (pa_cons (pv 4) pa_nil)) pe_int) (pa_cons (pe_un un_neg pe_int) (pa_cons (pe_un un_neg pe_int) pa_nil)))) (pg_name (i := 2) nd rfl (.inl rfl))
 (pss_cons (ps_set (i := 5) nd rfl (.inl rfl) (pe_ix ix_list (pv 3) (pe_op op_sub (pe_op op_add (pv 2) (pe_callB call_len_seq (by rfl) z_len PySem.boot_len (pa_cons (pv 1) pa_nil))) pe_int) (fun _ _ => rfl)))
 (pss_cons (ps_asg (pv 5) (pg_sub (pv 4) (pv 2) set_list))
 (pss_one (ps_for PassesOwn.never rfl (pi_range1 (by rfl) z_range (pa_cons (pe_callB call_len_seq (by rfl) z_len PySem.boot_len (pa_cons (pv 1) pa_nil)) pa_nil)) (pg_name (i := 6) nd rfl (.inl rfl))
 (pss_one (ps_asg (pe_op op_sub (pe_ix ix_list (pv 3) (pe_op op_add (pv 2) (pv 6)) (fun _ _ => rfl)) (pe_op op_mulW (pv 5) (pe_ix ix_tup (pv 1) (pv 6) (fun _ _ => rfl)))) (pg_sub (pv 3) (pe_op op_add (pv 2) (pv 6)) set_list))))))))
 (pss_one (ps_ret (pe_tup (pa_cons (pe_k c__law_bare hr (by decide) (by rfl) (pa_cons (pv 4) pa_nil)) (pa_cons (pe_k c__law_bare hr (by decide) (by rfl) (pa_cons (pv 3) pa_nil)) pa_nil))))))), ?_⟩
    obtain ⟨d, hd⟩ : ∃ d : Nat, ds.length = d + 1 := ⟨ds.length - 1, by omega⟩
    have hB : ∀ i, (co ds i).natAbs ≤ 2 ^ e := fun i => Nat.le_of_lt (bd.co i)
    have bigB : ∀ i, ((d + 1 : Nat) : Int) ≤ i → co ds i = 0 := fun i hi => co_big (by omega)
    refine ⟨_, rfl, a, _, rfl, .inr ha.sq, fun r hr0 => ?_⟩
    have s1 := same_new (o := .lst (xs.map V.int)) hr0
    have e1 : LAt (upd H r (.lst (xs.map V.int))) r xs := upd_same
    generalize upd H r (.lst (xs.map V.int)) = H1 at s1 e1 ⊢
    refine ⟨(by show 1 ≤ sizeLine; decide), fun l2 hl2 => ?_⟩
    have sa := same_new (o := .lst [V.int 0]) hl2
    refine ⟨_, rfl, a, _, rfl, .inr (ha.same (s1.trans sa)).sq, _, rfl, b, _, rfl, .inr (hb.same (s1.trans sa)).sq, _, _, rfl, rfl, _, _, rfl, rfl, (by show 2 ≤ sizeLine; decide), fun l3 hl3 => ?_⟩
    rw [List.length_map, List.length_map]
    have sb := same_new (o := .lst [V.int 0, .int ((xs.length : Int) - (ds.length : Int) + 1)]) hl3
    refine ⟨l3, [0, (xs.length : Int) - (ds.length : Int) + 1], rfl, .inl (.inl upd_same), (by show 0 < 2; decide), fun mx hm hmax => ?_⟩
    obtain ⟨m, rfl, hm2⟩ : ∃ m : Nat, mx = (m : Int) ∧ m = xs.length - d := by
      have h1 := hmax 0 (by simp)
      have h2 := hmax ((xs.length : Int) - (ds.length : Int) + 1) (by simp)
      simp only [List.mem_cons, List.not_mem_nil, or_false] at hm
      refine ⟨xs.length - d, ?_, rfl⟩
      rcases hm with rfl | rfl <;> omega
    clear hmax hm
    refine ⟨l2, (m : Nat), _, rfl, rfl, sb _ _ upd_same, by omega, by omega, by rw [Int.toNat_natCast, sizeLine_eq]; show 1 * m ≤ _; omega, fun R hR => ?_⟩
    rw [Int.toNat_natCast, rep_flat]
    have s0 := (sa.trans sb).trans (same_new (o := .lst ((List.replicate m (0 : Int)).map V.int)) hR)
    have e2 : (upd (upd (upd H1 l2 (.lst [V.int 0])) l3 (.lst [V.int 0, .int ((xs.length : Int) - (ds.length : Int) + 1)])) R (.lst ((List.replicate m (0 : Int)).map V.int))) R = some (.lst ((List.replicate m (0 : Int)).map V.int)) := upd_same
    have hR1 : H1 R = none := by
      cases z : H1 R with
      | none => rfl
      | some o =>
        have y := (sa.trans sb) R o z
        rw [hR] at y
        cases y
    generalize upd (upd (upd H1 l2 (.lst [V.int 0])) l3 (.lst [V.int 0, .int ((xs.length : Int) - (ds.length : Int) + 1)])) R (.lst ((List.replicate m (0 : Int)).map V.int)) = G0 at s0 e2 ⊢
    clear sa sb hl2 hl3 hR
    refine ⟨_, _, rfl, ?_⟩
    have s01 := s1.trans s0
    have er : G0 r = some (.lst ((of xs.length (co xs)).map V.int)) := by
      rw [of_co rfl]
      exact s0 _ _ e1
    have nrR : r ≠ R := fun z => by
      have y := e1
      rw [z] at y
      have y2 : H1 R = some (.lst (xs.map V.int)) := y
      rw [hR1] at y2
      cases y2
    have nn : H R = none := by
      cases z : H R with
      | none => rfl
      | some o =>
        have y := s1 R o z
        rw [hR1] at y
        cases y
    refine ⟨_, rfl, R, _, rfl, .inl (.inl (.inl e2)), _, _, rfl, rfl, _, rfl, _, rfl, ((m : Nat) : Int) - 1, -1, -1, m, by rw [List.length_map, List.length_replicate], rgd (by omega), ?_⟩
    refine for_it walk_rangeC (fun i σ H' => ∃ (y2 y5 y6 : Option V) (F : Int → Int) (ft : List Int), σ = [some (.ref a), some (.ref b), y2, some (.ref r), some (.ref R), y5, y6] ∧ Same H H' ∧ H' r = some (.lst ((of xs.length F).map V.int)) ∧
        H' R = some (.lst ((List.replicate (m - i) 0 ++ ft).map V.int)) ∧ Dvn d (co ds) (co xs) m c e (m - i) F ft)
      ⟨_, _, _, co xs, [], rfl, s01, er, by rw [Nat.sub_zero, List.append_nil]; exact e2, by rw [Nat.sub_zero]; exact Dvn.start fun i => Nat.le_of_lt (bx.co i)⟩ (fun _ _ _ _ _ => True.intro) ?_ ?_
    · rintro i x σ G G' hi ⟨y2, y5, y6, F, ft, rfl, sG, eG, eF, dn⟩ ⟨eH, rfl⟩
      obtain rfl := eH.symm
      obtain ⟨s, hs⟩ : ∃ s, m - i = s + 1 := ⟨m - i - 1, by omega⟩
      rw [hs] at eF dn
      have hsl : s + d < xs.length := by omega
      have ei : (((m : Nat) : Int) - 1 + (i : Int) * -1) = (s : Int) := by omega
      refine ⟨_, rfl, _, rfl, _, rfl, b, _, rfl, .inr (hb.same sG).sq, _, _, rfl, rfl, _, _, rfl, rfl, r, _, _, _, rfl, rfl, .inl (.inl eG), at_of (j := s + d) hsl (by rw [List.length_map, ei]; omega), ?_⟩
      have hix : ixN ((List.replicate (s + 1) (0 : Int) ++ ft).map V.int).length (((m : Nat) : Int) - 1 + (i : Int) * -1) = some s := by
        rw [ei, List.length_map, List.length_append, List.length_replicate]
        unfold ixN
        rw [if_pos (by omega), if_pos (by omega)]
        rfl
      refine ⟨_, rfl, _, rfl, _, rfl, R, _, _, _, rfl, rfl, eF, hix, ?_⟩
      have s5 := same_own (o := .lst (((List.replicate (s + 1) (0 : Int) ++ ft).map V.int).set s (.int (F ((s + d : Nat) : Int))))) sG nn
      have e5 : (upd G R (.lst (((List.replicate (s + 1) (0 : Int) ++ ft).map V.int).set s (.int (F ((s + d : Nat) : Int)))))) R = some (.lst ((List.replicate s 0 ++ (F ((s : Int) + d) :: ft)).map V.int)) := by
        rw [upd_same, ← List.map_set, set_zeros, Int.natCast_add]
      have e6 : (upd G R (.lst (((List.replicate (s + 1) (0 : Int) ++ ft).map V.int).set s (.int (F ((s + d : Nat) : Int)))))) r = some (.lst ((of xs.length F).map V.int)) := by
        rw [upd_ne nrR]
        exact eG
      generalize upd G R (.lst (((List.replicate (s + 1) (0 : Int) ++ ft).map V.int).set s (.int (F ((s + d : Nat) : Int))))) = G5 at s5 e5 e6 ⊢
      refine ⟨_, rfl, b, _, rfl, .inr (hb.same s5).sq, ((d + 1 : Nat) : Int), by rw [List.length_map, hd], by omega, by omega, ?_⟩
      rw [Int.toNat_natCast]
      refine for_it walk_range (fun k σ H' => ∃ (y6 : Option V), σ = [some (.ref a), some (.ref b), some (.int (((m : Nat) : Int) - 1 + (i : Int) * -1)), some (.ref r), some (.ref R), some (.int (F ((s + d : Nat) : Int))), y6] ∧ Same H H' ∧
          H' R = some (.lst ((List.replicate s 0 ++ (F ((s : Int) + d) :: ft)).map V.int)) ∧ H' r = some (.lst ((of xs.length (ptl F (-F ((s + d : Nat) : Int)) (co ds) s k)).map V.int)))
        ⟨_, rfl, s5, e5, by rw [ptl_zero]; exact e6⟩ (fun _ _ _ _ _ => True.intro) ?_ ?_
      · rintro k x σ G2 G2' hk ⟨y7, rfl, s7, e7, e8⟩ ⟨eH, rfl⟩
        obtain rfl := eH.symm
        have hsk : s + k < xs.length := by omega
        refine ⟨_, rfl, _, rfl, _, rfl, _, _, rfl, rfl, r, _, _, _, rfl, rfl, .inl (.inl e8), at_of (j := s + k) hsk (by rw [ei]; omega), _, rfl, _, rfl, _, rfl, b, _, _, _, rfl, rfl, .inl (.inl (s7 _ _ hb)), at_co (j := k) (by omega) (by omega), _, _, rfl, rfl, wide_mul (a := c + m * (e + 1) + 1) (b := e) (dn.bits _) (bd.co _) (by omega) e0 ?_, _, _, rfl, rfl, ?_⟩
        · have := Nat.mul_le_mul_right (e + 1) (by omega : m ≤ xs.length)
          omega
        refine ⟨_, rfl, _, rfl, _, rfl, _, _, rfl, rfl, r, _, _, _, rfl, rfl, e8, ix_of (j := s + k) hsk (by rw [ei]; omega), ?_⟩
        have nnr : H r = none := hr0
        refine ⟨_, rfl, same_own s7 nnr, ?_, ?_⟩
        · rw [upd_ne nrR.symm]
          exact e7
        · rw [upd_same, ← List.map_set, ← ptl_step, Int.neg_mul, ← Int.sub_eq_add_neg, show ((s + k : Nat) : Int) = (s : Int) + k from Int.natCast_add _ _, ptl_at]
      · rintro σ G2 ⟨y7, rfl, s7, e7, e8⟩
        rw [ptl_all _ _ _ _ (fun _ => co_neg) bigB, show ((s + d : Nat) : Int) = (s : Int) + d from Int.natCast_add _ _, stp_of] at e8
        have hs2 : m - (i + 1) = s := by omega
        exact ⟨_, _, _, _, _, rfl, s7, e8, by rw [hs2]; exact e7, by rw [hs2]; exact dn.next hB⟩
    · rintro σ G ⟨y2, y5, y6, F, ft, rfl, sG, eG, eF, dn⟩
      rw [Nat.sub_self] at eF dn
      obtain ⟨rfl, rfl⟩ := dn.done
      have hmd : xs.length - (ds.length - 1) = m := by omega
      have hdd : ds.length - 1 = d := by omega
      refine ⟨_, rfl, R, _, rfl, .inl (.inl (.inl eF)), ?_, fun p1 H5 s5 e5 => ⟨_, rfl, r, _, rfl, .inl (.inl (.inl (s5 _ _ eG))), by rw [of_len]; exact lx, fun p2 H6 s6 e6 => ⟨(by show 2 ≤ sizeLine; decide), fun t ht => ?_⟩⟩⟩
      · rw [List.length_append, List.length_replicate, fac_len]
        omega
      have st := same_new (o := .tup [V.ref p1, .ref p2]) ht
      refine q t p1 p2 _ (sG.trans (s5.trans (s6.trans st))) upd_same ?_ ?_
      · have z := (e5.same s6).same st
        unfold qs
        rw [hmd, hdd]
        exact z
      · have z := e6.same st
        unfold rs
        rw [hmd, hdd]
        exact z
def spRest : Sp := fun vs H Q _ => ∃ (a b : Addr) (xs ds : List Int) (c e : Nat), vs = [.ref a, .ref b] ∧ TAt H a xs ∧ TAt H b ds ∧ Nf xs ∧ Mo ds ∧ xs.length ≤ 1000 ∧ ds.length ≤ 1000 ∧ Bd c xs ∧ Bd e ds ∧ 0 < e ∧ c + xs.length * (e + 1) + 1 + e ≤ 90000 ∧
  ∀ (p : Addr) (H' : Hp), Same H H' → TAt H' p (rs xs ds) → Q (.ref p) H'
/-- the quotient where it comes out -/
def spExact : Sp := fun vs H Q _ => ∃ (a b : Addr) (xs ds : List Int) (c e : Nat), vs = [.ref a, .ref b] ∧ TAt H a xs ∧ TAt H b ds ∧ Nf xs ∧ Mo ds ∧ xs.length ≤ 1000 ∧ ds.length ≤ 1000 ∧ Bd c xs ∧ Bd e ds ∧ 0 < e ∧ c + xs.length * (e + 1) + 1 + e ≤ 90000 ∧
  (rs xs ds = [] → ∀ (p : Addr) (H' : Hp), Same H H' → TAt H' p (qs xs ds) → Q (.ref p) H') ∧ (rs xs ds ≠ [] → ∀ H', Same H H' → Q .non H')
theorem c_rest_by (D : At K mg "rest_by" s_rest_by ["one", "divisor"]) (c_need : Cal P w K mg base 1 "need" spNeed) (c_is_polynomial : Cal P w K mg base 3 "is_polynomial" spIsPoly) (c_is_monic : Cal P w K mg base 3 "is_monic" spIsMonic) (c_divided : Cal P w K mg base 2 "divided" spDiv) : Cal P w K mg base 4 "rest_by" spRest := by
  refine okC D sc_rest_by (fun vs H Q E h => ?_) (fun f cdv A outer s H vs Q E hr h => ?_)
  · obtain ⟨a, b, xs, ds, c, e, rfl, _⟩ := h
    rfl
  · obtain ⟨a, b, xs, ds, c, e, rfl, ha, hb, nx, mo, lx, ld, bx, bd, e0, hcd, q⟩ := h
    have nd := sc_rest_by.nd
    refine ⟨_, (pss_cons (ps_expr (pe_k c_need hr (by decide) (by rfl) (pa_cons (pe_k c_is_polynomial hr (by decide) (by rfl) (pa_cons (pv 0) pa_nil)) (pa_cons pe_str pa_nil))))
 (pss_cons (ps_expr (pe_k c_need hr (by decide) (by rfl) (pa_cons (pe_k c_is_monic hr (by decide) (by rfl) (pa_cons (pv 1) pa_nil)) (pa_cons pe_str pa_nil))))
 (pss_one (ps_ret (pe_ix ix_tup (pe_k c_divided hr (by decide) (by rfl) (pa_cons (pv 0) (pa_cons (pv 1) pa_nil))) pe_int (fun _ _ => rfl)))))), ?_⟩
    refine ⟨_, rfl, a, xs, rfl, ha, nx, lx, fun H1 s1 => ⟨_, rfl, ?_⟩⟩
    refine ⟨_, rfl, b, ds, rfl, hb.same s1, mo, ld, fun H2 s2 => ⟨_, rfl, ?_⟩⟩
    have s02 := s1.trans s2
    refine ⟨_, rfl, _, rfl, a, b, xs, ds, c, e, rfl, ha.same s02, hb.same s02, mo.len, lx, ld, bx, bd, e0, hcd, fun t p1 p2 H3 s3 et e1 e2 => ?_⟩
    exact ⟨t, _, _, _, rfl, rfl, .inl (.inl et), rfl, q p2 H3 (s02.trans s3) e2⟩
theorem c_exact_by (D : At K mg "exact_by" s_exact_by ["one", "divisor"]) (c_need : Cal P w K mg base 1 "need" spNeed) (c_is_polynomial : Cal P w K mg base 3 "is_polynomial" spIsPoly) (c_is_monic : Cal P w K mg base 3 "is_monic" spIsMonic) (c_divided : Cal P w K mg base 2 "divided" spDiv) : Cal P w K mg base 4 "exact_by" spExact := by
  refine okC D sc_exact_by (fun vs H Q E h => ?_) (fun f cdv A outer s H vs Q E hr h => ?_)
  · obtain ⟨a, b, xs, ds, c, e, rfl, _⟩ := h
    rfl
  · obtain ⟨a, b, xs, ds, c, e, rfl, ha, hb, nx, mo, lx, ld, bx, bd, e0, hcd, q1, q2⟩ := h
    have nd := sc_exact_by.nd
    have hu64 := hr.units
    refine ⟨_, (pss_cons (ps_expr (pe_k c_need hr (by decide) (by rfl) (pa_cons (pe_k c_is_polynomial hr (by decide) (by rfl) (pa_cons (pv 0) pa_nil)) (pa_cons pe_str pa_nil))))
 (pss_cons (ps_expr (pe_k c_need hr (by decide) (by rfl) (pa_cons (pe_k c_is_monic hr (by decide) (by rfl) (pa_cons (pv 1) pa_nil)) (pa_cons pe_str pa_nil))))
 (pss_cons (ps_asg (pe_k c_divided hr (by decide) (by rfl) (pa_cons (pv 0) (pa_cons (pv 1) pa_nil))) (pg_tup rfl (pgs_cons (pg_name (i := 2) nd rfl (.inl rfl)) (pgs_cons (pg_name (i := 3) nd rfl (.inl rfl)) pgs_nil))))
 (pss_one (ps_ret (pe_ifExp (pt_cmpR (op_eqD hu64) (pv 3) (pe_tup pa_nil) (nomark _)) (pv 2) pe_non)))))), ?_⟩
    refine ⟨_, rfl, a, xs, rfl, ha, nx, lx, fun H1 s1 => ⟨_, rfl, ?_⟩⟩
    refine ⟨_, rfl, b, ds, rfl, hb.same s1, mo, ld, fun H2 s2 => ⟨_, rfl, ?_⟩⟩
    have s02 := s1.trans s2
    refine ⟨_, rfl, _, rfl, a, b, xs, ds, c, e, rfl, ha.same s02, hb.same s02, mo.len, lx, ld, bx, bd, e0, hcd, fun t p1 p2 H3 s3 et e1 e2 => ?_⟩
    refine ⟨t, _, rfl, .inl (.inl et), rfl, _, _, rfl, _, _, rfl, rfl, ?_⟩
    refine ⟨_, rfl, (by show 0 ≤ sizeLine; decide), fun z hz => ?_⟩
    have sz := same_new (o := .tup []) hz
    refine ⟨dT (rs xs ds), dT [], dpT (e2.same sz), dpT (show TAt _ z [] from upd_same), shT _, shT _, ?_⟩
    rw [eqT_nil]
    refine ⟨_, rfl, ite2 (fun y => ?_) (fun y => ?_)⟩
    · exact ⟨_, rfl, q1 (of_decide_eq_true y) p1 _ ((s02.trans s3).trans sz) (e1.same sz)⟩
    · exact q2 (fun x => y (decide_eq_true x)) _ ((s02.trans s3).trans sz)
end
end K2

set_option Elab.async false
set_option linter.all false
namespace Gd
open PySem PySem.Spec PyProof.Rows L2
theorem places (n : Nat) : Builtin.Slice.slicePlaces ((Builtin.Slice.sliceAdjust none none (-1) (n : Int)).1) ((Builtin.Slice.sliceAdjust none none (-1) (n : Int)).2) (-1) = n ∧ (Builtin.Slice.sliceAdjust none none (-1) (n : Int)).1 = (n : Int) - 1 := by
  have h1 : Builtin.Slice.sliceAdjust none none (-1) (n : Int) = ((n : Int) - 1, -1) := by
    unfold Builtin.Slice.sliceAdjust
    rfl
  rw [h1]
  refine ⟨?_, rfl⟩
  unfold Builtin.Slice.slicePlaces
  rw [if_neg (by decide)]
  by_cases h : 0 < n
  · rw [if_pos (by show (-1 : Int) < (n : Int) - 1; omega)]
    show (((n : Int) - 1 - -1 - 1) / (- -1) + 1).toNat = n
    rw [show (- -1 : Int) = 1 from rfl, Int.ediv_one]
    omega
  · rw [if_neg (by show ¬ (-1 : Int) < (n : Int) - 1; omega)]
    show 0 = n
    omega
theorem picks (xs : Array Value) : (List.filterMap (fun k : Nat => xs[((xs.size : Int) - 1 + (k : Int) * -1).toNat]?) (List.range xs.size)) = xs.toList.reverse := by
  have e : ∀ k ∈ List.range xs.size, xs[((xs.size : Int) - 1 + (k : Int) * -1).toNat]? = xs.toList.reverse[k]? := by
    intro k hk
    have hk2 := List.mem_range.mp hk
    rw [show ((xs.size : Int) - 1 + (k : Int) * -1).toNat = xs.size - 1 - k by omega, List.getElem?_reverse (by simpa using hk2)]
    simp
  have z : ∀ l : List Nat, (∀ k ∈ l, k ∈ List.range xs.size) → l.filterMap (fun k : Nat => xs[((xs.size : Int) - 1 + (k : Int) * -1).toNat]?) = l.filterMap fun k => xs.toList.reverse[k]? := by
    intro l
    induction l with
    | nil => intro _; rfl
    | cons a l ih =>
      intro h
      rw [List.filterMap_cons, List.filterMap_cons, e a (h a List.mem_cons_self), ih fun k hk => h k (List.mem_cons_of_mem _ hk)]
  rw [z _ fun _ h => h]
  have := PySem.W.krv_all xs.toList.reverse.toArray
  simpa using this
theorem sliceApplied_rev {prog : Program} {w : World} {A : Around} {E : Value → Shared → Prop} {s : Shared} {sl : Addr} {t : Tok} {n : Nat} {Q : Int × Int × Nat → Shared → Prop}
    (h : s.heap.IsSliceOf sl .none .none (.int (-1) t)) (q : Q ((n : Int) - 1, -1, n) s) : wpAny (model prog w) A (Builtin.Slice.sliceApplied (.ref sl) (pure (n : Int))) Q E s := by
  obtain ⟨hp, g, d, tk, os⟩ := s
  obtain ⟨⟨cls, dd, data, sl2⟩, ho, hc, hd⟩ := h
  simp only at hc hd
  subst hc hd
  have f1 := AutoSeq1.idx_int
  unfold Builtin.Slice.sliceApplied
  wp_walk using wpAny_loadPart' ho
  obtain ⟨p1, p2⟩ := places n
  show Q ((Builtin.Slice.sliceAdjust none none (-1) (n : Int)).1, -1, Builtin.Slice.slicePlaces ((Builtin.Slice.sliceAdjust none none (-1) (n : Int)).1) ((Builtin.Slice.sliceAdjust none none (-1) (n : Int)).2) (-1)) _
  rw [p1, p2]
  exact q
theorem tuple_get_rev (l sl : Addr) (items : Array Value) (n : Nat) (dd : Option Addr) (sl0 : Array (Option Value)) (t : Tok) :
    Meets (Builtin.«tuple.__getitem__» ⟨[.ref l, .ref sl], []⟩) (fun _ R s => s.heap.get? l = some { cls := .type "tuple", dict := dd, data := .seq items n, slots := sl0 } ∧ s.heap.IsSliceOf sl .none .none (.int (-1) t) ∧ items.size ≤ sizeLine ∧
      R (.ok (.ret (Value.ref s.heap.objs.size))) { s with heap := s.heap.push { cls := .type "tuple", data := .seq items.toList.reverse.toArray } }) :=
  .of_wp fun prog w A R s h => by
    obtain ⟨hp, g, d, tk, os⟩ := s
    obtain ⟨hl, hs, hz, h⟩ := h
    have hs2 := hs
    obtain ⟨⟨cls, dd2, data, sl2⟩, ho, hc, hd⟩ := hs2
    simp only at hc hd
    subst hc hd
    have f1 := AutoSeq1.idx_int
    obtain ⟨p1, p2⟩ := places items.size
    have p3 := picks items
    wp_walk using wpAny_loadPart' hl
    have p4 : (List.filterMap (fun k : Nat => items[((Builtin.Slice.sliceAdjust none none ((some (-1 : Int)).getD 1) (items.size : Int)).fst + (k : Int) * (some (-1 : Int)).getD 1).toNat]?)
        (List.range (Builtin.Slice.slicePlaces (Builtin.Slice.sliceAdjust none none ((some (-1 : Int)).getD 1) (items.size : Int)).fst (Builtin.Slice.sliceAdjust none none ((some (-1 : Int)).getD 1) (items.size : Int)).snd ((some (-1 : Int)).getD 1)))) = items.toList.reverse := by
      show (List.filterMap (fun k : Nat => items[((Builtin.Slice.sliceAdjust none none (-1) (items.size : Int)).1 + (k : Int) * -1).toNat]?) (List.range (Builtin.Slice.slicePlaces ((Builtin.Slice.sliceAdjust none none (-1) (items.size : Int)).1) ((Builtin.Slice.sliceAdjust none none (-1) (items.size : Int)).2) (-1)))) = _
      rw [p1, p2]
      exact p3
    rw [p4]
    have hz2 : ¬ items.toList.reverse.toArray.size > sizeLine := by
      simp only [List.size_toArray, List.length_reverse, Array.length_toList]
      omega
    refine wpAny_ite_false (decide_eq_false hz2) ?_
    wp_walk
    exact ⟨_, rfl, h⟩
/-- the items of a tuple from its end on -/
def tRevT (K : PySem.W.Frag) (te : TE) : TE := fun σ H Q => te σ H fun x H1 => ∃ a xs, x = .ref a ∧ SqT K H1 a xs ∧ ∀ p, H1 p = none → Q (.ref p) (upd H1 p (.tup xs.reverse))
theorem vals_len : ∀ {xs : List V} {its : List Value}, Vals xs its → xs.length = its.length
  | [], [], _ => rfl
  | _ :: _, _ :: _, .cons _ t => by rw [List.length_cons, List.length_cons, vals_len t]
theorem vals_rev : ∀ {xs : List V} {its : List Value}, Vals xs its → Vals xs.reverse its.reverse
  | [], [], _ => .nil
  | x :: xs, v :: its, h => by
    cases h with
    | cons h t =>
      rw [List.reverse_cons, List.reverse_cons]
      exact vals_app (vals_rev t) (.cons h .nil)
where vals_app : ∀ {xs ys : List V} {a b : List Value}, Vals xs a → Vals ys b → Vals (xs ++ ys) (a ++ b)
  | [], _, [], _, _, h => h
  | _ :: _, _, _ :: _, _, .cons h t, u => .cons h (vals_app t u)
theorem pe_revT {X : Cx} {e : Expr} {te : TE} {k : Nat} {p1 p2 p3 pos : Pos} (he : PE X e te) (ht : ∀ (o r : Value), letTemporaryGo e o r = pure () := by exact fun _ _ => rfl) : PE X (.Subscript e (.Slice none none (some (.UnaryOp .USub (.Constant (.int 1) k p1) p2)) p3) pos) (tRevT X.K te) := by
  refine ⟨fun pins s σ H Q I h => ?_⟩
  refine wpAny_Subscript_Slice_step (T := "tuple") (id := "tuple.__getitem__") F.slot_tuple_getitem.lookup (thn (he.run pins s σ H _ I h) fun u s1 ⟨v, H1, I1, r1, q1⟩ => ?_) ht
  obtain ⟨a, xs, rfl, hx, q⟩ := q1
  cases r1
  refine wpAny_Slice ?_
  have e0 : ∀ env, evalPart none env = pure Value.none := fun _ => rfl
  have e1 : ∀ (x : Expr) env, evalPart (some x) env = eval x env := fun _ _ => rfl
  rw [e0, e1]
  refine wpAny_pure ?_
  refine wpAny_pure ?_
  refine thn ((pe_un un_neg (pe_int (X := X))).run pins s1 σ H1 (fun v H' => v = .int (-1) ∧ H' = H1) I1 ⟨_, rfl, rfl, rfl⟩) fun u s2 ⟨v, H2, I2, r2, q2⟩ => ?_
  obtain ⟨rfl, rfl⟩ := q2
  obtain ⟨t, rfl⟩ := r2
  obtain ⟨its, rv, ⟨⟨cls, dd, data, sl⟩, ho, hc, n, hd⟩, hs⟩ := I2.tuple hx
  simp only at hc hd
  subst hc hd
  refine ⟨⟨_, Heap.get?_push_of_some _ ho, rfl⟩, ?_⟩
  refine getItem_meets (T := "tuple") (id := "tuple.__getitem__") ⟨_, Heap.get?_push_of_some _ ho, rfl⟩ (by decide) F.slot_tuple_getitem F.entry_tuple_getitem (F.args_tuple_getitem_2 _ _) (tuple_get_rev a s2.heap.objs.size its.toArray n dd sl t)
    ⟨Heap.get?_push_of_some _ ho, ⟨_, Heap.get?_push_size _ rfl, rfl, rfl⟩, ?_, ?_⟩
  · rw [List.size_toArray, ← vals_len rv]
    exact hs
  have I3 : L2.Inv X pins σ H2 { s2 with heap := s2.heap.push { cls := .type "slice", data := .fields #[.none, .none, .int (-1) t] } } := I2.kept (t' := s2.toks) fun b o e => Heap.get?_push_of_some _ e
  refine ⟨.ref _, upd H2 _ (.tup xs.reverse), I3.laid (fun b o e => Heap.get?_push_of_some _ e) (Nat.le_refl _) (show ObjOk X.prog X.w _ _ _ (.tup _) from ⟨by rw [List.length_reverse]; exact hs, its.reverse, vals_rev rv, ⟨_, Heap.get?_push_size _ rfl, rfl, _, rfl⟩⟩), rfl, q _ (I3.hok.fresh (Nat.le_refl _))⟩
end Gd

set_option Elab.async false
set_option linter.all false
set_option maxRecDepth 100000
set_option maxHeartbeats 4000000
namespace K2
open PySem PySem.Spec PyProof.Rows L2 Gd Pv RZ Po
/-- the value of the last ones -/
theorem ev_step {t : Int} {xs : List Int} {i : Nat} (h : i < xs.length) : ev t (xs.drop (xs.length - (i + 1))) = ev t (xs.drop (xs.length - i)) * t + xs[xs.length - 1 - i] := by
  have e : xs.drop (xs.length - (i + 1)) = xs[xs.length - 1 - i] :: xs.drop (xs.length - i) := by
    rw [show xs.length - i = (xs.length - 1 - i) + 1 by omega, show xs.length - (i + 1) = xs.length - 1 - i by omega]
    exact List.drop_eq_getElem_cons (by omega)
  rw [e]
  rfl
theorem ev_abs {t : Int} {c k : Nat} (ht : t.natAbs ≤ 2 ^ k) : ∀ {xs : List Int}, Bd c xs → (ev t xs).natAbs ≤ 2 ^ (c + xs.length * (k + 1))
  | [], _ => by show 0 ≤ _; exact Nat.zero_le _
  | x :: xs, h => by
    have h1 := ev_abs ht (xs := xs) fun y hy => h y (List.mem_cons_of_mem _ hy)
    have h2 := h x List.mem_cons_self
    have h3 : (ev t xs * t).natAbs ≤ 2 ^ (c + xs.length * (k + 1)) * 2 ^ k := by
      rw [Int.natAbs_mul]
      exact Nat.mul_le_mul h1 ht
    have h4 : 2 ^ (c + (x :: xs).length * (k + 1)) = 2 * (2 ^ (c + xs.length * (k + 1)) * 2 ^ k) := by
      rw [List.length_cons, Nat.succ_mul, show c + (xs.length * (k + 1) + (k + 1)) = c + xs.length * (k + 1) + k + 1 by omega, Nat.pow_succ, Nat.pow_add, Nat.mul_comm]
    have h5 : 2 ^ c ≤ 2 ^ (c + xs.length * (k + 1)) * 2 ^ k := Nat.le_trans (Nat.pow_le_pow_right (by decide) (Nat.le_add_right _ _)) (Nat.le_mul_of_pos_right _ (Nat.pow_pos (by decide)))
    show (ev t xs * t + x).natAbs ≤ _
    omega
theorem Bd.drop {c : Nat} {xs : List Int} (h : Bd c xs) (m : Nat) : Bd c (xs.drop m) := fun x hx => h x (List.mem_of_mem_drop hx)
theorem ev_bits {t : Int} {c k : Nat} (ht : t.natAbs ≤ 2 ^ k) {xs : List Int} (h : Bd c xs) (m : Nat) : (ev t (xs.drop m)).natAbs < 2 ^ (c + xs.length * (k + 1) + 1) :=
  Nat.lt_of_le_of_lt (ev_abs ht (h.drop m)) (Nat.pow_lt_pow_right (by decide) (by
    have := Nat.mul_le_mul_right (k + 1) (show (xs.drop m).length ≤ xs.length by rw [List.length_drop]; omega)
    omega))
section
variable {P : Program} {w : World} {K : PySem.W.Frag} {mg : Str → Option Value} {base : Heap}
def spValue : Sp := fun vs H Q _ => ∃ (a : Addr) (xs : List Int) (t : Int) (c k : Nat), vs = [.ref a, .int t] ∧ TAt H a xs ∧ Nf xs ∧ xs.length ≤ 1000 ∧ Bd c xs ∧ t.natAbs < 2 ^ k ∧ 0 < k ∧ c + xs.length * (k + 1) + 1 + k ≤ 90000 ∧ ∀ H', Same H H' → Q (.int (ev t xs)) H'
theorem c_value_at (D : At K mg "value_at" s_value_at ["one", "number"]) (c_need : Cal P w K mg base 1 "need" spNeed) (c_is_polynomial : Cal P w K mg base 3 "is_polynomial" spIsPoly) (c_is_integer : Cal P w K mg base 1 "is_integer" spIsInt) (z_list : mg "list" = none) (z_reversed : mg "reversed" = none) : Cal P w K mg base 4 "value_at" spValue := by
  refine okC D sc_value_at (fun vs H Q E h => ?_) (fun f cdv A outer s H vs Q E hr h => ?_)
  · obtain ⟨a, xs, t, c, k, rfl, _⟩ := h
    rfl
  · obtain ⟨a, xs, t, c, k, rfl, ha, nx, lx, bx, bt, k0, hk, q⟩ := h
    have nd := sc_value_at.nd
    refine ⟨_, (pss_cons (ps_expr (pe_k c_need hr (by decide) (by rfl) (pa_cons (pe_k c_is_polynomial hr (by decide) (by rfl) (pa_cons (pv 0) pa_nil)) (pa_cons pe_str pa_nil))))
 (pss_cons (ps_expr (pe_k c_need hr (by decide) (by rfl) (pa_cons (pe_k c_is_integer hr (by decide) (by rfl) (pa_cons (pv 1) pa_nil)) (pa_cons pe_str pa_nil))))
 (pss_cons (ps_set (i := 2) nd rfl (.inl rfl) pe_int)
 (pss_cons (ps_for PassesOwn.never rfl (pi_reversed (by rfl) z_reversed (pa_cons (pe_callTy call_list_of (by rfl) z_list (by decide +kernel) (pa_cons (pv 0) pa_nil)) pa_nil)) (pg_name (i := 3) nd rfl (.inl rfl))
 (pss_one (ps_set (i := 2) nd rfl (.inl rfl) (pe_op op_add (pe_op op_mulW (pv 2) (pv 1)) (pv 3)))))
 (pss_one (ps_ret (pv 2))))))), ?_⟩
    refine ⟨_, rfl, a, xs, rfl, ha, nx, lx, fun H1 s1 => ⟨_, rfl, ?_⟩⟩
    refine ⟨_, rfl, t, rfl, _, rfl, ?_⟩
    refine ⟨_, rfl, a, _, rfl, .inr (ha.same s1).sq, fun l hl => ?_⟩
    have s2 := s1.trans (same_new (o := .lst (xs.map V.int)) hl)
    have el : LAt (upd H1 l (.lst (xs.map V.int))) l xs := upd_same
    generalize upd H1 l (.lst (xs.map V.int)) = H2 at s2 el ⊢
    refine ⟨l, xs.map V.int, rfl, .inl (.inl el), for_it (walk_rev (xs := xs.map V.int)) (fun i σ H' => ∃ y3 : Option V, σ = [some (.ref a), some (.int t), some (.int (ev t (xs.drop (xs.length - i)))), y3] ∧ H' = H2)
      ⟨_, by rw [Nat.sub_zero, List.drop_length]; rfl, rfl⟩ (fun _ _ _ _ z => by obtain ⟨_, _, rfl⟩ := z; exact .inl (.inl el)) ?_ ?_⟩
    · rintro i x σ G G' hi ⟨y3, rfl, rfl⟩ ⟨rfl, ex⟩
      rw [List.length_map] at hi ex
      rw [List.getElem?_map, List.getElem?_eq_getElem (by omega)] at ex
      obtain rfl := (Option.some.inj ex).symm
      refine ⟨_, rfl, _, rfl, _, _, rfl, rfl, wide_mul (a := c + xs.length * (k + 1) + 1) (b := k) (ev_bits (Nat.le_of_lt bt) bx _) bt (by omega) k0 (by omega), _, rfl, _, _, rfl, rfl, ?_⟩
      refine ⟨some (V.int (xs[xs.length - 1 - i]'(by omega))), ?_, rfl⟩
      rw [ev_step hi]
      rfl
    · rintro σ G ⟨y3, rfl, rfl⟩
      refine ⟨_, rfl, ?_⟩
      rw [List.length_map, Nat.sub_self, List.drop_zero]
      exact q _ s2
theorem c__law_value (D : At K mg "_law_value" s__law_value ["_law_row_here", "_law_spot"]) : Cal P w K mg base 1 "_law_value" spValue := by
  refine okC D sc__law_value (fun vs H Q E h => ?_) (fun f cdv A outer s H vs Q E hr h => ?_)
  · obtain ⟨a, xs, t, c, k, rfl, _⟩ := h
    rfl
  · obtain ⟨a, xs, t, c, k, rfl, ha, nx, lx, bx, bt, k0, hk, q⟩ := h
    have nd := sc__law_value.nd
    refine ⟨_, (pss_cons (ps_set (i := 2) nd rfl (.inl rfl) pe_int)
 (pss_cons (ps_for PassesOwn.never rfl (pi_tup (pe_revT (pv 0))) (pg_name (i := 3) nd rfl (.inl rfl))
 (pss_one (ps_set (i := 2) nd rfl (.inl rfl) (pe_op op_add (pe_op op_mulW (pv 2) (pv 1)) (pv 3)))))
 (pss_one (ps_ret (pv 2))))), ?_⟩
    refine ⟨_, rfl, a, _, rfl, ha.sq, fun l hl => ?_⟩
    have s2 := same_new (o := .tup (xs.map V.int).reverse) hl
    have el : (upd H l (.tup (xs.map V.int).reverse)) l = some (.tup (xs.map V.int).reverse) := upd_same
    generalize upd H l (.tup (xs.map V.int).reverse) = H2 at s2 el ⊢
    refine ⟨l, rfl, ⟨_, .inl (.inl el)⟩, for_it (walk_tup (xs := (xs.map V.int).reverse)) (fun i σ H' => ∃ y3 : Option V, σ = [some (.ref a), some (.int t), some (.int (ev t (xs.drop (xs.length - i)))), y3] ∧ H' = H2)
      ⟨_, by rw [Nat.sub_zero, List.drop_length]; rfl, rfl⟩ (fun _ _ _ _ z => by obtain ⟨_, _, rfl⟩ := z; exact .inl (.inl el)) ?_ ?_⟩
    · rintro i x σ G G' hi ⟨y3, rfl, rfl⟩ ⟨rfl, ex⟩
      rw [List.length_reverse, List.length_map] at hi
      rw [List.getElem?_reverse (by rw [List.length_map]; exact hi), List.length_map, List.getElem?_map, List.getElem?_eq_getElem (by omega)] at ex
      obtain rfl := (Option.some.inj ex).symm
      refine ⟨_, rfl, _, rfl, _, _, rfl, rfl, wide_mul (a := c + xs.length * (k + 1) + 1) (b := k) (ev_bits (Nat.le_of_lt bt) bx _) bt (by omega) k0 (by omega), _, rfl, _, _, rfl, rfl, ?_⟩
      refine ⟨some (V.int (xs[xs.length - 1 - i]'(by omega))), ?_, rfl⟩
      rw [ev_step hi]
      rfl
    · rintro σ G ⟨y3, rfl, rfl⟩
      refine ⟨_, rfl, ?_⟩
      rw [List.length_reverse, List.length_map, Nat.sub_self, List.drop_zero]
      exact q _ s2
end
end K2

/-! The polynomials of the roots of unity, to two hundred: reckoned, and checked by products. -/
namespace Po
open Pv
/-! ### products that are quick to reckon -/
def addL : List Int → List Int → List Int
  | [], ys => ys
  | x :: xs, [] => x :: xs
  | x :: xs, y :: ys => (x + y) :: addL xs ys
def mulL : List Int → List Int → List Int
  | [], _ => []
  | x :: xs, ys => addL (ys.map (x * ·)) (0 :: mulL xs ys)
theorem co_cons (x : Int) (xs : List Int) (i : Int) : co (x :: xs) i = if i = 0 then x else co xs (i - 1) := by
  by_cases h0 : i < 0
  · rw [co_neg h0, if_neg (by omega), co_neg (by omega)]
  · by_cases h1 : i = 0
    · subst h1
      rfl
    · obtain ⟨j, rfl⟩ : ∃ j : Nat, i = ((j + 1 : Nat) : Int) := ⟨(i - 1).toNat, by omega⟩
      rw [if_neg h1, co_nat, show (((j + 1 : Nat) : Int) - 1) = (j : Int) by omega, co_nat]
      rfl
theorem co_addL : ∀ (xs ys : List Int) (i : Int), co (addL xs ys) i = co xs i + co ys i
  | [], ys, i => by rw [co_nil, Int.zero_add]; rfl
  | x :: xs, [], i => by rw [co_nil, Int.add_zero]; rfl
  | x :: xs, y :: ys, i => by
    show co ((x + y) :: addL xs ys) i = _
    rw [co_cons, co_cons, co_cons, co_addL xs ys]
    by_cases h : i = 0
    · rw [if_pos h, if_pos h, if_pos h]
    · rw [if_neg h, if_neg h, if_neg h]
theorem co_scale (x : Int) (ys : List Int) (i : Int) : co (ys.map (x * ·)) i = x * co ys i := by
  induction ys generalizing i with
  | nil => rw [List.map_nil, co_nil, Int.mul_zero]
  | cons y ys ih =>
    rw [List.map_cons, co_cons, co_cons, ih]
    by_cases h : i = 0
    · rw [if_pos h, if_pos h]
    · rw [if_neg h, if_neg h]
theorem co_mulL : ∀ (xs ys : List Int) (i : Int), co (mulL xs ys) i = mu xs.length (co xs) (co ys) i
  | [], ys, i => co_nil i
  | x :: xs, ys, i => by
    show co (addL (ys.map (x * ·)) (0 :: mulL xs ys)) i = _
    rw [co_addL, co_scale]
    unfold mu
    rw [List.length_cons, S_front]
    have e0 : co (x :: xs) 0 = x := rfl
    rw [e0, Int.sub_zero]
    congr 1
    rw [co_cons]
    by_cases h : i = 0
    · subst h
      rw [if_pos rfl]
      refine ((S_congr fun j _ => ?_).trans (S_zero _)).symm
      rw [co_neg (xs := ys) (by omega), Int.mul_zero]
    · rw [if_neg h, co_mulL xs ys]
      refine S_congr fun j _ => ?_
      rw [co_cons, if_neg (by omega), show (j : Int) + 1 - 1 = j by omega, show i - 1 - (j : Int) = i - ((j : Int) + 1) by omega]
theorem mulL_ml (xs ys : List Int) : tr (mulL xs ys) = ml xs ys := nf_ext (nf_tr _) (nf_tr _) fun i => by
  show co (tr (mulL xs ys)) i = co (ml xs ys) i
  rw [co_tr, co_mulL, co_ml]
/-! ### widened -/
def wd (s : Nat) (xs : List Int) : Int → Int := fun i => if i % (s : Int) = 0 then co xs (i / (s : Int)) else 0
def wdL (s : Nat) : List Int → List Int
  | [] => []
  | [x] => [x]
  | x :: y :: t => x :: (List.replicate (s - 1) 0 ++ wdL s (y :: t))
theorem wdL_len {s : Nat} (hs : 1 ≤ s) : ∀ {xs : List Int}, xs ≠ [] → (wdL s xs).length = (xs.length - 1) * s + 1
  | [], h => absurd rfl h
  | [x], _ => by simp [wdL]
  | x :: y :: t, _ => by
    have ih := wdL_len hs (xs := y :: t) (by simp)
    show (x :: (List.replicate (s - 1) 0 ++ wdL s (y :: t))).length = _
    rw [List.length_cons, List.length_append, List.length_replicate, ih]
    simp only [List.length_cons, Nat.add_sub_cancel]
    rw [Nat.succ_mul]
    omega
theorem co_append (xs ys : List Int) (i : Int) : co (xs ++ ys) i = if i < (xs.length : Int) then co xs i else co ys (i - xs.length) := by
  by_cases h0 : i < 0
  · rw [co_neg h0, if_pos (by omega), co_neg h0]
  · obtain ⟨j, rfl⟩ := Int.eq_ofNat_of_zero_le (by omega : 0 ≤ i)
    rw [co_nat, List.getD_eq_getElem?_getD]
    by_cases h : j < xs.length
    · rw [if_pos (by omega), List.getElem?_append_left h, co_nat, List.getD_eq_getElem?_getD]
    · rw [if_neg (by omega), List.getElem?_append_right (by omega), show (j : Int) - xs.length = ((j - xs.length : Nat) : Int) by omega, co_nat, List.getD_eq_getElem?_getD]
theorem co_rep (n : Nat) (i : Int) : co (List.replicate n 0) i = 0 := by
  by_cases h0 : i < 0
  · exact co_neg h0
  · obtain ⟨j, rfl⟩ := Int.eq_ofNat_of_zero_le (by omega : 0 ≤ i)
    rw [co_nat, List.getD_eq_getElem?_getD, List.getElem?_replicate]
    by_cases h : j < n
    · rw [if_pos h]
      rfl
    · rw [if_neg h]
      rfl
theorem co_wdL {s : Nat} (hs : 1 ≤ s) : ∀ {xs : List Int}, xs ≠ [] → ∀ i : Int, co (wdL s xs) i = wd s xs i
  | [], h, _ => absurd rfl h
  | [x], _, i => by
    show co [x] i = if i % (s : Int) = 0 then co [x] (i / (s : Int)) else 0
    by_cases h0 : i = 0
    · subst h0
      rw [Int.zero_emod, if_pos rfl, Int.zero_ediv]
    · rw [co_cons, if_neg h0, co_nil]
      by_cases h1 : i % (s : Int) = 0
      · rw [if_pos h1, co_cons, if_neg, co_nil]
        intro z
        have := Int.emod_add_mul_ediv i s
        rw [h1, z] at this
        omega
      · rw [if_neg h1]
  | x :: y :: t, _, i => by
    have ih := co_wdL hs (xs := y :: t) (by simp)
    show co (x :: (List.replicate (s - 1) 0 ++ wdL s (y :: t))) i = if i % (s : Int) = 0 then co (x :: y :: t) (i / (s : Int)) else 0
    rw [co_cons]
    by_cases h0 : i = 0
    · subst h0
      rw [if_pos rfl, Int.zero_emod, if_pos rfl, Int.zero_ediv]
      rfl
    · rw [if_neg h0, co_append, List.length_replicate, co_rep]
      by_cases hn : i < 0
      · rw [if_pos (by omega)]
        by_cases h1 : i % (s : Int) = 0
        · rw [if_pos h1, co_neg]
          exact Int.ediv_neg_of_neg_of_pos hn (by omega)
        · rw [if_neg h1]
      · by_cases hl : i < (s : Int)
        · rw [if_pos (by omega), if_neg]
          rw [Int.emod_eq_of_lt (by omega) hl]
          exact h0
        · rw [if_neg (by omega), ih, show i - 1 - ((s - 1 : Nat) : Int) = i - s by omega]
          show (if (i - s) % (s : Int) = 0 then co (y :: t) ((i - s) / (s : Int)) else 0) = _
          rw [Int.sub_emod_right]
          by_cases h1 : i % (s : Int) = 0
          · have e : (i - s) / (s : Int) = i / s - 1 := by
              have := Int.add_mul_ediv_right i (-1) (c := (s : Int)) (by omega)
              rw [show i + -1 * (s : Int) = i - s by omega] at this
              rw [this]
              omega
            have p : (1 : Int) ≤ i / s := by
              rw [Int.le_ediv_iff_mul_le (by omega)]
              omega
            rw [if_pos h1, if_pos h1, e, co_cons x, if_neg (by omega)]
          · rw [if_neg h1, if_neg h1]
theorem wdL_of {s : Nat} (hs : 1 ≤ s) {xs : List Int} (h : xs ≠ []) : of ((xs.length - 1) * s + 1) (wd s xs) = wdL s xs := by
  rw [← of_co (wdL_len hs h)]
  exact of_congr fun j _ => (co_wdL hs h j).symm
/-! ### a division that is checked by its product -/
def subR : List Int → List Int → Int → List Int
  | [], _, _ => []
  | a :: t, [], _ => a :: t
  | a :: t, b :: d, x => (a - x * b) :: subR t d x
def dvR : Nat → List Int → List Int → List Int
  | 0, _, _ => []
  | _ + 1, [], _ => []
  | k + 1, x :: t, d => x :: dvR k (subR t d x) d
def divQ (one div : List Int) : List Int := (dvR (one.length - (div.length - 1)) one.reverse div.reverse.tail).reverse
/-- ends with 1, small -/
def gz (f : List Int) : Bool := f.getLast? == some 1 && f.all (fun x => decide (x.natAbs < 8)) && decide (f.length ≤ 600)
def gd (f : List Int) (p : Nat) : Bool := decide (1 ≤ p) && gz f && gz (wdL p f) && gz (divQ (wdL p f) f) && decide (mulL (divQ (wdL p f) f) f = wdL p f)
theorem gz_mo {f : List Int} (h : gz f = true) : Mo f ∧ (∀ x ∈ f, x.natAbs < 2 ^ 3) ∧ f.length ≤ 600 := by
  unfold gz at h
  rw [Bool.and_eq_true, Bool.and_eq_true] at h
  obtain ⟨⟨h1, h2⟩, h3⟩ := h
  refine ⟨?_, fun x hx => of_decide_eq_true (List.all_eq_true.mp h2 x hx), of_decide_eq_true h3⟩
  have e : f.getLast? = some 1 := by simpa using h1
  rcases snoc_cases f with rfl | ⟨ys, y, rfl⟩
  · cases e
  · rw [List.getLast?_append] at e
    simp at e
    subst e
    exact ⟨ys, rfl⟩
theorem Mo.nf {f : List Int} (h : Mo f) : Nf f := by
  obtain ⟨ys, rfl⟩ := h
  exact .inr ⟨ys, 1, by decide, rfl⟩
theorem Mo.ne {f : List Int} (h : Mo f) : f ≠ [] := by
  obtain ⟨ys, rfl⟩ := h
  simp
theorem gd_ok {f : List Int} {p : Nat} (h : gd f p = true) : 1 ≤ p ∧ gz f = true ∧ gz (wdL p f) = true ∧ gz (divQ (wdL p f) f) = true ∧ qs (wdL p f) f = divQ (wdL p f) f ∧ rs (wdL p f) f = [] := by
  unfold gd at h
  simp only [Bool.and_eq_true] at h
  obtain ⟨⟨⟨⟨h1, h2⟩, h3⟩, h4⟩, h5⟩ := h
  have e : ml (divQ (wdL p f) f) f = wdL p f := by
    rw [← mulL_ml, of_decide_eq_true h5]
    exact (gz_mo h3).1.nf.tr
  have := div_ml (gz_mo h4).1.nf (gz_mo h2).1
  rw [e] at this
  exact ⟨of_decide_eq_true h1, h2, h3, h4, this.1, this.2⟩
/-! ### the program's way, the law's way -/
def ck : List Int → List Nat → Bool
  | f, [] => gz f
  | f, p :: ps => gd f p && ck (divQ (wdL p f) f) ps
def fin : List Int → List Nat → List Int
  | f, [] => f
  | f, p :: ps => fin (divQ (wdL p f) f) ps
def ckL : List Int → List Nat → List Nat → Bool
  | f, _, [] => gz f
  | f, seen, p :: ps => (if p ∈ seen then decide (1 ≤ p) && gz f && gz (wdL p f) else gd f p) && ckL (if p ∈ seen then wdL p f else divQ (wdL p f) f) (seen ++ [p]) ps
def finL : List Int → List Nat → List Nat → List Int
  | f, _, [] => f
  | f, seen, p :: ps => finL (if p ∈ seen then wdL p f else divQ (wdL p f) f) (seen ++ [p]) ps
end Po
namespace Nm
theorem Facs.uniq : ∀ {n : Nat} {fs gs : List Nat}, Facs n fs → Facs n gs → fs = gs
  | _, [], [], _, _ => rfl
  | n, [], g :: gs, h, k => by
    have := (h.mem g).mpr ((k.mem g).mp List.mem_cons_self)
    cases this
  | n, f :: fs, [], h, k => by
    have := (k.mem f).mpr ((h.mem f).mp List.mem_cons_self)
    cases this
  | n, f :: fs, g :: gs, h, k => by
    have a1 := (k.mem f).mpr ((h.mem f).mp List.mem_cons_self)
    have a2 := (h.mem g).mpr ((k.mem g).mp List.mem_cons_self)
    have hs := h.asc
    have ks := k.asc
    rw [List.pairwise_cons] at hs ks
    have e : f = g := by
      rcases List.mem_cons.mp a1 with z | z
      · exact z
      · rcases List.mem_cons.mp a2 with y | y
        · exact y.symm
        · exact Nat.le_antisymm (hs.1 g y) (ks.1 f z)
    subst e
    have fp := (h.pr f List.mem_cons_self).pos
    have e1 : prodN fs = prodN gs := by
      have q1 := h.prod
      have q2 := k.prod
      rw [prodN_cons] at q1 q2
      exact Nat.eq_of_mul_eq_mul_left fp (q1.trans q2.symm)
    rw [Facs.uniq (n := prodN gs) ⟨fun p hp => h.pr p (List.mem_cons_of_mem _ hp), hs.2, e1⟩ ⟨fun p hp => k.pr p (List.mem_cons_of_mem _ hp), ks.2, rfl⟩]
end Nm

namespace Po
open Pv Nm
def fz (n : Nat) : List Nat := (tf n).flatMap fun x => List.replicate x.2 x.1
def ps0 (n : Nat) : List Nat := (pf n).map (·.1)
def lf (n : Nat) : Nat := (ps0 n).foldl (· / ·) n
def cz (n : Nat) : List Int := wdL (lf n) (fin [-1, 1] (ps0 n))
def oneIn (fs : List Nat) : Nat := if fs ≠ [] ∧ fs[0]? = fs[fs.length - 1]? then fs.getD 0 0 else 1
def chkC (n : Nat) : Bool := decide (prodN ((pf n).map (·.2)) = n) && ascB (ps0 n) && ((tf n).all fun x => prB x.1 && decide (1 ≤ x.2)) && decide (prodN (fz n) = n) && decide ((fz n).Pairwise (· ≤ ·)) &&
  ck [-1, 1] (ps0 n) && decide (1 ≤ lf n) && gz (cz n) && ckL [-1, 1] [] (fz n) && decide (finL [-1, 1] [] (fz n) = cz n) && decide (ev 1 (cz n) = if 1 < n then (oneIn (fz n) : Int) else 0) && decide ((cz n).length = totP (pf n) + 1)
theorem chkC_0 : ((List.range 25).all fun i => chkC (i + 1)) = true := by decide +kernel
theorem chkC_1 : ((List.range 25).all fun i => chkC (i + 26)) = true := by decide +kernel
theorem chkC_2 : ((List.range 25).all fun i => chkC (i + 51)) = true := by decide +kernel
theorem chkC_3 : ((List.range 25).all fun i => chkC (i + 76)) = true := by decide +kernel
theorem chkC_4 : ((List.range 25).all fun i => chkC (i + 101)) = true := by decide +kernel
theorem chkC_5 : ((List.range 25).all fun i => chkC (i + 126)) = true := by decide +kernel
theorem chkC_6 : ((List.range 25).all fun i => chkC (i + 151)) = true := by decide +kernel
theorem chkC_7 : ((List.range 25).all fun i => chkC (i + 176)) = true := by decide +kernel
theorem chkC_all {n : Nat} (h1 : 1 ≤ n) (h2 : n ≤ 200) : chkC n = true := by
  have key : ∀ {k : Nat}, ((List.range 25).all fun i => chkC (i + (25 * k + 1))) = true → 25 * k + 1 ≤ n → n ≤ 25 * k + 25 → chkC n = true := fun {k} h a b => by
    have := List.all_eq_true.mp h (n - (25 * k + 1)) (List.mem_range.mpr (by omega))
    rw [show n - (25 * k + 1) + (25 * k + 1) = n by omega] at this
    exact this
  by_cases z0 : n ≤ 25
  · exact key (k := 0) chkC_0 (by omega) (by omega)
  by_cases z1 : n ≤ 50
  · exact key (k := 1) chkC_1 (by omega) (by omega)
  by_cases z2 : n ≤ 75
  · exact key (k := 2) chkC_2 (by omega) (by omega)
  by_cases z3 : n ≤ 100
  · exact key (k := 3) chkC_3 (by omega) (by omega)
  by_cases z4 : n ≤ 125
  · exact key (k := 4) chkC_4 (by omega) (by omega)
  by_cases z5 : n ≤ 150
  · exact key (k := 5) chkC_5 (by omega) (by omega)
  by_cases z6 : n ≤ 175
  · exact key (k := 6) chkC_6 (by omega) (by omega)
  exact key (k := 7) chkC_7 (by omega) (by omega)
structure Cz (n : Nat) : Prop where
  parts : Parts n (pf n)
  facs : Facs n (fz n)
  ck : ck [-1, 1] (ps0 n) = true
  lf : 1 ≤ lf n
  gz : gz (cz n) = true
  ckL : ckL [-1, 1] [] (fz n) = true
  fin : finL [-1, 1] [] (fz n) = cz n
  ev : ev 1 (cz n) = if 1 < n then (oneIn (fz n) : Int) else 0
  len : (cz n).length = totP (pf n) + 1
theorem czs {n : Nat} (h1 : 1 ≤ n) (h2 : n ≤ 200) : Cz n := by
  have h := chkC_all h1 h2
  unfold chkC at h
  simp only [Bool.and_eq_true, decide_eq_true_eq, List.all_eq_true] at h
  obtain ⟨⟨⟨⟨⟨⟨⟨⟨⟨⟨⟨e1, e2⟩, e3⟩, e4⟩, e5⟩, e6⟩, e7⟩, e8⟩, e9⟩, e10⟩, e11⟩, e12⟩ := h
  refine ⟨⟨e1, ascB_asc e2, fun x hx => ?_⟩, ⟨fun p hp => ?_, e5, e4⟩, e6, e7, e8, e9, e10, e11, e12⟩
  · obtain ⟨y, hy, rfl⟩ := List.mem_map.mp hx
    exact ⟨prB_pr (e3 y hy).1, y.2, (e3 y hy).2, rfl⟩
  · obtain ⟨y, hy, hp2⟩ := List.mem_flatMap.mp hp
    rw [(List.mem_replicate.mp hp2).2]
    exact prB_pr (e3 y hy).1
/-! ### products of all of them -/
def gm (f : List Int) : Bool := f.all (fun x => decide (x.natAbs < 1048576)) && decide (f.length ≤ 300)
def finM : List Int → List Nat → List Int
  | f, [] => f
  | f, d :: ds => finM (tr (mulL f (cz d))) ds
def ckM : List Int → List Nat → Bool
  | f, [] => gm f
  | f, d :: ds => gm f && decide (1 ≤ d ∧ d ≤ 24) && ckM (tr (mulL f (cz d))) ds
def dv0 (n : Nat) : List Nat := ((List.range n).map (1 + ·)).filter fun t => decide (n % t = 0)
def chkM (n : Nat) : Bool := ckM [1] (dv0 n) && decide (finM [1] (dv0 n) = cl n)
theorem chkM_a : ((List.range 24).all fun i => chkM (i + 1)) = true := by decide +kernel
theorem czm {n : Nat} (h1 : 1 ≤ n) (h2 : n ≤ 24) : ckM [1] (dv0 n) = true ∧ finM [1] (dv0 n) = cl n := by
  have := List.all_eq_true.mp chkM_a (n - 1) (List.mem_range.mpr (by omega))
  rw [show n - 1 + 1 = n by omega] at this
  unfold chkM at this
  rw [Bool.and_eq_true, decide_eq_true_eq] at this
  exact this
end Po

set_option Elab.async false
set_option linter.all false
set_option maxRecDepth 100000
set_option maxHeartbeats 4000000
namespace K2
open PySem PySem.Spec PyProof.Rows L2 Gd Pv RZ Po Nm
/-- the first k of them, widened -/
def wk (s : Nat) (xs : List Int) (k : Nat) : Int → Int := fun i => if i % (s : Int) = 0 ∧ i / (s : Int) < (k : Int) then co xs (i / (s : Int)) else 0
theorem wk_zero (s : Nat) (xs : List Int) (n : Nat) (hs : 1 ≤ s) : of n (wk s xs 0) = of n fun _ => 0 := of_congr fun j _ => by
  show (if (j : Int) % (s : Int) = 0 ∧ (j : Int) / (s : Int) < ((0 : Nat) : Int) then _ else 0) = 0
  rw [if_neg]
  rintro ⟨_, h⟩
  have : 0 ≤ (j : Int) / (s : Int) := Int.ediv_nonneg (by omega) (by omega)
  omega
theorem wk_step {s : Nat} {xs : List Int} {n k : Nat} (hs : 1 ≤ s) : (of n (wk s xs k)).set (k * s) (co xs k) = of n (wk s xs (k + 1)) := by
  rw [of_set]
  refine of_congr fun b _ => ?_
  show (if (b : Int) = ((k * s : Nat) : Int) then co xs k else if (b : Int) % (s : Int) = 0 ∧ (b : Int) / (s : Int) < (k : Int) then co xs ((b : Int) / (s : Int)) else 0) = if (b : Int) % (s : Int) = 0 ∧ (b : Int) / (s : Int) < ((k + 1 : Nat) : Int) then co xs ((b : Int) / (s : Int)) else 0
  by_cases e : b = k * s
  · subst e
    have h1 : ((k * s : Nat) : Int) % (s : Int) = 0 := by rw [Int.natCast_mul, Int.mul_emod_left]
    have h2 : ((k * s : Nat) : Int) / (s : Int) = k := by rw [Int.natCast_mul, Int.mul_ediv_cancel _ (by omega)]
    rw [if_pos rfl, h2, if_pos ⟨h1, by omega⟩]
  · rw [if_neg (by omega)]
    by_cases h1 : (b : Int) % (s : Int) = 0
    · have h3 : (b : Int) / (s : Int) ≠ k := fun z => by
        have := Int.emod_add_mul_ediv (b : Int) (s : Int)
        rw [h1, z] at this
        refine e ?_
        have h4 : ((k * s : Nat) : Int) = (s : Int) * k := by rw [Int.natCast_mul, Int.mul_comm]
        omega
      by_cases h2 : (b : Int) / (s : Int) < (k : Int)
      · rw [if_pos ⟨h1, h2⟩, if_pos ⟨h1, by omega⟩]
      · rw [if_neg (fun z => h2 z.2), if_neg (fun z => by have := z.2; omega)]
    · rw [if_neg (fun z => h1 z.1), if_neg (fun z => h1 z.1)]
theorem wk_all {s : Nat} {xs : List Int} (hs : 1 ≤ s) (hx : xs ≠ []) : of ((xs.length - 1) * s + 1) (wk s xs xs.length) = wdL s xs := by
  rw [← wdL_of hs hx]
  refine of_congr fun b _ => ?_
  show (if (b : Int) % (s : Int) = 0 ∧ (b : Int) / (s : Int) < (xs.length : Int) then co xs ((b : Int) / (s : Int)) else 0) = if (b : Int) % (s : Int) = 0 then co xs ((b : Int) / (s : Int)) else 0
  by_cases h1 : (b : Int) % (s : Int) = 0
  · rw [if_pos h1]
    by_cases h2 : (b : Int) / (s : Int) < (xs.length : Int)
    · rw [if_pos ⟨h1, h2⟩]
    · rw [if_neg (fun z => h2 z.2), co_big (by omega)]
  · rw [if_neg (fun z => h1 z.1), if_neg h1]
theorem inV_nats (p : Nat) (seen : List Nat) : inV (.int (p : Nat)) (nV seen) = decide (p ∈ seen) := by
  have e : nV seen = (seen.map fun (p : Nat) => (p : Int)).map V.int := by unfold nV; rw [List.map_map]; rfl
  rw [e, inV_ints]
  refine decide_eq_decide.mpr ?_
  rw [List.mem_map]
  constructor
  · rintro ⟨q, hq, e⟩
    have : q = p := by omega
    subst this
    exact hq
  · exact fun h => ⟨p, h, rfl⟩
theorem flat_nats (seen : List Nat) : (nV seen).all flatV = true := by
  unfold nV
  rw [List.all_map]
  exact List.all_eq_true.mpr fun _ _ => rfl
section
variable {P : Program} {w : World} {K : PySem.W.Frag} {mg : Str → Option Value} {base : Heap}
def spWid : Sp := fun vs H Q _ => ∃ (a : Addr) (xs : List Int) (s : Nat), vs = [.ref a, .int (s : Nat)] ∧ TAt H a xs ∧ xs ≠ [] ∧ 1 ≤ s ∧ s ≤ 1000 ∧ xs.length ≤ 1000 ∧ (wdL s xs).length ≤ 1000 ∧ ∀ (p : Addr) (H' : Hp), Same H H' → TAt H' p (wdL s xs) → Q (.ref p) H'
theorem c_widened (D : At K mg "widened" s_widened ["one", "step"]) (z_len : mg "len" = none) (z_range : mg "range" = none) (z_enumerate : mg "enumerate" = none) (z_tuple : mg "tuple" = none) : Cal P w K mg base 1 "widened" spWid := by
  refine okC D sc_widened (fun vs H Q E h => ?_) (fun f cdv A outer s0 H vs Q E hr h => ?_)
  · obtain ⟨a, xs, s, rfl, _⟩ := h
    rfl
  · obtain ⟨a, xs, s, rfl, ha, hx, hs, hs2, lx, lw, q⟩ := h
    have nd := sc_widened.nd
    refine ⟨_, (pss_cons (ps_setLc (i := 2) (own := [("_", 5)]) rfl nd rfl rfl (sw_true rfl rfl rfl (by decide +kernel)) (pi_range1 (by rfl) z_range (pa_cons (pe_op op_add (pe_op op_mulN (pe_op op_sub (pe_callB call_len_seq (by rfl) z_len PySem.boot_len (pa_cons (pv 0) pa_nil)) pe_int) (pv 1)) pe_int) pa_nil)) (blkOk_by (N := N_widened) (sc := defScope s_widened) (by decide +kernel)) (fun _ _ _ _ _ => pg_name (i := 5) nd rfl (Or.inl rfl)) (fun _ _ _ _ _ => pts_nil) (fun _ _ _ _ _ => pe_int))
 (pss_cons (ps_for PassesOwn.never rfl (pi_enT (by rfl) z_enumerate (pa_cons (pv 0) pa_nil)) (pg_tup rfl (pgs_cons (pg_name (i := 3) nd rfl (.inl rfl)) (pgs_cons (pg_name (i := 4) nd rfl (.inl rfl)) pgs_nil)))
 (pss_one (ps_asg (pv 4) (pg_sub (pv 2) (pe_op op_mulN (pv 3) (pv 1)) set_list))))
 (pss_one (ps_ret (pe_tupleOf (by rfl) z_tuple (pv 2)))))), ?_⟩
    have hpos : 1 ≤ xs.length := by
      cases xs with
      | nil => exact absurd rfl hx
      | cons y ys => simp
    rw [wdL_len hs hx] at lw
    refine ⟨_, rfl, a, _, rfl, .inr ha.sq, _, _, rfl, rfl, _, rfl, xs.length - 1, s, ?_, rfl, by omega, _, _, rfl, rfl, (((xs.length - 1) * s + 1 : Nat) : Int), by rw [Int.natCast_add]; rfl, by omega, by omega, fun R hR => lcR (fun _ => V.int 0) hR (by rw [Int.toNat_natCast]; omega) ?_ ?_⟩
    · rw [List.length_map]
      show V.int (((xs.length : Nat) : Int) - 1) = _
      congr 1
      omega
    · intro i G R2 hi sG h4
      exact ⟨rfl, h4 G (Same.refl _)⟩
    · intro G0 sG0 e0
      rw [Int.toNat_natCast, of_V _ fun _ => 0, ← wk_zero s xs _ hs] at e0
      refine ⟨_, rfl, a, _, rfl, (ha.same sG0).sq, for_it walk_enT (fun k σ H' => ∃ (y3 y4 y5 : Option V), σ = [some (.ref a), some (.int (s : Nat)), some (.ref R), y3, y4, y5] ∧ Same H H' ∧ H' R = some (.lst ((of ((xs.length - 1) * s + 1) (wk s xs k)).map V.int)))
        ⟨_, _, _, rfl, sG0, e0⟩ (fun _ _ _ _ z => by obtain ⟨_, _, _, _, sz, _⟩ := z; exact (ha.same sz).sq) ?_ ?_⟩
      · rintro k x σ G G' hk ⟨y3, y4, y5, rfl, sG, eG⟩ ⟨T, x1, x2, rfl, nT, rfl, e1, e2⟩
        rw [List.length_map] at hk
        have hx2 : x2 = V.int (co xs k) := by
          have q1 : (xs.map V.int)[k]? = some x2 := e2
          rw [List.getElem?_map, List.getElem?_eq_getElem hk] at q1
          rw [co_get hk]
          exact (Option.some.inj q1).symm
        have hx1 : x1 = V.int (k : Nat) := (Option.some.inj e1).symm
        subst hx1 hx2
        have sT := same_new (o := .tup [V.int (k : Nat), .int (co xs k)]) nT
        refine ⟨T, _, rfl, .inl (.inl upd_same), rfl, _, _, rfl, _, _, rfl, rfl, ?_⟩
        have e3 := sT _ _ eG
        have s3 := sG.trans sT
        generalize upd G T (.tup [V.int (k : Nat), .int (co xs k)]) = G1 at e3 s3 ⊢
        have hks : k * s < (xs.length - 1) * s + 1 := Nat.lt_succ_of_le (Nat.mul_le_mul_right s (by omega))
        refine ⟨_, rfl, _, rfl, _, rfl, _, rfl, k, s, rfl, rfl, by omega, R, _, _, _, rfl, rfl, e3, ix_of hks rfl, ?_⟩
        refine ⟨_, _, _, rfl, same_own s3 hR, ?_⟩
        rw [upd_same, ← List.map_set, wk_step hs]
      · rintro σ G ⟨y3, y4, y5, rfl, sG, eG⟩
        rw [List.length_map, wk_all hs hx] at eG
        exact ⟨_, rfl, .inl ⟨R, _, rfl, .inl (.inl eG), fun p hp => q p _ (sG.trans (same_new hp)) upd_same⟩⟩
def spCyc : Sp := fun vs H Q _ => ∃ n : Nat, vs = [.int (n : Nat)] ∧ 1 ≤ n ∧ n ≤ 200 ∧ ∀ (p : Addr) (H' : Hp), Same H H' → TAt H' p (cz n) → Q (.ref p) H'
theorem gz_bd {f : List Int} (h : gz f = true) : Bd 3 f := (gz_mo h).2.1
theorem c_cyclotomic (D : At K mg "cyclotomic" s_cyclotomic ["number"]) (c_need : Cal P w K mg base 1 "need" spNeed) (c_is_size : Cal P w K mg base 2 "is_size" spIsSize) (c_prime_parts : Cal P w K mg base 2 "prime_parts" spParts) (c_widened : Cal P w K mg base 1 "widened" spWid) (c_exact_by : Cal P w K mg base 4 "exact_by" spExact) : Cal P w K mg base 5 "cyclotomic" spCyc := by
  refine okC D sc_cyclotomic (fun vs H Q E h => ?_) (fun f cdv A outer s0 H vs Q E hr h => ?_)
  · obtain ⟨n, rfl, _⟩ := h
    rfl
  · obtain ⟨n, rfl, h1, h2, q⟩ := h
    have nd := sc_cyclotomic.nd
    refine ⟨_, (pss_cons (ps_expr (pe_k c_need hr (by decide) (by rfl) (pa_cons (pe_k c_is_size hr (by decide) (by rfl) (pa_cons (pv 0) pa_nil)) (pa_cons pe_str pa_nil))))
 (pss_cons (ps_set (i := 1) nd rfl (.inl rfl) (pe_tup (pa_cons (pe_un un_neg pe_int) (pa_cons pe_int pa_nil))))
 (pss_cons (ps_set (i := 2) nd rfl (.inl rfl) (pv 0))
 (pss_cons (ps_for PassesOwn.never rfl (pi_tup (pe_k c_prime_parts hr (by decide) (by rfl) (pa_cons (pv 0) pa_nil))) (pg_tup rfl (pgs_cons (pg_name (i := 3) nd rfl (.inl rfl)) (pgs_cons (pg_name (i := 4) nd rfl (.inl rfl)) pgs_nil)))
 (pss_cons (ps_set (i := 1) nd rfl (.inl rfl) (pe_k c_exact_by hr (by decide) (by rfl) (pa_cons (pe_k c_widened hr (by decide) (by rfl) (pa_cons (pv 1) (pa_cons (pv 3) pa_nil))) (pa_cons (pv 1) pa_nil))))
 (pss_one (ps_set (i := 2) nd rfl (.inl rfl) (pe_op op_fdiv (pv 2) (pv 3))))))
 (pss_one (ps_ret (pe_k c_widened hr (by decide) (by rfl) (pa_cons (pv 1) (pa_cons (pv 2) pa_nil))))))))), ?_⟩
    have C := czs h1 h2
    refine ⟨_, rfl, n, rfl, _, by rw [decide_eq_true (by omega : (1 : Int) ≤ (n : Int))], ?_⟩
    refine ⟨_, rfl, (by show 2 ≤ sizeLine; decide), fun t ht => ?_⟩
    have st := same_new (o := .tup [V.int (-1), .int 1]) ht
    have et : TAt (upd H t (.tup [V.int (-1), .int 1])) t [-1, 1] := upd_same
    refine ⟨_, rfl, ?_⟩
    generalize upd H t (.tup [V.int (-1), .int 1]) = H0 at st et
    refine ⟨_, rfl, n, rfl, h1, by omega, fun a as ps H1 hp hl s1 ha hq => ?_⟩
    obtain rfl := hp.uniq C.parts
    have hlen := hq.1
    rw [List.length_map] at hlen
    refine ⟨a, rfl, ⟨_, .inl (.inl ha)⟩, for_it (walk_tup (xs := as.map V.ref))
      (fun i σ H' => ∃ (pF : Addr) (g : List Int) (l : Nat) (y3 y4 : Option V), σ = [some (.int n), some (.ref pF), some (.int (l : Nat)), y3, y4] ∧ Same H1 H' ∧ TAt H' pF g ∧ ck g ((ps0 n).drop i) = true ∧ fin g ((ps0 n).drop i) = fin [-1, 1] (ps0 n) ∧ ((ps0 n).drop i).foldl (· / ·) l = lf n ∧ l ≤ n)
      ⟨t, [-1, 1], n, none, none, rfl, Same.refl _, et.same s1, C.ck, rfl, rfl, Nat.le_refl _⟩ (fun i σ H' _ ⟨_, _, _, _, _, _, e, _⟩ => .inl (.inl (e _ _ ha))) ?_ ?_⟩
    · rintro i x σ H2 H' hi ⟨pF, g, l, y3, y4, rfl, s2, eF, hck, hfin, hlf, hl2⟩ ⟨eH, hx⟩
      obtain rfl := eH.symm
      rw [List.length_map] at hi
      have hi2 : i < (pf n).length := by omega
      rw [List.getElem?_map, List.getElem?_eq_getElem hi] at hx
      obtain rfl : V.ref as[i] = x := Option.some.inj hx
      have hqi : QAt H1 as[i] (cp (pf n)[i]) := hq.2 i _ _ (List.getElem?_eq_getElem hi) (by rw [List.getElem?_map, List.getElem?_eq_getElem hi2]; rfl)
      have ed : (ps0 n).drop i = (pf n)[i].1 :: (ps0 n).drop (i + 1) := by
        have hi3 : i < (ps0 n).length := by unfold ps0; rw [List.length_map]; exact hi2
        rw [List.drop_eq_getElem_cons hi3]
        congr 1
        simp only [ps0, List.getElem_map]
      rw [ed] at hck hfin hlf
      have hck2 : gd g (pf n)[i].1 = true ∧ ck (divQ (wdL (pf n)[i].1 g) g) ((ps0 n).drop (i + 1)) = true := by
        have z : (gd g (pf n)[i].1 && ck (divQ (wdL (pf n)[i].1 g) g) ((ps0 n).drop (i + 1))) = true := hck
        rwa [Bool.and_eq_true] at z
      obtain ⟨p1, g1, g2, g3, g4, g5⟩ := gd_ok hck2.1
      have m1 := gz_mo g1
      have m2 := gz_mo g2
      obtain ⟨b1, b2, b3, b4⟩ := parts_le h1 C.parts (pf n)[i] (List.getElem_mem _)
      refine ⟨_, _, rfl, (hqi.same s2).sq, rfl, _, _, rfl, _, _, rfl, rfl, ?_⟩
      refine ⟨_, rfl, _, rfl, pF, g, (pf n)[i].1, rfl, eF, m1.1.ne, p1, by omega, by omega, by omega, fun pw H3 s3 e3 => ?_⟩
      refine ⟨_, rfl, pw, pF, _, g, 3, 3, rfl, e3, eF.same s3, m2.1.nf, m1.1, by omega, by omega, m2.2.1, m1.2.1, by decide, by omega, fun _ p2 H4 s4 e4 => ?_, fun z => absurd g5 z⟩
      rw [g4] at e4
      refine ⟨_, rfl, _, rfl, _, _, rfl, rfl, ⟨?_, ?_⟩, ?_⟩
      · show (0 : Int) < ((pf n)[i].1 : Int)
        omega
      · show ((pf n)[i].1 : Int) < 1073741824
        omega
      · exact ⟨p2, _, l / (pf n)[i].1, _, _, rfl, s2.trans (s3.trans s4), e4, hck2.2, hfin, hlf, Nat.le_trans (Nat.div_le_self _ _) hl2⟩
    · rintro σ H2 ⟨pF, g, l, y3, y4, rfl, s2, eF, hck, hfin, hlf, hl2⟩
      rw [List.length_map, show (ps0 n).drop as.length = [] from List.drop_eq_nil_of_le (by unfold ps0; rw [List.length_map]; omega)] at hck hfin hlf
      have hg : g = fin [-1, 1] (ps0 n) := hfin
      have hlf2 : l = lf n := hlf
      have gl := gz_mo (show gz g = true from hck)
      have lz : (cz n).length ≤ 600 := (gz_mo C.gz).2.2
      have ez : wdL l g = cz n := by rw [hg, hlf2]; rfl
      refine ⟨_, rfl, _, rfl, pF, g, l, rfl, eF, gl.1.ne, by rw [hlf2]; exact C.lf, by omega, by omega, by rw [ez]; omega, fun p H3 s3 e3 => ?_⟩
      rw [ez] at e3
      exact q p H3 (st.trans (s1.trans (s2.trans s3))) e3
end
end K2

set_option Elab.async false
set_option linter.all false
set_option maxRecDepth 100000
set_option maxHeartbeats 4000000
namespace K2
open PySem PySem.Spec PyProof.Rows L2 Gd Pv RZ Po Nm
section
variable {P : Program} {w : World} {K : PySem.W.Frag} {mg : Str → Option Value} {base : Heap}
theorem c__law_round (D : At K mg "_law_round" s__law_round ["_law_whole"]) (c__law_primes : Cal P w K mg base 1 "_law_primes" spFacs) (c__law_split : Cal P w K mg base 2 "_law_split" spDiv) (z_len : mg "len" = none) (z_range : mg "range" = none) (z_tuple : mg "tuple" = none) : Cal P w K mg base 3 "_law_round" spCyc := by
  refine okC D sc__law_round (fun vs H Q E h => ?_) (fun f cdv A outer s0 H vs Q E hr h => ?_)
  · obtain ⟨n, rfl, _⟩ := h
    rfl
  · obtain ⟨n, rfl, h1, h2, q⟩ := h
    have nd := sc__law_round.nd
    refine ⟨_, (pss_cons (ps_par (i := 2) (j := 3) rfl nd rfl rfl (by decide) rfl rfl (pa_cons (pe_tup (pa_cons (pe_un un_neg pe_int) (pa_cons pe_int pa_nil))) (pa_cons (pe_lst pa_nil) pa_nil)) rfl)
 (pss_cons (ps_for PassesOwn.never rfl (pi_list (pe_k c__law_primes hr (by decide) (by rfl) (pa_cons (pv 0) pa_nil))) (pg_name (i := 1) nd rfl (.inl rfl))
 (pss_cons (ps_set (i := 4) nd rfl (.inl rfl) (pe_op op_rep (pe_lst (pa_cons pe_int pa_nil)) (pe_op op_add (pe_op op_mulN (pv 1) (pe_op op_sub (pe_callB call_len_seq (by rfl) z_len PySem.boot_len (pa_cons (pv 2) pa_nil)) pe_int)) pe_int)))
 (pss_cons (ps_for PassesOwn.never rfl (pi_range1 (by rfl) z_range (pa_cons (pe_callB call_len_seq (by rfl) z_len PySem.boot_len (pa_cons (pv 2) pa_nil)) pa_nil)) (pg_name (i := 5) nd rfl (.inl rfl))
 (pss_one (ps_asg (pe_ix ix_tup (pv 2) (pv 5) (fun _ _ => rfl)) (pg_sub (pv 4) (pe_op op_mulN (pv 1) (pv 5)) set_list))))
 (C8.pss_cut (ps_set (i := 2) nd rfl (.inl rfl) (pe_ifExp (pt_cmpR op_in_seq (pv 1) (pv 3) (by rfl)) (pe_tupleOf (by rfl) z_tuple (pv 4)) (pe_ix ix_tup (pe_k c__law_split hr (by decide) (by rfl) (pa_cons (pe_tupleOf (by rfl) z_tuple (pv 4)) (pa_cons (pv 2) pa_nil))) pe_int (fun _ _ => rfl))))
 (pss_one (ps_expr (pe_bm PySem.F.plainAttrs_list PySem.F.slot_list_append PySem.F.type_list_append mt_append (pv 3) (pa_cons (pv 1) pa_nil))))))))
 (pss_one (ps_ret (pv 2))))), ?_⟩
    have C := czs h1 h2
    refine ⟨_, rfl, (by show 2 ≤ sizeLine; decide), fun t ht => ⟨(by show 0 ≤ sizeLine; decide), fun l hl => ?_⟩⟩
    have st := same_new (o := .tup [V.int (-1), .int 1]) ht
    have et0 : TAt (upd H t (.tup [V.int (-1), .int 1])) t [-1, 1] := upd_same
    have sl := same_new (o := .lst []) hl
    have el0 : (upd (upd H t (.tup [V.int (-1), .int 1])) l (.lst [])) l = some (.lst (nV [])) := upd_same
    have et := et0.same sl
    have s00 := st.trans sl
    have nl : H l = none := by
      cases z : H l with
      | none => rfl
      | some o =>
        have y := st l o z
        rw [hl] at y
        cases y
    refine ⟨_, _, rfl, ?_⟩
    generalize upd (upd H t (.tup [V.int (-1), .int 1])) l (.lst []) = H0 at s00 et el0 ⊢
    refine ⟨_, rfl, n, rfl, h1, by omega, fun a fs H1 hf hfl s1 ha => ?_⟩
    obtain rfl := hf.uniq C.facs
    have hal : fz n ≠ [] → a ≠ l := fun z y => by
      subst y
      have y1 := s1 _ _ el0
      rw [ha] at y1
      have y2 : nV (fz n) = [] := by
        have := Option.some.inj y1
        injection this
      unfold nV at y2
      exact z (List.map_eq_nil_iff.mp y2)
    refine ⟨a, rfl, ⟨_, .inl (.inl ha)⟩, for_it (walk_list (xs := nV (fz n)))
      (fun i σ H' => ∃ (pF : Addr) (g : List Int) (seen : List Nat) (y1 y4 y5 : Option V), σ = [some (.int n), y1, some (.ref pF), some (.ref l), y4, y5] ∧ Same H H' ∧ TAt H' pF g ∧ H' l = some (.lst (nV seen)) ∧ seen.length = i ∧ H' a = some (.lst (nV (fz n))) ∧ ckL g seen ((fz n).drop i) = true ∧ finL g seen ((fz n).drop i) = cz n)
      ⟨t, [-1, 1], [], none, none, none, rfl, s00.trans s1, et.same s1, s1 _ _ el0, rfl, ha, C.ckL, C.fin⟩ (fun i σ H' _ ⟨_, _, _, _, _, _, _, _, _, _, _, e, _⟩ => .inl (.inl e)) ?_ ?_⟩
    · rintro i x σ H2 H' hi ⟨pF, g, seen, y1, y4, y5, rfl, s2, eF, eS, ls, ea, hck, hfin⟩ ⟨eH, hx⟩
      obtain rfl := eH.symm
      rw [nV_len] at hi
      obtain ⟨p, hp, rfl⟩ := nV_get hx
      have ne : fz n ≠ [] := fun z => by rw [z] at hi; cases hi
      have ed : (fz n).drop i = p :: (fz n).drop (i + 1) := by
        rw [List.drop_eq_getElem_cons hi]
        congr 1
        rw [List.getElem?_eq_getElem hi] at hp
        exact Option.some.inj hp
      have hpm : p ∈ fz n := List.mem_of_getElem? hp
      have ple : p ≤ n := Nat.le_of_dvd h1 ((C.facs.mem p).mp hpm).2
      rw [ed] at hck hfin
      have hck2 : (if p ∈ seen then decide (1 ≤ p) && gz g && gz (wdL p g) else gd g p) = true ∧ ckL (if p ∈ seen then wdL p g else divQ (wdL p g) g) (seen ++ [p]) ((fz n).drop (i + 1)) = true := by
        have z : ((if p ∈ seen then decide (1 ≤ p) && gz g && gz (wdL p g) else gd g p) && ckL (if p ∈ seen then wdL p g else divQ (wdL p g) g) (seen ++ [p]) ((fz n).drop (i + 1))) = true := hck
        rwa [Bool.and_eq_true] at z
      obtain ⟨p1, g1, g2⟩ : 1 ≤ p ∧ gz g = true ∧ gz (wdL p g) = true := by
        by_cases z : p ∈ seen
        · have y := hck2.1
          rw [if_pos z, Bool.and_eq_true, Bool.and_eq_true] at y
          exact ⟨of_decide_eq_true y.1.1, y.1.2, y.2⟩
        · have y := hck2.1
          rw [if_neg z] at y
          obtain ⟨a1, a2, a3, _⟩ := gd_ok y
          exact ⟨a1, a2, a3⟩
      have m1 := gz_mo g1
      have m2 := gz_mo g2
      have gpos : 1 ≤ g.length := by
        cases g with
        | nil => exact absurd rfl m1.1.ne
        | cons y ys => simp
      have lw := wdL_len p1 m1.1.ne
      have lw6 := m2.2.2
      rw [lw] at lw6
      refine ⟨(by show 1 ≤ sizeLine; decide), fun l1 hl1 => ?_⟩
      have sa := same_new (o := .lst [V.int 0]) hl1
      refine ⟨_, rfl, _, rfl, pF, _, rfl, .inr (eF.same sa).sq, _, _, rfl, rfl, p, g.length - 1, rfl, ?_, by omega, _, _, rfl, rfl, l1, (((g.length - 1) * p + 1 : Nat) : Int), _, rfl, ?_, upd_same, by omega, by omega, by rw [Int.toNat_natCast, sizeLine_eq]; show 1 * _ ≤ _; omega, fun R hR => ?_⟩
      · rw [List.length_map]
        show V.int (((g.length : Nat) : Int) - 1) = _
        congr 1
        omega
      · rw [Int.natCast_add, Nat.mul_comm]
        rfl
      rw [Int.toNat_natCast, rep_flat]
      have s0R := sa.trans (same_new (o := .lst ((List.replicate ((g.length - 1) * p + 1) (0 : Int)).map V.int)) hR)
      have eR : (upd (upd H2 l1 (.lst [V.int 0])) R (.lst ((List.replicate ((g.length - 1) * p + 1) (0 : Int)).map V.int))) R = some (.lst ((of ((g.length - 1) * p + 1) (wk p g 0)).map V.int)) := by
        rw [upd_same, wk_zero p g _ p1, of_const]
      have nR : H2 R = none := by
        cases z : H2 R with
        | none => rfl
        | some o =>
          have y := sa R o z
          rw [hR] at y
          cases y
      generalize upd (upd H2 l1 (.lst [V.int 0])) R (.lst ((List.replicate ((g.length - 1) * p + 1) (0 : Int)).map V.int)) = H3 at s0R eR ⊢
      clear sa hR hl1
      refine ⟨_, rfl, pF, _, rfl, .inr (eF.same s0R).sq, g.length, by rw [List.length_map], by omega, by omega, ?_⟩
      rw [Int.toNat_natCast]
      refine for_it walk_range (fun k σ H' => ∃ (y5 : Option V), σ = [some (.int n), some (.int (p : Nat)), some (.ref pF), some (.ref l), some (.ref R), y5] ∧ Same H2 H' ∧ H' R = some (.lst ((of ((g.length - 1) * p + 1) (wk p g k)).map V.int)))
        ⟨_, rfl, s0R, eR⟩ (fun _ _ _ _ _ => True.intro) ?_ ?_
      · rintro k x σ G G' hk ⟨y5, rfl, sG, eG⟩ ⟨eH, rfl⟩
        obtain rfl := eH.symm
        have hks : k * p < (g.length - 1) * p + 1 := Nat.lt_succ_of_le (Nat.mul_le_mul_right p (by omega))
        refine ⟨_, rfl, _, rfl, pF, _, _, _, rfl, rfl, .inl (.inl (sG _ _ eF)), at_co (j := k) hk (by omega), ?_⟩
        refine ⟨_, rfl, _, rfl, _, rfl, p, k, rfl, by show V.int (0 + (k : Int)) = _; rw [Int.zero_add], by omega, R, _, _, _, rfl, rfl, eG, ix_of hks (by rw [Nat.mul_comm]), ?_⟩
        refine ⟨_, rfl, same_own sG nR, ?_⟩
        rw [upd_same, ← List.map_set, wk_step p1]
      rintro σ H4 ⟨y5, rfl, s4, e4⟩
      rw [wk_all p1 m1.1.ne] at e4
      refine ⟨fun σ G => ∃ (pG : Addr), σ = [some (.int n), some (.int (p : Nat)), some (.ref pG), some (.ref l), some (.ref R), y5] ∧ Same H2 G ∧ TAt G pG (if p ∈ seen then wdL p g else divQ (wdL p g) g), ?_, ?_⟩
      · refine ⟨_, rfl, _, rfl, l, _, rfl, .inl (.inl (.inl (s4 _ _ eS))), rfl, flat_nats seen, ?_⟩
        rw [inV_nats]
        refine ⟨_, rfl, ite2 (fun z => ?_) (fun z => ?_)⟩
        · have z1 : p ∈ seen := of_decide_eq_true z
          refine ⟨_, rfl, .inl ⟨R, _, rfl, .inl (.inl e4), fun r hr2 => ⟨r, rfl, s4.trans (same_new hr2), ?_⟩⟩⟩
          rw [if_pos z1]
          exact upd_same
        · have z1 : p ∉ seen := fun y => z (decide_eq_true y)
          have y := hck2.1
          rw [if_neg z1] at y
          obtain ⟨_, _, _, _, g4, g5⟩ := gd_ok y
          refine ⟨_, rfl, .inl ⟨R, _, rfl, .inl (.inl e4), fun r hr2 => ?_⟩⟩
          have s5 := s4.trans (same_new (o := .tup ((wdL p g).map V.int)) hr2)
          have e5 : TAt (upd H4 r (.tup ((wdL p g).map V.int))) r (wdL p g) := upd_same
          generalize upd H4 r (.tup ((wdL p g).map V.int)) = H5 at s5 e5 ⊢
          refine ⟨_, rfl, r, pF, _, g, 3, 3, rfl, e5, eF.same s5, m1.1.len, by omega, by omega, m2.2.1, m1.2.1, by decide, by omega, fun u p1' p2' H6 s6 eu e6 e7 => ?_⟩
          refine ⟨u, _, _, _, rfl, rfl, .inl (.inl eu), rfl, p1', rfl, s5.trans s6, ?_⟩
          rw [if_neg z1, ← g4]
          exact e6
      rintro σ H5 ⟨pG, rfl, s5, e5⟩
      refine ⟨_, rfl, .inl ⟨rfl, _, .inl (.inl (s5 _ _ eS))⟩, _, rfl, l, _, _, rfl, rfl, s5 _ _ eS, ?_, ?_⟩
      · rw [nV_len, ls]
        exact small1000 (by omega)
      · refine ⟨pG, _, seen ++ [p], _, _, _, rfl, same_own (s2.trans s5) nl, TAt.own e5 (s5 _ _ eS), ?_, by rw [List.length_append, ls]; rfl, ?_, hck2.2, hfin⟩
        · rw [upd_same]
          unfold nV
          rw [List.map_append]
          rfl
        · rw [upd_ne (hal ne)]
          exact s5 _ _ ea
    · rintro σ H2 ⟨pF, g, seen, y1, y4, y5, rfl, s2, eF, eS, ls, ea, hck, hfin⟩
      rw [nV_len, List.drop_length] at hfin
      have hg : g = cz n := hfin
      subst hg
      exact ⟨_, rfl, q pF H2 s2 eF⟩
end
end K2

set_option Elab.async false
set_option linter.all false
set_option maxRecDepth 100000
set_option maxHeartbeats 4000000
set_option exponentiation.threshold 20000
namespace K2
open PySem PySem.Spec PyProof.Rows L2 Gd Pv RZ Po Nm
section
variable {P : Program} {w : World} {K : PySem.W.Frag} {mg : Str → Option Value} {base : Heap}
def spPolyOf : Sp := fun vs H Q _ => ∃ (a : Addr) (xs : List Int), vs = [.ref a] ∧ TAt H a xs ∧ 0 < xs.length ∧ xs.length ≤ 1000 ∧ ∀ (p : Addr) (H' : Hp), Same H H' → TAt H' p (tr xs) → Q (.ref p) H'
theorem c_polynomial_of (D : At K mg "polynomial_of" s_polynomial_of ["voice"]) (c_need : Cal P w K mg base 1 "need" spNeed) (c_is_voice : Cal P w K mg base 3 "is_voice" spIsVoice) (c_trimmedT : Cal P w K mg base 1 "trimmed" spTrimT) : Cal P w K mg base 4 "polynomial_of" spPolyOf := by
  refine okC D sc_polynomial_of (fun vs H Q E h => ?_) (fun f cdv A outer s H vs Q E hr h => ?_)
  · obtain ⟨a, xs, rfl, _⟩ := h
    rfl
  · obtain ⟨a, xs, rfl, ha, hn, hn2, q⟩ := h
    have nd := sc_polynomial_of.nd
    refine ⟨_, (pss_cons (ps_expr (pe_k c_need hr (by decide) (by rfl) (pa_cons (pe_k c_is_voice hr (by decide) (by rfl) (pa_cons (pv 0) pa_nil)) (pa_cons pe_str pa_nil))))
 (pss_one (ps_ret (pe_k c_trimmedT hr (by decide) (by rfl) (pa_cons (pv 0) pa_nil))))), ?_⟩
    refine ⟨_, rfl, a, xs, rfl, ha, hn, hn2, fun H1 s1 => ⟨_, rfl, ?_⟩⟩
    exact ⟨_, rfl, a, xs, rfl, ha.same s1, hn2, fun p H' sm hp => q p H' (s1.trans sm) hp⟩
def spRow : Sp := fun vs H Q _ => ∃ (d c : Addr) (cells : List Int) (B : Nat), vs = [.ref d] ∧ FeedAt H d c cells B ∧ B ≤ 50000 ∧
  ∀ (xs : List Int) (p : Addr) (H' : Hp), Nf xs → xs.length ≤ 9 → Bd 137 xs → FeedAt H' d c cells (B + 11) → Kp d H H' → TAt H' p xs → Q (.ref p) H'
theorem c__law_row (D : At K mg "_law_row" s__law_row ["_law_feed_here"]) (c__law_draw : Cal P w K mg base 1 "_law_draw" spDraw) (c__law_any : Cal P w K mg base 2 "_law_any" spAny) (c__law_bare : Cal P w K mg base 1 "_law_bare" (spBare K)) (z_range : mg "range" = none) : Cal P w K mg base 3 "_law_row" spRow := by
  refine okC D sc__law_row (fun vs H Q E h => ?_) (fun f cdv A outer s H vs Q E hr h => ?_)
  · obtain ⟨d, c, cells, B, rfl, _⟩ := h
    rfl
  · obtain ⟨d, c, cells, B, rfl, F, hB, q⟩ := h
    have nd := sc__law_row.nd
    refine ⟨_, (pss_cons (ps_set (i := 1) nd rfl (.inr rfl) (pe_k c__law_any hr (by decide) (by rfl) (pa_cons (pv 0) (pa_cons (pe_lst (pa_cons pe_int (pa_cons pe_int (pa_cons pe_int (pa_cons (pe_op op_pow pe_int pe_int) pa_nil))))) pa_nil))))
 (pss_one (ps_ret (pe_k c__law_bare hr (by decide) (by rfl) (pa_cons (pe_lc (own := [("_law_lap", 2)]) rfl nd (pi_range1 (by rfl) z_range (pa_cons (pe_k c__law_draw hr (by decide) (by rfl) (pa_cons (pv 0) (pa_cons pe_int pa_nil))) pa_nil)) (blkOk_by (N := N__law_row) (sc := defScope s__law_row) (by decide +kernel)) (fun _ _ _ _ _ => pg_name (i := 2) nd rfl (Or.inl rfl)) (fun _ _ _ _ _ => pts_nil) (fun _ _ _ _ _ => (pe_op op_mulW (pe_op op_sub (pe_k c__law_draw hr (by decide) (by rfl) (pa_cons (pv 0) (pa_cons pe_int pa_nil))) pe_int) (pv 1)))) pa_nil))))), ?_⟩
    refine ⟨_, rfl, _, _, rfl, rfl, ⟨by decide, by decide, by decide⟩, (by show 4 ≤ sizeLine; decide), fun l hl => ?_⟩
    refine ⟨d, c, l, cells, B, _, rfl, F.same (same_new hl), by omega, upd_same, (by decide), (by decide), fun x H2 hx F2 k2 => ?_⟩
    obtain ⟨gr, rfl, hg⟩ : ∃ gr : Int, x = .int gr ∧ (0 ≤ gr ∧ gr ≤ 1000000000000000000000000000000) := by
      simp only [List.mem_cons, List.not_mem_nil, or_false] at hx
      rcases hx with rfl | rfl | rfl | rfl
      · exact ⟨_, rfl, by decide, by decide⟩
      · exact ⟨_, rfl, by decide, by decide⟩
      · exact ⟨_, rfl, by decide, by decide⟩
      · exact ⟨_, rfl, by rw [ten30]; decide, by rw [ten30]; decide⟩
    have kk := (same_new (o := .lst [V.int 1, .int 1, .int 1, .int ((10 : Int) ^ (30 : Int).toNat)]) hl).kp.trans k2
    refine ⟨_, rfl, d, c, cells, B + 1, 10, rfl, F2, by omega, by decide, by decide, fun r H3 h3 F3 k3 => ⟨r, rfl, by omega, by omega, fun R hR => ?_⟩⟩
    refine lcDraw (m := 1) hR F3 (by rw [Int.toNat_natCast]; omega) ?_ ?_
    · intro i G Y hi FG kG h4
      rw [Int.toNat_natCast] at hi
      refine ⟨rfl, _, rfl, d, c, cells, _, 9, rfl, FG, by omega, by decide, by decide, fun r3 H4 h34 F4 k4 => ⟨_, _, rfl, rfl, _, rfl, _, _, rfl, rfl, wide_mul (a := 4) (b := 101) ?_ ?_ (by decide) (by decide) (by decide), ?_⟩⟩
      · show ((r3 : Int) - 4).natAbs < 2 ^ 4
        have : (2 : Nat) ^ 4 = 16 := by decide
        omega
      · have : (2 : Nat) ^ 101 = 2535301200456458802993406410752 := by decide
        omega
      refine h4 _ H4 ?_ F4 k4
      rw [two137]
      have b1 : ((r3 : Int) - 4) * gr ≤ 4 * gr := Int.mul_le_mul_of_nonneg_right (by omega) hg.1
      have b2 : (-4) * gr ≤ ((r3 : Int) - 4) * gr := Int.mul_le_mul_of_nonneg_right (by omega) hg.1
      omega
    · intro xs G hl2 hb FG kG eG
      rw [Int.toNat_natCast] at hl2 FG
      refine ⟨R, xs, rfl, .inl (.inl (.inl eG)), by omega, fun p H' sm hp => ?_⟩
      exact q (tr xs) p H' (nf_tr _) (Nat.le_trans (tr_len _) (by omega)) (fun y hy => hb y (tr_mem hy)) ((FG.same sm).mono (by omega)) (((kk.trans k3).trans kG).trans sm.kp) hp
theorem cz_small_all : ((List.range 13).all fun i => decide ((cz i).length ≤ 40)) = true := by decide +kernel
theorem cz_small {n : Nat} (h : n ≤ 12) : (cz n).length ≤ 40 := of_decide_eq_true (List.all_eq_true.mp cz_small_all n (List.mem_range.mpr (by omega)))
def spBase : Sp := fun vs H Q _ => ∃ (d c : Addr) (cells : List Int) (B : Nat), vs = [.ref d] ∧ FeedAt H d c cells B ∧ B ≤ 50000 ∧
  ∀ (ds : List Int) (p : Addr) (H' : Hp), Mo ds → ds.length ≤ 40 → Bd 137 ds → FeedAt H' d c cells (B + 7) → Kp d H H' → TAt H' p ds → Q (.ref p) H'
theorem c__law_base (D : At K mg "_law_base" s__law_base ["_law_feed_here"]) (c__law_draw : Cal P w K mg base 1 "_law_draw" spDraw) (c__law_round : Cal P w K mg base 3 "_law_round" spCyc) (z_range : mg "range" = none) (z_tuple : mg "tuple" = none) : Cal P w K mg base 4 "_law_base" spBase := by
  refine okC D sc__law_base (fun vs H Q E h => ?_) (fun f cdv A outer s H vs Q E hr h => ?_)
  · obtain ⟨d, c, cells, B, rfl, _⟩ := h
    rfl
  · obtain ⟨d, c, cells, B, rfl, F, hB, q⟩ := h
    have nd := sc__law_base.nd
    refine ⟨_, (pss_cons (ps_if (pt_cmpR op_eq (pe_k c__law_draw hr (by decide) (by rfl) (pa_cons (pv 0) (pa_cons pe_int pa_nil))) pe_int (nomark _))
 (pss_one (ps_ret (pe_k c__law_round hr (by decide) (by rfl) (pa_cons (pe_op op_add pe_int (pe_k c__law_draw hr (by decide) (by rfl) (pa_cons (pv 0) (pa_cons pe_int pa_nil)))) pa_nil))))
 pss_nil)
 (pss_one (ps_ret (pe_op op_catA (pe_tupleOf (by rfl) z_tuple (pe_lc (own := [("_law_lap", 1)]) rfl nd (pi_range1 (by rfl) z_range (pa_cons (pe_k c__law_draw hr (by decide) (by rfl) (pa_cons (pv 0) (pa_cons pe_int pa_nil))) pa_nil)) (blkOk_by (N := N__law_base) (sc := defScope s__law_base) (by decide +kernel)) (fun _ _ _ _ _ => pg_name (i := 1) nd rfl (Or.inl rfl)) (fun _ _ _ _ _ => pts_nil) (fun _ _ _ _ _ => (pe_op op_sub (pe_k c__law_draw hr (by decide) (by rfl) (pa_cons (pv 0) (pa_cons pe_int pa_nil))) pe_int)))) (pe_tup (pa_cons pe_int pa_nil)))))), ?_⟩
    refine ⟨_, rfl, d, c, cells, B, 4, rfl, F, by omega, by decide, by decide, fun r H1 h1 F1 k1 => ⟨rfl, _, rfl, ite2 (fun _ => ?_) (fun _ => ?_)⟩⟩
    · refine ⟨_, rfl, d, c, cells, B + 1, 12, rfl, F1, by omega, by decide, by decide, fun r2 H2 h2 F2 k2 => ⟨_, _, rfl, rfl, ?_⟩⟩
      refine ⟨1 + r2, by rw [Int.natCast_add]; rfl, by omega, by omega, fun p H3 s3 e3 => ?_⟩
      have gm := gz_mo (czs (n := 1 + r2) (by omega) (by omega)).gz
      exact q _ p H3 gm.1 (cz_small (by omega)) (fun x hx => Nat.lt_of_lt_of_le (gm.2.1 x hx) (Nat.pow_le_pow_right (by decide) (by decide))) ((F2.same s3).mono (by omega)) ((k1.trans k2).trans s3.kp) e3
    · refine ⟨_, rfl, d, c, cells, B + 1, 6, rfl, F1, by omega, by decide, by decide, fun r2 H2 h2 F2 k2 => ⟨r2, rfl, by omega, by omega, fun R hR => ?_⟩⟩
      refine lcDraw (m := 1) hR F2 (by rw [Int.toNat_natCast]; omega) ?_ ?_
      · intro i G Y hi FG kG h4
        rw [Int.toNat_natCast] at hi
        refine ⟨rfl, _, rfl, d, c, cells, _, 7, rfl, FG, by omega, by decide, by decide, fun r3 H4 h34 F4 k4 => ⟨_, _, rfl, rfl, ?_⟩⟩
        exact h4 _ H4 (by rw [two137]; omega) F4 k4
      · intro xs G hl2 hb FG kG eG
        rw [Int.toNat_natCast] at hl2 FG
        refine .inl ⟨R, _, rfl, .inl (.inl eG), fun p hp => ⟨(by show 1 ≤ sizeLine; decide), fun t ht => ?_⟩⟩
        have s1 := same_new (o := .tup (xs.map V.int)) hp
        have s2 := same_new (o := .tup [V.int 1]) ht
        have e1 : TAt (upd G p (.tup (xs.map V.int))) p xs := upd_same
        have e2 : TAt (upd (upd G p (.tup (xs.map V.int))) t (.tup [V.int 1])) t [1] := upd_same
        have e1' := e1.same s2
        have s12 := s1.trans s2
        generalize upd (upd G p (.tup (xs.map V.int))) t (.tup [V.int 1]) = G2 at e2 e1' s12 ⊢
        have kk := ((k1.trans k2).trans kG).trans s12.kp
        refine ⟨p, t, _, _, rfl, rfl, e1'.sq, e2.sq, ?_, fun e => ?_, fun _ e => absurd e (by simp), fun _ _ u hu => ?_⟩
        · rw [List.length_map, sizeLine_eq]
          show xs.length + 1 ≤ _
          omega
        · have e0 : xs = [] := List.map_eq_nil_iff.mp e
          subst e0
          exact q [1] t G2 ⟨[], rfl⟩ (by decide) (fun x hx => by rw [List.mem_singleton.mp hx, two137]; decide) ((FG.same s12).mono (by omega)) kk e2
        · refine q (xs ++ [1]) u _ ⟨xs, rfl⟩ (by rw [List.length_append]; show xs.length + 1 ≤ _; omega) (fun x hx => ?_) (((FG.same s12).same (same_new hu)).mono (by omega)) (kk.trans (same_new hu).kp) ?_
          · rcases List.mem_append.mp hx with z | z
            · exact hb x z
            · rw [List.mem_singleton.mp z, two137]
              decide
          · show upd _ u _ u = _
            rw [upd_same, List.map_append]
end
end K2

set_option Elab.async false
set_option linter.all false
set_option maxRecDepth 100000
set_option exponentiation.threshold 20000
/-! Whole numbers, tuples of such, and None, told item by item; sizes of polynomials. -/
namespace Gd
open PySem PySem.Spec PyProof.Rows L2
/-- a weaker promise of a name -/
theorem Cal.imp {P : Program} {w : World} {K : PySem.W.Frag} {mg : Str → Option Value} {base : Heap} {k : Nat} {x : Str} {sp sp' : Sp} (C : Cal P w K mg base k x sp) (h : ∀ vs H Q E, sp' vs H Q E → sp vs H Q E) : Cal P w K mg base k x sp' := by
  obtain ⟨f, hm, hk, F⟩ := C.ex
  exact ⟨f, hm, hk, fun A outer s H us vs Q E hr e0 r z => F A outer s H us vs Q E hr e0 r (h _ _ _ _ z)⟩
end Gd
namespace K2
open PySem PySem.Spec PyProof.Rows L2 Gd Pv RZ Po Nm
inductive TX where
  | i (x : Int)
  | t (xs : List Int)
  | n
def TX.data : TX → PyData
  | .i x => .int x
  | .t xs => dT xs
  | .n => .none
def OneX (H : Hp) : V → TX → Prop
  | v, .i x => v = .int x
  | v, .t xs => ∃ a, v = .ref a ∧ TAt H a xs
  | v, .n => v = .non
def AllX (H : Hp) : List V → List TX → Prop
  | [], [] => True
  | v :: vs, d :: ds => OneX H v d ∧ AllX H vs ds
  | _, _ => False
theorem OneX.same {H H' : Hp} (s : Same H H') : ∀ {v : V} {d : TX}, OneX H v d → OneX H' v d
  | _, .i _, h => h
  | _, .t _, ⟨a, e, h⟩ => ⟨a, e, h.same s⟩
  | _, .n, h => h
theorem AllX.same {H H' : Hp} (s : Same H H') : ∀ {vs : List V} {ds : List TX}, AllX H vs ds → AllX H' vs ds
  | [], [], h => h
  | _ :: _, _ :: _, ⟨h, t⟩ => ⟨h.same s, t.same s⟩
  | [], _ :: _, h => h.elim
  | _ :: _, [], h => h.elim
theorem OneX.own {H : Hp} {l : Addr} {us : List V} {o : HO} (e : H l = some (.lst us)) : ∀ {v : V} {d : TX}, OneX H v d → OneX (upd H l o) v d
  | _, .i _, h => h
  | _, .t _, ⟨a, e1, h⟩ => ⟨a, e1, h.own e⟩
  | _, .n, h => h
theorem AllX.own {H : Hp} {l : Addr} {us : List V} {o : HO} (e : H l = some (.lst us)) : ∀ {vs : List V} {ds : List TX}, AllX H vs ds → AllX (upd H l o) vs ds
  | [], [], h => h
  | _ :: _, _ :: _, ⟨h, t⟩ => ⟨h.own e, t.own e⟩
  | [], _ :: _, h => h.elim
  | _ :: _, [], h => h.elim
theorem AllX.append {H : Hp} : ∀ {vs us : List V} {ds es : List TX}, AllX H vs ds → AllX H us es → AllX H (vs ++ us) (ds ++ es)
  | [], _, [], _, _, h => h
  | _ :: _, _, _ :: _, _, ⟨h, t⟩, u => ⟨h, t.append u⟩
  | [], _, _ :: _, _, h, _ => h.elim
  | _ :: _, _, [], _, h, _ => h.elim
theorem AllX.len {H : Hp} : ∀ {vs : List V} {ds : List TX}, AllX H vs ds → vs.length = ds.length
  | [], [], _ => rfl
  | _ :: _, _ :: _, ⟨_, t⟩ => by rw [List.length_cons, List.length_cons, t.len]
  | [], _ :: _, h => h.elim
  | _ :: _, [], h => h.elim
theorem OneX.dp {K : PySem.W.Frag} {H : Hp} : ∀ {v : V} {d : TX}, OneX H v d → Dp K H v d.data
  | _, .i _, rfl => .int _
  | _, .t _, ⟨_, rfl, h⟩ => dpT h
  | _, .n, rfl => .non
theorem AllX.dp {K : PySem.W.Frag} {H : Hp} : ∀ {vs : List V} {ds : List TX}, AllX H vs ds → DpAll K H vs (ds.map TX.data)
  | [], [], _ => .nil
  | _ :: _, _ :: _, ⟨h, t⟩ => .cons h.dp t.dp
  | [], _ :: _, h => h.elim
  | _ :: _, [], h => h.elim
def TX.Ok : TX → Prop
  | .i x => x.natAbs < 2 ^ 14000
  | .t xs => Bd 14000 xs ∧ xs.length ≤ 40
  | .n => True
theorem okTX {d : TX} (h : d.Ok) : OkW [d.data] 2 172125 := by
  cases d with
  | i x => exact ⟨(okW_int (k := 2) (Nat.lt_of_lt_of_le h ten_two)).wi, (okW_int (k := 2) (Nat.lt_of_lt_of_le h ten_two)).dp, Nat.le_trans (okW_int (k := 2) (Nat.lt_of_lt_of_le h ten_two)).co (by decide)⟩
  | t xs => exact okT h.1 (by decide) h.2
  | n => exact ⟨by simp [wideAll, wideB, TX.data], by simp [PyData.depthAll, PyData.depth, TX.data], by simp [costWs, costW, TX.data]⟩
theorem okTXs : ∀ {ds : List TX}, (∀ d ∈ ds, d.Ok) → OkW (ds.map TX.data) 2 (172125 * ds.length)
  | [], _ => okW_nil 2
  | d :: ds, h => by
    have e := okW_cons (okTX (h d List.mem_cons_self)) (okTXs fun x hx => h x (List.mem_cons_of_mem _ hx))
    rw [List.length_cons, Nat.mul_succ, Nat.add_comm]
    exact e
theorem TX.ok_t {xs : List Int} {b : Nat} (h : Bd b xs) (hb : b ≤ 14000) (hl : xs.length ≤ 40) : (TX.t xs).Ok := ⟨h.mono hb, hl⟩
theorem bd_nil (c : Nat) : Bd c [] := fun x hx => absurd hx List.not_mem_nil
theorem bd_tr {c : Nat} {xs : List Int} (h : Bd c xs) : Bd c (tr xs) := fun x hx => h x (tr_mem hx)
theorem mu_abs {c d n : Nat} {xs ys : List Int} (hx : Bd c xs) (hy : Bd d ys) (hn : n ≤ 1000) (b : Int) : (mu n (co xs) (co ys) b).natAbs < 2 ^ (c + d + 10) := by
  have h1 := S_abs (n := n) (F := fun j => co xs j * co ys (b - j)) (B := 2 ^ c * 2 ^ d) fun j _ => by
    rw [Int.natAbs_mul]
    exact Nat.mul_le_mul (Nat.le_of_lt (hx.co _)) (Nat.le_of_lt (hy.co _))
  have h2 : n * (2 ^ c * 2 ^ d) ≤ 1000 * (2 ^ c * 2 ^ d) := Nat.mul_le_mul_right _ hn
  have h3 : (2 : Nat) ^ (c + d + 10) = 1024 * (2 ^ c * 2 ^ d) := by
    rw [Nat.pow_add, Nat.pow_add, Nat.mul_comm]
  have h4 : 0 < 2 ^ c * 2 ^ d := Nat.mul_pos (Nat.pow_pos (by decide)) (Nat.pow_pos (by decide))
  show (S n fun j => co xs j * co ys (b - j)).natAbs < _
  omega
theorem bd_ml {c d : Nat} {xs ys : List Int} (hx : Bd c xs) (hy : Bd d ys) (hn : xs.length ≤ 1000) : Bd (c + d + 10) (ml xs ys) := bd_tr (bd_of fun j _ => mu_abs hx hy hn j)
theorem bd_pl {c : Nat} {xs ys : List Int} (hx : Bd c xs) (hy : Bd c ys) : Bd (c + 1) (pl xs ys) := bd_tr (bd_of fun j _ => by
  have h1 := hx.co (j : Nat)
  have h2 := hy.co (j : Nat)
  have h3 : (2 : Nat) ^ (c + 1) = 2 * 2 ^ c := by rw [Nat.pow_succ, Nat.mul_comm]
  show (co xs (j : Nat) + co ys (j : Nat)).natAbs < _
  omega)
theorem bits_le {c e l m : Nat} (h : m ≤ l) : (2 : Nat) ^ (c + m * (e + 1)) < 2 ^ (c + l * (e + 1) + 1) :=
  Nat.pow_lt_pow_right (by decide) (by have := Nat.mul_le_mul_right (e + 1) h; omega)
theorem bd_rs {c e : Nat} {xs ds : List Int} (hx : Bd c xs) (hd : Bd e ds) : Bd (c + xs.length * (e + 1) + 1) (rs xs ds) :=
  bd_tr (bd_of fun j _ => Nat.lt_of_le_of_lt ((abs_run (fun i => Nat.le_of_lt (hd.co i)) (xs.length - (ds.length - 1)) c (co xs) (fun i => Nat.le_of_lt (hx.co i))).1 j) (bits_le (Nat.sub_le _ _)))
theorem bd_qs {c e : Nat} {xs ds : List Int} (hx : Bd c xs) (hd : Bd e ds) : Bd (c + xs.length * (e + 1) + 1) (qs xs ds) :=
  bd_tr fun x h => Nat.lt_of_le_of_lt ((abs_run (fun i => Nat.le_of_lt (hd.co i)) (xs.length - (ds.length - 1)) c (co xs) (fun i => Nat.le_of_lt (hx.co i))).2 x h) (bits_le (Nat.sub_le _ _))
theorem len_rs (xs ds : List Int) : (rs xs ds).length ≤ xs.length := Nat.le_trans (tr_len _) (by rw [of_len]; exact Nat.le_refl _)
theorem len_qs (xs ds : List Int) : (qs xs ds).length ≤ xs.length := Nat.le_trans (tr_len _) (by rw [fac_len]; exact Nat.sub_le _ _)
theorem len_ml (xs ys : List Int) : (ml xs ys).length ≤ xs.length + ys.length := Nat.le_trans (tr_len _) (by rw [of_len]; exact Nat.le_refl _)
theorem len_pl (xs ys : List Int) : (pl xs ys).length ≤ xs.length + ys.length := Nat.le_trans (tr_len _) (by rw [of_len]; exact Nat.le_refl _)
theorem pl_comm (xs ys : List Int) : pl xs ys = pl ys xs := by
  unfold pl
  rw [Nat.add_comm]
  exact congrArg tr (of_congr fun _ _ => Int.add_comm _ _)
theorem TAt.kp {H H' : Hp} {a d c : Addr} {cells xs : List Int} {B : Nat} (h : TAt H a xs) (F : FeedAt H d c cells B) (k : Kp d H H') : TAt H' a xs := k _ _ (F.neT h) h
/-- two tuples of whole numbers put together -/
theorem catK {K : PySem.W.Frag} {H : Hp} {a b : Addr} {xs ys : List Int} {Q : V → Hp → Prop} (ha : TAt H a xs) (hb : TAt H b ys) (hl : xs.length + ys.length ≤ 100000) (k : ∀ (u : Addr) (H' : Hp), Same H H' → TAt H' u (xs ++ ys) → Q (.ref u) H') : rCatA K (.ref a) (.ref b) H Q := by
  refine ⟨a, b, _, _, rfl, rfl, ha.sq, hb.sq, ?_, fun e => ?_, fun _ e => ?_, fun _ _ p hp => ?_⟩
  · rw [List.length_map, List.length_map, sizeLine_eq]
    omega
  · have e0 : xs = [] := List.map_eq_nil_iff.mp e
    subst e0
    exact k b H (Same.refl _) hb
  · have e0 : ys = [] := List.map_eq_nil_iff.mp e
    subst e0
    exact k a H (Same.refl _) (by rw [List.append_nil]; exact ha)
  · refine k p _ (same_new hp) ?_
    show upd _ p _ p = _
    rw [upd_same, List.map_append]
/-- a tuple of one number many times -/
theorem repK {H : Hp} {t : Addr} {x : Int} {m : Nat} {i : Int} {Q : V → Hp → Prop} (ht : TAt H t [x]) (hi : i = (m : Int)) (hm : m ≤ 1000) (k : ∀ (u : Addr) (H' : Hp), Same H H' → TAt H' u (List.replicate m x) → Q (.ref u) H') : rRepN (.ref t) (.int i) H Q := by
  subst hi
  refine ⟨t, _, m, rfl, rfl, ht, by simp, hm, (by show 1 ≤ 1000; decide), fun p H' sm hp => k p H' sm ?_⟩
  rw [show List.map V.int [x] = [V.int x] from rfl, rep_flat] at hp
  exact hp
theorem _root_.Gd.okD_tup {ds : List PyData} {k n m : Nat} (h : OkA ds k n) (hk : k ≤ 19) (hm : n + 3 ≤ m) : OkD (.tuple ds) m := by
  have h3 := h.dp
  have h4 := h.co
  refine ⟨by simp [PyData.showable, h.sh], by simp [PyData.hasDict, h.nd], ?_, ?_⟩
  · simp only [PyData.depth]
    omega
  · simp only [cost]
    omega
end K2

set_option Elab.async false
set_option linter.all false
set_option maxRecDepth 100000
namespace Gd
open PySem PySem.Spec PyProof.Rows L2

/-- the law's end from such a promise: what an abstract heap that tracks at most the script gives -/
theorem endGD {P : Program} {w : World} {K : PySem.W.Frag} {mg mb : Str → Option Value} {k : Nat} {fa a : Addr} {fd : FuncData} {x : Str} {sp : Sp} {s1 : Shared} {vs : List Value} {H : Hp}
    (kin : K.In s1.heap) (glob : s1.heap.Ns mainGlobals mg) (bn : s1.heap.Ns builtinsNs mb) (bb : ∀ x : Str, x ≠ "__name__" → mb x = bootBuiltins x) (lim : s1.heap.NoLimit) (dig : s1.heap.NoDigits) (gens : s1.gens = #[])
    (hat : s1.heap.get? a = some { cls := .type "list", data := .seq vs.toArray }) (hr : Room k callerA)
    (F : ∀ base : Heap, K.In base → base.Ns mainGlobals mg → base.NoDigits → FnG P w K mg base k fa fd [x] sp) (bind : ∀ (s : Shared) (u : Value), BindsTo s fd ⟨[u], []⟩ [(x, u)])
    (sps : sp [.ref a] H (fun v _ => v = .bl true) fun _ _ _ => False) (only : Only H) (ok : HOk P w H s1.heap) (isA : ∀ b, H b ≠ none → b = a) (noK : H a ≠ none → K.lookup a = none) :
    codeAny (model P w) callerA (.call (.ref fa) ⟨[.ref a], []⟩) (fun r s' => r = .ok (.ret (.bool true)) ∧ OldK s1.heap s'.heap ∧ s'.os = s1.os ∧ AllBare s'.gens) s1 := by
  have none_of : ∀ {b : Addr}, b ≠ a → H b = none := fun {b} hb => by
    cases q : H b with
    | none => rfl
    | some u => exact absurd (isA b (by rw [q]; exact Option.some_ne_none u)) hb
  have none_dict : ∀ {b : Addr} {o : Obj} {es : Array DictEntry} {n : Nat}, s1.heap.get? b = some o → o.data = .dict es n → H b = none := by
    intro b o es n e d
    refine none_of fun z => ?_
    subst z
    cases hat.symm.trans e
    cases d
  have ns_of : ∀ {b : Addr} {m : Str → Option Value}, s1.heap.Ns b m → (hidT s1.heap H).Ns b m := by
    rintro b m ⟨o, es, n, e, d, more⟩
    exact ⟨o, es, n, hidT_get e (none_dict e d), d, more⟩
  have kinB : K.In (hidT s1.heap H) := by
    intro b o e
    refine hidT_get (kin b o e) ?_
    by_cases hb : b = a
    · subst hb
      cases q : H b with
      | none => rfl
      | some u =>
        have z := noK (by rw [q]; exact Option.some_ne_none u)
        rw [z] at e
        cases e
    · exact none_of hb
  have md : Mod K mg (hidT s1.heap H) := ⟨kinB, ns_of glob, ⟨mb, ns_of bn, bb⟩, let ⟨mc, c1, c2⟩ := lim; ⟨mc, ns_of c1, c2⟩⟩
  have e0 : Env0 P w K mg (hidT s1.heap H) callerA [] s1 H :=
    { frames := rfl, mod := md, bs := fun b o e => of_hidT e, bsz := Nat.le_of_eq (hidT_size _ _), funs := trivial, frf := fun _ z => (List.not_mem_nil z).elim, hok := ok, bare := .of_eq gens }
  refine codeAny_mono ((F _ kinB (ns_of glob) (let ⟨mc, c1, c2⟩ := dig; ⟨mc, ns_of c1, c2⟩)).go (us := [.ref a]) (vs := [.ref a]) hr rfl e0 (bind s1 (.ref a)) (.cons rfl .nil) sps) fun r s' h => ?_
  match r, h with
  | .error _, h => exact h.elim
  | .ok .next, h => exact h.elim
  | .ok .brk, h => exact h.elim
  | .ok .cont, h => exact h.elim
  | .ok (.ret u), ⟨v, H', os, bare, un, ok', rv, (hv : v = .bl true)⟩ =>
    subst hv
    obtain rfl : u = Value.bool true := rv
    refine ⟨rfl, OldK.of_keep fun b o e => ?_, os, bare⟩
    rcases only b with z | ⟨ob, xs, z⟩
    · exact un.keep b o e z List.not_mem_nil List.not_mem_nil
    · have e1 := (ok b _ z).1
      have e2 := (ok' b _ (un.frzs b ob _ z)).1
      exact e2.trans (e1.symm.trans e)

theorem walkGD {l : PySem.W.OpenLaw} {n k : Nat} {q : Program} {loose : List Str} {XP : (Str → Option Value) → Heap → Prop} {YP : World → Heap → Prop} {d : DefRec} {K : Params → PySem.W.Frag} {sp : PySem.W.Frag → Sp} {x : Str}
    (hn : l.most = some n) (hn2 : n ≤ sizeLine) (hdf : d.params.defaults = []) (hr : Room k callerA)
    (hY : ∀ (w : World) (h : Heap), YP w h → (K w.params).In h)
    (F : ∀ (w : World) (mg : Str → Option Value) (fa : Addr) (h : Heap), (K w.params).In h → h.Ns mainGlobals mg → mg d.name = some (.ref fa) →
      ∃ fd : FuncData, (∀ (s : Shared) (u : Value), BindsTo s fd ⟨[u], []⟩ [(x, u)]) ∧
        ∀ base : Heap, (K w.params).In base → base.Ns mainGlobals mg → base.NoDigits → FnG l.prog w (K w.params) mg base k fa fd [x] (sp (K w.params)))
    (hsp : ∀ (K : PySem.W.Frag) (H : Hp) (a : Addr) (ns : List Int), ns.length ≤ n → Only H → SqL K H a (ns.map V.int) → sp K [.ref a] H (fun v _ => v = .bl true) fun _ _ _ => False) :
    PySem.W.WalkO q loose XP YP l.row.toRowW d [] (fun f vs => PySem.call f vs) := by
  refine Att.attach_call hn hdf fun w s0 s1 mg mb fa o pm cd doc a vs ns G Y ho hd hcd hmg hobj hints hlen hg => ?_
  have kin := hY w _ Y
  obtain ⟨fd, hb, hF⟩ := F w mg fa _ kin G.T.g hmg
  have rv := vals_ints hints
  have hz : ns.length ≤ sizeLine := Nat.le_trans hlen hn2
  cases hk : (K w.params).lookup a with
  | some ob =>
    have e := (kin a ob hk).symm.trans hobj
    cases e
    refine endGD (H := fun _ => none) kin G.T.g G.T.b G.T.builtins G.T.nolimit G.T.nodigits hg hobj hr hF hb (hsp _ _ a ns hlen (fun _ => .inl rfl) (.inr ⟨_, vs.toArray, _, hk, rfl, rfl, rfl, ?_, rv⟩)) (fun _ => .inl rfl) (fun b u z => nomatch z) (fun b z => (z rfl).elim) (fun z => (z rfl).elim)
    rw [List.size_toArray, hints.length]
    exact hz
  | none =>
    have at_a : ∀ b, b = a → (if b = a then some (HO.frz { cls := .type "list", data := .seq vs.toArray } (.lst (ns.map V.int))) else none) = some (HO.frz { cls := .type "list", data := .seq vs.toArray } (.lst (ns.map V.int))) := fun b hb => if_pos hb
    refine endGD (H := fun b => if b = a then some (.frz { cls := .type "list", data := .seq vs.toArray } (.lst (ns.map V.int))) else none) kin G.T.g G.T.b G.T.builtins G.T.nolimit G.T.nodigits hg hobj hr hF hb
      (hsp _ _ a ns hlen ?only (.inl (.inr ⟨_, if_pos rfl⟩))) ?only (fun b u z => ?_) (fun b z => ?_) (fun _ => hk)
    case only =>
      intro b
      by_cases hb : b = a
      · exact .inr ⟨_, _, if_pos hb⟩
      · exact .inl (if_neg hb)
    · by_cases hb : b = a
      · subst hb
        cases (if_pos rfl).symm.trans z
        refine ⟨hobj, ?_, vs, _, rv, hobj⟩
        rw [List.length_map]
        exact hz
      · cases (if_neg hb).symm.trans z
    · exact Classical.byContradiction fun hb => z (if_neg hb)
end Gd

set_option Elab.async false
set_option linter.all false
set_option maxRecDepth 100000
set_option maxHeartbeats 4000000
set_option exponentiation.threshold 20000
namespace K2
open PySem PySem.Spec PyProof.Rows L2 Gd Pv RZ Po Nm
section
variable {P : Program} {w : World} {K : PySem.W.Frag} {mg : Str → Option Value} {base : Heap}
def exX (xs ds : List Int) : TX := if rs xs ds = [] then .t (qs xs ds) else .n
def spExactX : Sp := fun vs H Q _ => ∃ (a b : Addr) (xs ds : List Int) (c e : Nat), vs = [.ref a, .ref b] ∧ TAt H a xs ∧ TAt H b ds ∧ Nf xs ∧ Mo ds ∧ xs.length ≤ 1000 ∧ ds.length ≤ 1000 ∧ Bd c xs ∧ Bd e ds ∧ 0 < e ∧ c + xs.length * (e + 1) + 1 + e ≤ 90000 ∧
  ∀ v H', Same H H' → OneX H' v (exX xs ds) → Q v H'
theorem exK {vs : List V} {H : Hp} {Q : VK} {E : XK} (h : spExactX vs H Q E) : spExact vs H Q E := by
  obtain ⟨a, b, xs, ds, c, e, rfl, ha, hb, nx, mo, lx, ld, bx, bd, e0, hcd, k⟩ := h
  exact ⟨a, b, xs, ds, c, e, rfl, ha, hb, nx, mo, lx, ld, bx, bd, e0, hcd, fun z p H' s e => k _ H' s (by unfold exX; rw [if_pos z]; exact ⟨p, rfl, e⟩), fun z H' s => k _ H' s (by unfold exX; rw [if_neg z]; rfl)⟩
def spRows : Sp := fun vs H Q _ => ∃ (d c : Addr) (cells : List Int) (B : Nat), vs = [.ref d] ∧ FeedAt H d c cells B ∧ B ≤ 40000 ∧ ∀ H', FeedAt H' d c cells (B + 30) → Kp d H H' → Q (.bl true) H'
theorem c__law_are_rows_right (D : At K mg "_law_are_rows_right" s__law_are_rows_right ["_law_feed_here"]) (c__law_row : Cal P w K mg base 3 "_law_row" spRow) (c__law_base : Cal P w K mg base 4 "_law_base" spBase) (c_times : Cal P w K mg base 4 "times" spTimes) (c_plus : Cal P w K mg base 4 "plus" spPlus)
    (c__law_times : Cal P w K mg base 2 "_law_times" spTimes) (c__law_sum : Cal P w K mg base 2 "_law_sum" spPlus) (c__law_split : Cal P w K mg base 2 "_law_split" spDiv) (c_rest_by : Cal P w K mg base 4 "rest_by" spRest) (c_exact_by : Cal P w K mg base 4 "exact_by" spExact)
    (c__law_any : Cal P w K mg base 2 "_law_any" spAny) (c_value_at : Cal P w K mg base 4 "value_at" spValue) (c__law_value : Cal P w K mg base 1 "_law_value" spValue) (c__law_same : CalG P w K mg base 1 "_law_same" ["_law_told", "_law_due"] (spSameW K)) :
    CalG P w K mg base 5 "_law_are_rows_right" ["_law_feed_here"] spRows := by
  refine okCG D sc__law_are_rows_right (fun vs H Q E h => ?_) (fun f cdv A outer s H vs Q E hr hG h => ?_)
  · obtain ⟨d, c, cells, B, rfl, _⟩ := h
    rfl
  · obtain ⟨d, c, cells, B, rfl, F, hB, q⟩ := h
    have c_exact_by := c_exact_by.imp (sp' := spExactX) fun _ _ _ _ z => exK z
    have nd := sc__law_are_rows_right.nd
    have hu64 := hr.units
    refine ⟨_, (pss_cons (ps_par (i := 5) (j := 6) rfl nd rfl rfl (by decide) rfl rfl (pa_cons (pe_k c__law_row hr (by decide) (by rfl) (pa_cons (pv 0) pa_nil)) (pa_cons (pe_k c__law_row hr (by decide) (by rfl) (pa_cons (pv 0) pa_nil)) pa_nil)) rfl)
 (pss_cons (ps_set (i := 1) nd rfl (.inl rfl) (pe_k c__law_base hr (by decide) (by rfl) (pa_cons (pv 0) pa_nil)))
 (pss_cons (ps_set (i := 2) nd rfl (.inl rfl) (pe_lst (pa_cons (pe_k c_times hr (by decide) (by rfl) (pa_cons (pv 5) (pa_cons (pv 6) pa_nil))) (pa_cons (pe_k c_times hr (by decide) (by rfl) (pa_cons (pv 6) (pa_cons (pv 5) pa_nil))) pa_nil))))
 (pss_cons (ps_expr (pe_bm PySem.F.plainAttrs_list PySem.F.slot_list_append PySem.F.type_list_append mt_append (pv 2) (pa_cons (pe_k c_plus hr (by decide) (by rfl) (pa_cons (pv 5) (pa_cons (pv 6) pa_nil))) pa_nil)))
 (pss_cons (ps_set (i := 2) nd rfl (.inl rfl) (pe_op op_cat (pv 2) (pe_lst (pa_cons (pe_k c_plus hr (by decide) (by rfl) (pa_cons (pv 5) (pa_cons (pe_tup pa_nil) pa_nil))) (pa_cons (pe_k c_times hr (by decide) (by rfl) (pa_cons (pv 5) (pa_cons (pe_tup pa_nil) pa_nil))) pa_nil)))))
 (pss_cons (ps_par (i := 7) (j := 8) rfl nd rfl rfl (by decide) rfl rfl (pa_cons (pe_k c__law_times hr (by decide) (by rfl) (pa_cons (pv 5) (pa_cons (pv 6) pa_nil))) (pa_cons (pe_k c__law_sum hr (by decide) (by rfl) (pa_cons (pv 5) (pa_cons (pv 6) pa_nil))) pa_nil)) rfl)
 (C8.pss_cut (ps_if (pt_not (pt_val (pe_kG c__law_same hr hG (by decide) (by rfl) (pa_cons (pv 2) (pa_cons (pe_lst (pa_cons (pv 7) (pa_cons (pv 7) (pa_cons (pv 8) (pa_cons (pv 5) (pa_cons (pe_tup pa_nil) pa_nil)))))) pa_nil)))))
 (pss_one (ps_ret pe_bl))
 pss_nil)
 (pss_cons (ps_asg (pe_k c__law_split hr (by decide) (by rfl) (pa_cons (pv 5) (pa_cons (pv 1) pa_nil))) (pg_tup rfl (pgs_cons (pg_name (i := 3) nd rfl (.inl rfl)) (pgs_cons (pg_name (i := 9) nd rfl (.inl rfl)) pgs_nil))))
 (pss_cons (ps_par (i := 10) (j := 2) rfl nd rfl rfl (by decide) rfl rfl (pa_cons (pe_k c_times hr (by decide) (by rfl) (pa_cons (pv 5) (pa_cons (pv 1) pa_nil))) (pa_cons (pe_lst (pa_cons (pe_k c_rest_by hr (by decide) (by rfl) (pa_cons (pv 5) (pa_cons (pv 1) pa_nil))) pa_nil)) pa_nil)) rfl)
 (pss_cons (ps_expr (pe_bm PySem.F.plainAttrs_list PySem.F.slot_list_append PySem.F.type_list_append mt_append (pv 2) (pa_cons (pe_k c_exact_by hr (by decide) (by rfl) (pa_cons (pv 5) (pa_cons (pv 1) pa_nil))) pa_nil)))
 (pss_cons (ps_set (i := 2) nd rfl (.inl rfl) (pe_op op_cat (pv 2) (pe_lst (pa_cons (pe_k c_exact_by hr (by decide) (by rfl) (pa_cons (pv 10) (pa_cons (pv 1) pa_nil))) (pa_cons (pe_k c_rest_by hr (by decide) (by rfl) (pa_cons (pv 10) (pa_cons (pv 1) pa_nil))) pa_nil)))))
 (C8.pss_cut (ps_set (i := 3) nd rfl (.inl rfl) (pe_ifExp (pt_cmpR (op_eqD hu64) (pv 9) (pe_tup pa_nil) (nomark _)) (pv 3) pe_non))
 (C8.pss_cut (ps_if (pt_not (pt_val (pe_kG c__law_same hr hG (by decide) (by rfl) (pa_cons (pv 2) (pa_cons (pe_lst (pa_cons (pv 9) (pa_cons (pv 3) (pa_cons (pv 5) (pa_cons (pe_tup pa_nil) pa_nil))))) pa_nil)))))
 (pss_one (ps_ret pe_bl))
 pss_nil)
 (pss_cons (ps_set (i := 2) nd rfl (.inl rfl) (pe_lst (pa_cons (pe_k c_rest_by hr (by decide) (by rfl) (pa_cons (pv 5) (pa_cons (pe_tup (pa_cons pe_int pa_nil)) pa_nil))) (pa_cons (pe_k c_exact_by hr (by decide) (by rfl) (pa_cons (pv 5) (pa_cons (pe_tup (pa_cons pe_int pa_nil)) pa_nil))) pa_nil))))
 (pss_cons (ps_set (i := 2) nd rfl (.inl rfl) (pe_op op_cat (pv 2) (pe_lst (pa_cons (pe_k c_exact_by hr (by decide) (by rfl) (pa_cons (pe_tup pa_nil) (pa_cons (pv 1) pa_nil))) (pa_cons (pe_k c_rest_by hr (by decide) (by rfl) (pa_cons (pe_tup pa_nil) (pa_cons (pv 1) pa_nil))) pa_nil)))))
 (C8.pss_cut (ps_if (pt_not (pt_val (pe_kG c__law_same hr hG (by decide) (by rfl) (pa_cons (pv 2) (pa_cons (pe_lst (pa_cons (pe_tup pa_nil) (pa_cons (pv 5) (pa_cons (pe_tup pa_nil) (pa_cons (pe_tup pa_nil) pa_nil))))) pa_nil)))))
 (pss_one (ps_ret pe_bl))
 pss_nil)
 (pss_cons (ps_set (i := 4) nd rfl (.inl rfl) (pe_k c__law_any hr (by decide) (by rfl) (pa_cons (pv 0) (pa_cons (pe_lst (pa_cons pe_int (pa_cons pe_int (pa_cons (pe_un un_neg pe_int) (pa_cons pe_int (pa_cons (pe_un un_neg pe_int) (pa_cons pe_int (pa_cons (pe_op op_pow pe_int pe_int) pa_nil)))))))) pa_nil))))
 (pss_cons (ps_set (i := 2) nd rfl (.inl rfl) (pe_lst (pa_cons (pe_k c_value_at hr (by decide) (by rfl) (pa_cons (pv 5) (pa_cons (pv 4) pa_nil))) (pa_cons (pe_k c_value_at hr (by decide) (by rfl) (pa_cons (pe_tup pa_nil) (pa_cons (pv 4) pa_nil))) pa_nil))))
 (pss_cons (ps_expr (pe_bm PySem.F.plainAttrs_list PySem.F.slot_list_append PySem.F.type_list_append mt_append (pv 2) (pa_cons (pe_k c_value_at hr (by decide) (by rfl) (pa_cons (pe_k c_times hr (by decide) (by rfl) (pa_cons (pv 5) (pa_cons (pv 6) pa_nil))) (pa_cons (pv 4) pa_nil))) pa_nil)))
 (pss_cons (ps_par (i := 11) (j := 12) rfl nd rfl rfl (by decide) rfl rfl (pa_cons (pe_k c__law_value hr (by decide) (by rfl) (pa_cons (pv 5) (pa_cons (pv 4) pa_nil))) (pa_cons (pe_k c__law_value hr (by decide) (by rfl) (pa_cons (pv 6) (pa_cons (pv 4) pa_nil))) pa_nil)) rfl)
 (pss_one (ps_ret (pe_kG c__law_same hr hG (by decide) (by rfl) (pa_cons (pv 2) (pa_cons (pe_lst (pa_cons (pv 11) (pa_cons pe_int (pa_cons (pe_op op_mulW (pv 11) (pv 12)) pa_nil)))) pa_nil))))))))))))))))))))))))), ?_⟩
    refine ⟨_, rfl, d, c, cells, B, rfl, F, by omega, fun xs pX H1 nX lX bX F1 k1 eX => ?_⟩
    refine ⟨_, rfl, d, c, cells, B + 11, rfl, F1, by omega, fun ys pY H2 nY lY bY F2 k2 eY => ?_⟩
    replace eX := eX.kp F1 k2
    refine ⟨_, _, rfl, ?_⟩
    refine ⟨_, rfl, d, c, cells, B + 11 + 11, rfl, F2, by omega, fun ds pD H3 mD lD bD F3 k3 eD => ?_⟩
    replace eX := eX.kp F2 k3
    replace eY := eY.kp F2 k3
    have k03 := (k1.trans k2).trans k3
    clear k1 k2 k3 F1 F2
    have bM := bd_ml bX bY (by omega)
    have lM := len_ml xs ys
    have lZ := len_ml xs ds
    have bZ := bd_ml bX bD (by omega)
    have lP := len_pl xs ys
    -- products and sums
    refine ⟨_, rfl, _, rfl, pX, pY, xs, ys, 137, 137, rfl, eX, eY, nX, nY, by omega, by omega, bX, bY, by decide, by decide, by decide, fun p1 H4 s4 e1 => ?_⟩
    refine ⟨_, rfl, _, rfl, pY, pX, ys, xs, 137, 137, rfl, eY.same s4, eX.same s4, nY, nX, by omega, by omega, bY, bX, by decide, by decide, by decide, fun p2 H5 s5 e2 => ⟨(by show 2 ≤ sizeLine; decide), fun l1 hl1 => ?_⟩⟩
    rw [ml_comm] at e2
    have s35 := s4.trans s5
    have A1 : AllX H5 [V.ref p1, .ref p2] [.t (ml xs ys), .t (ml xs ys)] := ⟨⟨p1, rfl, e1.same s5⟩, ⟨p2, rfl, e2⟩, trivial⟩
    replace eX := eX.same s35
    replace eY := eY.same s35
    replace eD := eD.same s35
    replace F3 := F3.same s35
    replace k03 := k03.trans s35.kp
    clear s4 s5 s35 e1 e2
    have sl := same_new (o := .lst [V.ref p1, .ref p2]) hl1
    have el : (upd H5 l1 (.lst [V.ref p1, .ref p2])) l1 = some (.lst [V.ref p1, .ref p2]) := upd_same
    generalize upd H5 l1 (.lst [V.ref p1, .ref p2]) = H6 at *
    refine ⟨_, rfl, .inl ⟨rfl, _, .inl (.inl el)⟩, ?_⟩
    refine ⟨_, rfl, _, rfl, pX, pY, xs, ys, rfl, eX.same sl, eY.same sl, nX, nY, by omega, by omega, fun p3 H7 s7 e3 => ?_⟩
    refine ⟨l1, _, _, rfl, rfl, s7 _ _ el, (by show 2 < sizeLine; decide), ?_⟩
    have so : Same H5 (upd H7 l1 (.lst ([V.ref p1, .ref p2] ++ [.ref p3]))) := same_own (sl.trans s7) hl1
    have A2 := (A1.same so).append (us := [V.ref p3]) (es := [.t (pl xs ys)]) ⟨⟨p3, rfl, e3.own (s7 _ _ el)⟩, trivial⟩
    have el2 : (upd H7 l1 (.lst ([V.ref p1, .ref p2] ++ [.ref p3]))) l1 = some (.lst ([V.ref p1, .ref p2] ++ [.ref p3])) := upd_same
    replace eX := eX.same so
    replace eY := eY.same so
    replace eD := eD.same so
    replace F3 := F3.same so
    replace k03 := k03.trans so.kp
    generalize upd H7 l1 (.lst ([V.ref p1, .ref p2] ++ [.ref p3])) = H8 at *
    clear A1 so sl s7 e3 el hl1
    -- told + [plus(first, ()), times(first, ())]
    refine ⟨_, rfl, _, rfl, (by show 0 ≤ sizeLine; decide), fun t1 ht1 => ?_⟩
    have s9 := same_new (o := .tup []) ht1
    have et : TAt (upd H8 t1 (.tup [])) t1 [] := upd_same
    refine ⟨pX, t1, xs, [], rfl, eX.same s9, et, nX, .inl rfl, by omega, by decide, fun p4 H10 s10 e4 => ?_⟩
    rw [pl_nil nX] at e4
    replace s10 := s9.trans s10
    refine ⟨_, rfl, (by show 0 ≤ sizeLine; decide), fun t2 ht2 => ?_⟩
    have s11 := same_new (o := .tup []) ht2
    have et2 : TAt (upd H10 t2 (.tup [])) t2 [] := upd_same
    refine ⟨pX, t2, xs, [], 137, 137, rfl, (eX.same s10).same s11, et2, nX, .inl rfl, by omega, by decide, bX, bd_nil _, by decide, by decide, by decide, fun p5 H12 s12 e5 => ⟨(by show 2 ≤ sizeLine; decide), fun l2 hl2 => ?_⟩⟩
    rw [ml_nil] at e5
    replace s12 := s11.trans s12
    have s13 := same_new (o := .lst [V.ref p4, .ref p5]) hl2
    have el3 : (upd H12 l2 (.lst [V.ref p4, .ref p5])) l2 = some (.lst [V.ref p4, .ref p5]) := upd_same
    replace s13 := s12.trans s13
    have s813 := s10.trans s13
    refine ⟨l1, l2, _, _, rfl, rfl, s813 _ _ el2, el3, (by show 5 ≤ sizeLine; decide), fun l3 hl3 => ?_⟩
    have s14 := same_new (o := .lst (([V.ref p1, .ref p2] ++ [V.ref p3]) ++ [V.ref p4, .ref p5])) hl3
    have A3 := ((A2.same s813).append (us := [V.ref p4, .ref p5]) (es := [.t xs, .t []]) ⟨⟨p4, rfl, e4.same s13⟩, ⟨p5, rfl, e5.same (same_new hl2)⟩, trivial⟩).same s14
    have el4 : (upd (upd H12 l2 (.lst [V.ref p4, .ref p5])) l3 (.lst (([V.ref p1, .ref p2] ++ [V.ref p3]) ++ [V.ref p4, .ref p5]))) l3 = some (.lst (([V.ref p1, .ref p2] ++ [V.ref p3]) ++ [V.ref p4, .ref p5])) := upd_same
    replace s14 := s813.trans s14
    generalize upd (upd H12 l2 (.lst [V.ref p4, .ref p5])) l3 (.lst (([V.ref p1, .ref p2] ++ [V.ref p3]) ++ [V.ref p4, .ref p5])) = H15 at *
    replace eX := eX.same s14
    replace eY := eY.same s14
    replace eD := eD.same s14
    replace F3 := F3.same s14
    replace k03 := k03.trans s14.kp
    clear A2 el2 s9 et s10 e4 s11 et2 s12 e5 s13 el3 s813 s14 ht1 ht2 hl2 hl3
    -- the law's own
    refine ⟨_, rfl, _, rfl, pX, pY, xs, ys, 137, 137, rfl, eX, eY, nX, nY, by omega, by omega, bX, bY, by decide, by decide, by decide, fun q1 H16 s16 f1 => ?_⟩
    refine ⟨_, rfl, _, rfl, pX, pY, xs, ys, rfl, eX.same s16, eY.same s16, nX, nY, by omega, by omega, fun q2 H17 s17 f2 => ⟨_, _, rfl, ?_⟩⟩
    have s18 := s16.trans s17
    refine ⟨fun σ H' => ∃ (v2 v7 v8 : Option V), σ = [some (.ref d), some (.ref pD), v2, none, none, some (.ref pX), some (.ref pY), v7, v8, none, none, none, none] ∧ Same H17 H', ?_, ?_⟩
    · refine ⟨_, rfl, _, rfl, _, rfl, _, rfl, _, rfl, (by show 0 ≤ sizeLine; decide), fun t1 ht1 => ⟨(by show 5 ≤ sizeLine; decide), fun l4 hl4 => ?_⟩⟩
      have s19 := same_new (o := .tup []) ht1
      have et : TAt (upd H17 t1 (.tup [])) t1 [] := upd_same
      have s20 := same_new (o := .lst [V.ref q1, .ref q1, .ref q2, .ref pX, .ref t1]) hl4
      have el5 : (upd (upd H17 t1 (.tup [])) l4 (.lst [V.ref q1, .ref q1, .ref q2, .ref pX, .ref t1])) l4 = some (.lst [V.ref q1, .ref q1, .ref q2, .ref pX, .ref t1]) := upd_same
      generalize upd (upd H17 t1 (.tup [])) l4 (.lst [V.ref q1, .ref q1, .ref q2, .ref pX, .ref t1]) = H21 at *
      have s21 := s19.trans s20
      have g1 := (f1.same s17).same s21
      have A4 : AllX H21 [V.ref q1, .ref q1, .ref q2, .ref pX, .ref t1] [.t (ml xs ys), .t (ml xs ys), .t (pl xs ys), .t xs, .t []] := ⟨⟨q1, rfl, g1⟩, ⟨q1, rfl, g1⟩, ⟨q2, rfl, f2.same s21⟩, ⟨pX, rfl, (eX.same s18).same s21⟩, ⟨t1, rfl, et.same s20⟩, trivial⟩
      have s1521 := s18.trans s21
      have ok : OkW (([.t (ml xs ys), .t (ml xs ys), .t (pl xs ys), .t xs, .t []] : List TX).map TX.data) 2 (172125 * 5) := okTXs fun x hx => by
        simp only [List.mem_cons, List.not_mem_nil, or_false] at hx
        rcases hx with rfl | rfl | rfl | rfl | rfl
        · exact TX.ok_t bM (by decide) (by omega)
        · exact TX.ok_t bM (by decide) (by omega)
        · exact TX.ok_t (bd_pl bX bY) (by decide) (by omega)
        · exact TX.ok_t bX (by decide) (by omega)
        · exact TX.ok_t (bd_nil 1) (by decide) (by decide)
      refine ⟨l3, l4, _, _, _, rfl, .lst (.inl (.inl (s1521 _ _ el4))) (A3.same s1521).dp, .lst (.inl (.inl el5)) A4.dp, ok.mono (by decide), by decide, ?_⟩
      refine ⟨_, rfl, iteF ?_⟩
      exact ⟨_, _, _, rfl, s21⟩
    replace eX := eX.same s18
    replace eY := eY.same s18
    replace eD := eD.same s18
    replace F3 := F3.same s18
    replace k03 := k03.trans s18.kp
    clear A3 el4 f1 f2 s16 s17 s18
    rintro σ H18 ⟨v2, v7, v8, rfl, s18⟩
    replace eX := eX.same s18
    replace eY := eY.same s18
    replace eD := eD.same s18
    replace F3 := F3.same s18
    replace k03 := k03.trans s18.kp
    clear s18
    -- the division
    refine ⟨_, rfl, _, rfl, pX, pD, xs, ds, 137, 137, rfl, eX, eD, mD.len, by omega, by omega, bX, bD, by decide, by omega, fun t p1 p2 H19 s19 et e1 e2 => ?_⟩
    refine ⟨t, _, rfl, .inl (.inl et), rfl, _, _, rfl, _, _, rfl, rfl, ?_⟩
    refine ⟨_, rfl, _, rfl, pX, pD, xs, ds, 137, 137, rfl, eX.same s19, eD.same s19, nX, mD.nf, by omega, by omega, bX, bD, by decide, by decide, by decide, fun pM H20 s20 eM => ?_⟩
    have s1820 := s19.trans s20
    refine ⟨_, rfl, _, rfl, pX, pD, xs, ds, 137, 137, rfl, eX.same s1820, eD.same s1820, nX, mD, by omega, by omega, bX, bD, by decide, by omega, fun p3 H21 s21 e3 => ⟨(by show 1 ≤ sizeLine; decide), fun l1 hl1 => ?_⟩⟩
    have s1821 := s1820.trans s21
    have s2021 := s20.trans s21
    replace eX := eX.same s1821
    replace eY := eY.same s1821
    replace eD := eD.same s1821
    replace F3 := F3.same s1821
    replace k03 := k03.trans s1821.kp
    replace e1 := e1.same s2021
    replace e2 := e2.same s2021
    replace eM := eM.same s21
    have A1 : AllX H21 [V.ref p3] [.t (rs xs ds)] := ⟨⟨p3, rfl, e3⟩, trivial⟩
    clear s19 s20 s21 s1820 s1821 s2021 e3 et
    refine ⟨_, _, rfl, ?_⟩
    have sl := same_new (o := .lst [V.ref p3]) hl1
    have el : (upd H21 l1 (.lst [V.ref p3])) l1 = some (.lst [V.ref p3]) := upd_same
    generalize upd H21 l1 (.lst [V.ref p3]) = H22 at *
    refine ⟨_, rfl, .inl ⟨rfl, _, .inl (.inl el)⟩, ?_⟩
    refine ⟨_, rfl, _, rfl, pX, pD, xs, ds, 137, 137, rfl, eX.same sl, eD.same sl, nX, mD, by omega, by omega, bX, bD, by decide, by omega, fun v4 H23 s23 e4 => ?_⟩
    refine ⟨l1, _, _, rfl, rfl, s23 _ _ el, (by show 1 < sizeLine; decide), ?_⟩
    have so : Same H21 (upd H23 l1 (.lst ([V.ref p3] ++ [v4]))) := same_own (sl.trans s23) hl1
    have A2 := (A1.same so).append (us := [v4]) (es := [exX xs ds]) ⟨e4.own (s23 _ _ el), trivial⟩
    have el2 : (upd H23 l1 (.lst ([V.ref p3] ++ [v4]))) l1 = some (.lst ([V.ref p3] ++ [v4])) := upd_same
    generalize upd H23 l1 (.lst ([V.ref p3] ++ [v4])) = H24 at *
    replace eX := eX.same so
    replace eY := eY.same so
    replace eD := eD.same so
    replace F3 := F3.same so
    replace k03 := k03.trans so.kp
    replace e1 := e1.same so
    replace e2 := e2.same so
    replace eM := eM.same so
    clear A1 so sl s23 e4 el hl1
    -- told + [exact_by(more, base), rest_by(more, base)]
    obtain ⟨dq, dr⟩ := div_ml nX mD
    refine ⟨_, rfl, _, rfl, _, rfl, pM, pD, _, ds, _, 137, rfl, eM, eD, nf_tr _, mD, by omega, by omega, bZ, bD, by decide, by omega, fun v5 H25 s25 e5 => ?_⟩
    refine ⟨_, rfl, _, rfl, pM, pD, _, ds, _, 137, rfl, eM.same s25, eD.same s25, nf_tr _, mD, by omega, by omega, bZ, bD, by decide, by omega, fun p6 H26 s26 e6 => ⟨(by show 2 ≤ sizeLine; decide), fun l2 hl2 => ?_⟩⟩
    rw [dr] at e6
    rw [show exX (ml xs ds) ds = .t xs by unfold exX; rw [if_pos dr, dq]] at e5
    have s13 := same_new (o := .lst [v5, .ref p6]) hl2
    have el3 : (upd H26 l2 (.lst [v5, .ref p6])) l2 = some (.lst [v5, .ref p6]) := upd_same
    have s2427 := s25.trans (s26.trans s13)
    refine ⟨l1, l2, _, _, rfl, rfl, s2427 _ _ el2, el3, (by show 4 ≤ sizeLine; decide), fun l3 hl3 => ?_⟩
    have s14 := same_new (o := .lst (([V.ref p3] ++ [v4]) ++ [v5, .ref p6])) hl3
    have A3 := ((A2.same s2427).append (us := [v5, .ref p6]) (es := [.t xs, .t []]) ⟨e5.same (s26.trans s13), ⟨p6, rfl, e6.same s13⟩, trivial⟩).same s14
    have el4 : (upd (upd H26 l2 (.lst [v5, .ref p6])) l3 (.lst (([V.ref p3] ++ [v4]) ++ [v5, .ref p6]))) l3 = some (.lst (([V.ref p3] ++ [v4]) ++ [v5, .ref p6])) := upd_same
    replace s14 := s2427.trans s14
    generalize upd (upd H26 l2 (.lst [v5, .ref p6])) l3 (.lst (([V.ref p3] ++ [v4]) ++ [v5, .ref p6])) = H28 at *
    replace eX := eX.same s14
    replace eY := eY.same s14
    replace eD := eD.same s14
    replace F3 := F3.same s14
    replace k03 := k03.trans s14.kp
    replace e1 := e1.same s14
    replace e2 := e2.same s14
    clear A2 el2 s25 s26 e5 e6 s13 el3 s2427 s14 hl2 hl3
    -- what comes out
    refine ⟨fun σ H' => ∃ (v10 : Option V) (vC : V), σ = [some (.ref d), some (.ref pD), some (.ref l3), some vC, none, some (.ref pX), some (.ref pY), v7, v8, some (.ref p2), v10, none, none] ∧ Same H28 H' ∧ OneX H' vC (exX xs ds), ?_, ?_⟩
    · refine ⟨_, rfl, (by show 0 ≤ sizeLine; decide), fun z hz => ?_⟩
      have sz := same_new (o := .tup []) hz
      refine ⟨dT (rs xs ds), dT [], dpT (e2.same sz), dpT (show TAt _ z [] from upd_same), shT _, shT _, ?_⟩
      rw [eqT_nil]
      refine ⟨_, rfl, ite2 (fun y => ?_) (fun y => ?_)⟩
      · have z : exX xs ds = .t (qs xs ds) := if_pos (of_decide_eq_true y)
        rw [z]
        exact ⟨_, rfl, _, _, rfl, sz, _, rfl, e1.same sz⟩
      · have z : exX xs ds = .n := if_neg fun x => y (decide_eq_true x)
        rw [z]
        exact ⟨_, _, rfl, sz, rfl⟩
    rintro σ H29 ⟨v10, vC, rfl, s29, eC⟩
    replace eX := eX.same s29
    replace eY := eY.same s29
    replace eD := eD.same s29
    replace e2 := e2.same s29
    replace A3 := A3.same s29
    replace el4 := s29 _ _ el4
    replace F3 := F3.same s29
    replace k03 := k03.trans s29.kp
    clear s29 e1 eM
    have okX : (exX xs ds).Ok := by
      unfold exX
      by_cases z : rs xs ds = []
      · rw [if_pos z]
        exact TX.ok_t (bd_qs bX bD) (by omega) (Nat.le_trans (len_qs _ _) (by omega))
      · rw [if_neg z]
        trivial
    refine ⟨fun σ H' => σ = [some (.ref d), some (.ref pD), some (.ref l3), some vC, none, some (.ref pX), some (.ref pY), v7, v8, some (.ref p2), v10, none, none] ∧ Same H29 H', ?_, ?_⟩
    · refine ⟨_, rfl, _, rfl, _, rfl, _, rfl, (by show 0 ≤ sizeLine; decide), fun t1 ht1 => ⟨(by show 4 ≤ sizeLine; decide), fun l4 hl4 => ?_⟩⟩
      have s19 := same_new (o := .tup []) ht1
      have et : TAt (upd H29 t1 (.tup [])) t1 [] := upd_same
      have s20 := same_new (o := .lst [V.ref p2, vC, .ref pX, .ref t1]) hl4
      have el5 : (upd (upd H29 t1 (.tup [])) l4 (.lst [V.ref p2, vC, .ref pX, .ref t1])) l4 = some (.lst [V.ref p2, vC, .ref pX, .ref t1]) := upd_same
      generalize upd (upd H29 t1 (.tup [])) l4 (.lst [V.ref p2, vC, .ref pX, .ref t1]) = H31 at *
      have s21 := s19.trans s20
      have A4 : AllX H31 [V.ref p2, vC, .ref pX, .ref t1] [.t (rs xs ds), exX xs ds, .t xs, .t []] := ⟨⟨p2, rfl, e2.same s21⟩, eC.same s21, ⟨pX, rfl, eX.same s21⟩, ⟨t1, rfl, et.same s20⟩, trivial⟩
      have ok : OkW (([.t (rs xs ds), exX xs ds, .t xs, .t []] : List TX).map TX.data) 2 (172125 * 4) := okTXs fun x hx => by
        simp only [List.mem_cons, List.not_mem_nil, or_false] at hx
        rcases hx with rfl | rfl | rfl | rfl
        · exact TX.ok_t (bd_rs bX bD) (by omega) (Nat.le_trans (len_rs _ _) (by omega))
        · exact okX
        · exact TX.ok_t bX (by decide) (by omega)
        · exact TX.ok_t (bd_nil 1) (by decide) (by decide)
      refine ⟨l3, l4, _, _, _, rfl, .lst (.inl (.inl (s21 _ _ el4))) (A3.same s21).dp, .lst (.inl (.inl el5)) A4.dp, ok.mono (by decide), by decide, ?_⟩
      exact ⟨_, rfl, iteF ⟨rfl, s21⟩⟩
    rintro σ H30 ⟨rfl, s30⟩
    replace eX := eX.same s30
    replace eY := eY.same s30
    replace eD := eD.same s30
    replace F3 := F3.same s30
    replace k03 := k03.trans s30.kp
    clear s30 e2 A3 el4 eC okX
    -- by 1, and of nothing
    obtain ⟨oq, or⟩ := div_one nX
    obtain ⟨nq, nr⟩ := div_nil ds
    have ox : exX xs [1] = .t xs := by unfold exX; rw [if_pos or, oq]
    have nx : exX [] ds = .t [] := by unfold exX; rw [if_pos nr, nq]
    refine ⟨_, rfl, (by show 1 ≤ sizeLine; decide), fun t1 ht1 => ?_⟩
    have s31 := same_new (o := .tup [V.int 1]) ht1
    have et1 : TAt (upd H30 t1 (.tup [V.int 1])) t1 [1] := upd_same
    refine ⟨pX, t1, xs, [1], 137, 1, rfl, eX.same s31, et1, nX, mo_one, by omega, by decide, bX, fun x hx => by rw [List.mem_singleton.mp hx]; decide, by decide, by omega, fun p1 H32 s32 e1 => ?_⟩
    rw [or] at e1
    replace s32 := s31.trans s32
    refine ⟨_, rfl, (by show 1 ≤ sizeLine; decide), fun t2 ht2 => ?_⟩
    have s33 := same_new (o := .tup [V.int 1]) ht2
    have et2 : TAt (upd H32 t2 (.tup [V.int 1])) t2 [1] := upd_same
    refine ⟨pX, t2, xs, [1], 137, 1, rfl, (eX.same s32).same s33, et2, nX, mo_one, by omega, by decide, bX, fun x hx => by rw [List.mem_singleton.mp hx]; decide, by decide, by omega, fun v2 H34 s34 e2 => ⟨(by show 2 ≤ sizeLine; decide), fun l1 hl1 => ?_⟩⟩
    rw [ox] at e2
    replace s34 := s33.trans s34
    have s35 := same_new (o := .lst [V.ref p1, v2]) hl1
    have el1 : (upd H34 l1 (.lst [V.ref p1, v2])) l1 = some (.lst [V.ref p1, v2]) := upd_same
    generalize upd H34 l1 (.lst [V.ref p1, v2]) = H35 at *
    have A1 : AllX H35 [V.ref p1, v2] [.t [], .t xs] := ⟨⟨p1, rfl, e1.same (s34.trans s35)⟩, e2.same s35, trivial⟩
    have s3035 := s32.trans (s34.trans s35)
    replace eX := eX.same s3035
    replace eY := eY.same s3035
    replace eD := eD.same s3035
    replace F3 := F3.same s3035
    replace k03 := k03.trans s3035.kp
    clear s31 et1 s32 e1 s33 et2 s34 e2 s35 ht1 ht2 hl1 s3035
    refine ⟨_, rfl, (by show 0 ≤ sizeLine; decide), fun t3 ht3 => ?_⟩
    have s36 := same_new (o := .tup []) ht3
    have et3 : TAt (upd H35 t3 (.tup [])) t3 [] := upd_same
    refine ⟨_, rfl, t3, pD, [], ds, 1, 137, rfl, et3, eD.same s36, .inl rfl, mD, by decide, by omega, bd_nil _, bD, by decide, by decide, fun v3 H37 s37 e3 => ?_⟩
    rw [nx] at e3
    replace s37 := s36.trans s37
    refine ⟨(by show 0 ≤ sizeLine; decide), fun t4 ht4 => ?_⟩
    have s38 := same_new (o := .tup []) ht4
    have et4 : TAt (upd H37 t4 (.tup [])) t4 [] := upd_same
    refine ⟨_, rfl, t4, pD, [], ds, 1, 137, rfl, et4, (eD.same s37).same s38, .inl rfl, mD, by decide, by omega, bd_nil _, bD, by decide, by decide, fun p4 H39 s39 e4 => ⟨(by show 2 ≤ sizeLine; decide), fun l2 hl2 => ?_⟩⟩
    rw [nr] at e4
    replace s39 := s38.trans s39
    have s40 := same_new (o := .lst [v3, .ref p4]) hl2
    have el2 : (upd H39 l2 (.lst [v3, .ref p4])) l2 = some (.lst [v3, .ref p4]) := upd_same
    have s3540 := s37.trans (s39.trans s40)
    refine ⟨l1, l2, _, _, rfl, rfl, s3540 _ _ el1, el2, (by show 4 ≤ sizeLine; decide), fun l3 hl3 => ?_⟩
    have s41 := same_new (o := .lst ([V.ref p1, v2] ++ [v3, .ref p4])) hl3
    have A2 := ((A1.same s3540).append (us := [v3, .ref p4]) (es := [.t [], .t []]) ⟨e3.same (s39.trans s40), ⟨p4, rfl, e4.same s40⟩, trivial⟩).same s41
    have el3 : (upd (upd H39 l2 (.lst [v3, .ref p4])) l3 (.lst ([V.ref p1, v2] ++ [v3, .ref p4]))) l3 = some (.lst ([V.ref p1, v2] ++ [v3, .ref p4])) := upd_same
    replace s41 := s3540.trans s41
    generalize upd (upd H39 l2 (.lst [v3, .ref p4])) l3 (.lst ([V.ref p1, v2] ++ [v3, .ref p4])) = H42 at *
    replace eX := eX.same s41
    replace eY := eY.same s41
    replace F3 := F3.same s41
    replace k03 := k03.trans s41.kp
    clear A1 el1 el2 s36 et3 s37 e3 s38 et4 s39 e4 s40 s3540 s41 ht3 ht4 hl2 hl3 eD
    refine ⟨fun σ H' => ∃ vT : Option V, σ = [some (.ref d), some (.ref pD), vT, some vC, none, some (.ref pX), some (.ref pY), v7, v8, some (.ref p2), v10, none, none] ∧ Same H42 H', ?_, ?_⟩
    · refine ⟨_, rfl, (by show 0 ≤ sizeLine; decide), fun t1 ht1 => ⟨_, rfl, (by show 0 ≤ sizeLine; decide), fun t2 ht2 => ⟨(by show 0 ≤ sizeLine; decide), fun t3 ht3 => ⟨(by show 4 ≤ sizeLine; decide), fun l4 hl4 => ?_⟩⟩⟩⟩
      have s1 := same_new (o := .tup []) ht1
      have e1 : TAt (upd H42 t1 (.tup [])) t1 [] := upd_same
      have s2 := same_new (o := .tup []) ht2
      have e2 : TAt (upd (upd H42 t1 (.tup [])) t2 (.tup [])) t2 [] := upd_same
      have s3 := same_new (o := .tup []) ht3
      have e3 : TAt (upd (upd (upd H42 t1 (.tup [])) t2 (.tup [])) t3 (.tup [])) t3 [] := upd_same
      have s4 := same_new (o := .lst [V.ref t1, .ref pX, .ref t2, .ref t3]) hl4
      have el5 : (upd (upd (upd (upd H42 t1 (.tup [])) t2 (.tup [])) t3 (.tup [])) l4 (.lst [V.ref t1, .ref pX, .ref t2, .ref t3])) l4 = some (.lst [V.ref t1, .ref pX, .ref t2, .ref t3]) := upd_same
      generalize upd (upd (upd (upd H42 t1 (.tup [])) t2 (.tup [])) t3 (.tup [])) l4 (.lst [V.ref t1, .ref pX, .ref t2, .ref t3]) = H43 at *
      have sA := s1.trans (s2.trans (s3.trans s4))
      have A4 : AllX H43 [V.ref t1, .ref pX, .ref t2, .ref t3] [.t [], .t xs, .t [], .t []] := ⟨⟨t1, rfl, e1.same (s2.trans (s3.trans s4))⟩, ⟨pX, rfl, eX.same sA⟩, ⟨t2, rfl, e2.same (s3.trans s4)⟩, ⟨t3, rfl, e3.same s4⟩, trivial⟩
      have ok : OkW (([.t [], .t xs, .t [], .t []] : List TX).map TX.data) 2 (172125 * 4) := okTXs fun x hx => by
        simp only [List.mem_cons, List.not_mem_nil, or_false] at hx
        rcases hx with rfl | rfl | rfl | rfl
        · exact TX.ok_t (bd_nil 1) (by decide) (by decide)
        · exact TX.ok_t bX (by decide) (by omega)
        · exact TX.ok_t (bd_nil 1) (by decide) (by decide)
        · exact TX.ok_t (bd_nil 1) (by decide) (by decide)
      refine ⟨l3, l4, _, _, _, rfl, .lst (.inl (.inl (sA _ _ el3))) (A2.same sA).dp, .lst (.inl (.inl el5)) A4.dp, ok.mono (by decide), by decide, ?_⟩
      exact ⟨_, rfl, iteF ⟨_, rfl, sA⟩⟩
    rintro σ H43 ⟨vT, rfl, s43⟩
    replace eX := eX.same s43
    replace eY := eY.same s43
    replace F3 := F3.same s43
    replace k03 := k03.trans s43.kp
    clear s43 A2 el3
    -- values
    refine ⟨_, rfl, _, rfl, _, rfl, _, _, rfl, rfl, ⟨by decide, by decide, by decide⟩, (by show 7 ≤ sizeLine; decide), fun l hl => ?_⟩
    refine ⟨d, c, l, cells, B + 11 + 11 + 7, _, rfl, F3.same (same_new hl), by omega, upd_same, (by decide), (by decide), fun x H44 hx F4 k4 => ?_⟩
    have s44 := same_new (o := .lst [V.int 0, .int 1, .int (-1), .int 2, .int (-3), .int 10, .int ((10 : Int) ^ (20 : Int).toNat)]) hl
    obtain ⟨z, rfl, hz⟩ : ∃ z : Int, x = .int z ∧ z.natAbs < 2 ^ 67 := by
      simp only [List.mem_cons, List.not_mem_nil, or_false] at hx
      rcases hx with rfl | rfl | rfl | rfl | rfl | rfl | rfl <;> exact ⟨_, rfl, by decide⟩
    replace eX := (eX.same s44).kp (F3.same s44) k4
    replace eY := (eY.same s44).kp (F3.same s44) k4
    replace k03 := (k03.trans s44.kp).trans k4
    clear s44 k4 F3 hl
    have ml1 := len_ml xs ys
    have cX : (ev z xs).natAbs < 2 ^ (137 + xs.length * (67 + 1) + 1) := by
      have y := ev_bits (Nat.le_of_lt hz) bX 0
      rwa [List.drop_zero] at y
    have cY : (ev z ys).natAbs < 2 ^ (137 + ys.length * (67 + 1) + 1) := by
      have y := ev_bits (Nat.le_of_lt hz) bY 0
      rwa [List.drop_zero] at y
    replace cX : (ev z xs).natAbs < 2 ^ 750 := Nat.lt_of_lt_of_le cX (Nat.pow_le_pow_right (by decide) (by omega))
    replace cY : (ev z ys).natAbs < 2 ^ 750 := Nat.lt_of_lt_of_le cY (Nat.pow_le_pow_right (by decide) (by omega))
    have cXY : (ev z xs * ev z ys).natAbs < 2 ^ 1500 := by
      rw [Int.natAbs_mul, show (1500 : Nat) = 750 + 750 from rfl, Nat.pow_add]
      exact Nat.mul_lt_mul'' cX cY
    refine ⟨_, rfl, _, rfl, pX, xs, z, 137, 67, rfl, eX, nX, by omega, bX, hz, by decide, by omega, fun H45 s45 => ?_⟩
    refine ⟨(by show 0 ≤ sizeLine; decide), fun t1 ht1 => ?_⟩
    have s46 := same_new (o := .tup []) ht1
    have et1 : TAt (upd H45 t1 (.tup [])) t1 [] := upd_same
    refine ⟨_, rfl, t1, [], z, 1, 67, rfl, et1, .inl rfl, by decide, bd_nil _, hz, by decide, by decide, fun H47 s47 => ⟨(by show 2 ≤ sizeLine; decide), fun l1 hl1 => ?_⟩⟩
    have s4447 := s45.trans (s46.trans s47)
    replace eX := eX.same s4447
    replace eY := eY.same s4447
    replace F4 := F4.same s4447
    replace k03 := k03.trans s4447.kp
    clear s45 s46 et1 s47 s4447 ht1
    have sl := same_new (o := .lst [V.int (ev z xs), .int (ev z [])]) hl1
    have el : (upd H47 l1 (.lst [V.int (ev z xs), .int (ev z [])])) l1 = some (.lst [V.int (ev z xs), .int (ev z [])]) := upd_same
    generalize upd H47 l1 (.lst [V.int (ev z xs), .int (ev z [])]) = H48 at *
    refine ⟨_, rfl, .inl ⟨rfl, _, .inl (.inl el)⟩, ?_⟩
    refine ⟨_, rfl, _, rfl, pX, pY, xs, ys, 137, 137, rfl, eX.same sl, eY.same sl, nX, nY, by omega, by omega, bX, bY, by decide, by decide, by decide, fun p1 H49 s49 e1 => ?_⟩
    refine ⟨_, rfl, p1, _, z, _, 67, rfl, e1, nf_tr _, by omega, bM, hz, by decide, by omega, fun H50 s50 => ?_⟩
    have s4850 := s49.trans s50
    refine ⟨l1, _, _, rfl, rfl, s4850 _ _ el, (by show 2 < sizeLine; decide), ?_⟩
    have so : Same H47 (upd H50 l1 (.lst ([V.int (ev z xs), .int (ev z [])] ++ [.int (ev z (ml xs ys))]))) := same_own (sl.trans s4850) hl1
    have el2 : (upd H50 l1 (.lst ([V.int (ev z xs), .int (ev z [])] ++ [.int (ev z (ml xs ys))]))) l1 = some (.lst ([V.int (ev z xs), .int (ev z [])] ++ [.int (ev z (ml xs ys))])) := upd_same
    generalize upd H50 l1 (.lst ([V.int (ev z xs), .int (ev z [])] ++ [.int (ev z (ml xs ys))])) = H51 at *
    replace eX := eX.same so
    replace eY := eY.same so
    replace F4 := F4.same so
    replace k03 := k03.trans so.kp
    clear sl el s49 e1 s50 s4850 so hl1
    refine ⟨_, rfl, _, rfl, pX, xs, z, 137, 67, rfl, eX, nX, by omega, bX, hz, by decide, by omega, fun H52 s52 => ?_⟩
    refine ⟨_, rfl, _, rfl, pY, ys, z, 137, 67, rfl, eY.same s52, nY, by omega, bY, hz, by decide, by omega, fun H53 s53 => ⟨_, _, rfl, ?_⟩⟩
    have s5153 := s52.trans s53
    refine ⟨_, rfl, _, rfl, _, rfl, _, rfl, _, _, rfl, rfl, wide_mul cX cY (by decide) (by decide) (by decide), (by show 3 ≤ sizeLine; decide), fun l4 hl4 => ?_⟩
    have s54 := same_new (o := .lst [V.int (ev z xs), .int 0, .int (ev z xs * ev z ys)]) hl4
    have el5 : (upd H53 l4 (.lst [V.int (ev z xs), .int 0, .int (ev z xs * ev z ys)])) l4 = some (.lst [V.int (ev z xs), .int 0, .int (ev z xs * ev z ys)]) := upd_same
    generalize upd H53 l4 (.lst [V.int (ev z xs), .int 0, .int (ev z xs * ev z ys)]) = H54 at *
    have sA := s5153.trans s54
    have A1 : AllX H54 [V.int (ev z xs), .int (ev z []), .int (ev z (ml xs ys))] [.i (ev z xs), .i 0, .i (ev z xs * ev z ys)] := ⟨rfl, rfl, by rw [ev_ml]; rfl, trivial⟩
    have A2 : AllX H54 [V.int (ev z xs), .int 0, .int (ev z xs * ev z ys)] [.i (ev z xs), .i 0, .i (ev z xs * ev z ys)] := ⟨rfl, rfl, rfl, trivial⟩
    have up : ∀ {x : Int} {b : Nat}, x.natAbs < 2 ^ b → b ≤ 14000 → (TX.i x).Ok := fun h hb => Nat.lt_of_lt_of_le h (Nat.pow_le_pow_right (by decide) hb)
    have ok : OkW (([.i (ev z xs), .i 0, .i (ev z xs * ev z ys)] : List TX).map TX.data) 2 (172125 * 3) := okTXs fun x hx => by
      simp only [List.mem_cons, List.not_mem_nil, or_false] at hx
      rcases hx with rfl | rfl | rfl
      · exact up cX (by decide)
      · exact up (x := 0) (b := 1) (by decide) (by decide)
      · exact up cXY (by decide)
    refine ⟨l1, l4, _, _, _, rfl, .lst (.inl (.inl (sA _ _ el2))) A1.dp, .lst (.inl (.inl el5)) A2.dp, ok.mono (by decide), by decide, ?_⟩
    exact q _ (F4.same sA) (k03.trans sA.kp)
end
end K2

set_option Elab.async false
set_option linter.all false
set_option maxRecDepth 100000
set_option maxHeartbeats 4000000
set_option exponentiation.threshold 20000
namespace K2
open PySem PySem.Spec PyProof.Rows L2 Gd Pv RZ Po Nm
section
variable {P : Program} {w : World} {K : PySem.W.Frag} {mg : Str → Option Value} {base : Heap}
theorem cz_mid_all : ((List.range 25).all fun i => decide ((cz i).length ≤ 40)) = true := by decide +kernel
theorem cz_mid {n : Nat} (h : n ≤ 24) : (cz n).length ≤ 40 := of_decide_eq_true (List.all_eq_true.mp cz_mid_all n (List.mem_range.mpr (by omega)))
def spRound : Sp := fun vs H Q _ => ∃ n : Nat, vs = [.int (n : Nat)] ∧ 1 ≤ n ∧ n ≤ 200 ∧ ∀ H', Same H H' → Q (.bl true) H'
theorem c__law_is_round_right (D : At K mg "_law_is_round_right" s__law_is_round_right ["_law_whole"]) (c_cyclotomic : Cal P w K mg base 5 "cyclotomic" spCyc) (c__law_round : Cal P w K mg base 3 "_law_round" spCyc) (c__law_primes : Cal P w K mg base 1 "_law_primes" spFacs)
    (c_value_at : Cal P w K mg base 4 "value_at" spValue) (c_totient_of : Cal P w K mg base 4 "totient_of" spTot) (c__law_divisors : Cal P w K mg base 2 "_law_divisors" spDvs) (c__law_times : Cal P w K mg base 2 "_law_times" spTimes)
    (c__law_same : CalG P w K mg base 1 "_law_same" ["_law_told", "_law_due"] (spSameW K)) (c__law_sameT : CalG P w K mg base 1 "_law_same" ["_law_told", "_law_due"] (spSame K)) (z_len : mg "len" = none) :
    CalG P w K mg base 6 "_law_is_round_right" ["_law_whole"] spRound := by
  refine okCG D sc__law_is_round_right (fun vs H Q E h => ?_) (fun f cdv A outer s H vs Q E hr hG h => ?_)
  · obtain ⟨n, rfl, _⟩ := h
    rfl
  · obtain ⟨n, rfl, h1, h2, q⟩ := h
    have nd := sc__law_is_round_right.nd
    have hu64 := hr.units
    refine ⟨_, (pss_cons (ps_par (i := 5) (j := 6) rfl nd rfl rfl (by decide) rfl rfl (pa_cons (pe_k c_cyclotomic hr (by decide) (by rfl) (pa_cons (pv 0) pa_nil)) (pa_cons (pe_k c__law_round hr (by decide) (by rfl) (pa_cons (pv 0) pa_nil)) pa_nil)) rfl)
 (pss_cons (ps_set (i := 1) nd rfl (.inl rfl) (pe_k c__law_primes hr (by decide) (by rfl) (pa_cons (pv 0) pa_nil)))
 (C8.pss_cut (ps_set (i := 2) nd rfl (.inl rfl) (pe_ifExp (PW.pt (pw_and (pt_cmpR (op_neD hu64) (pv 1) (pe_lst pa_nil) (nomark _)) (pw_and1 (pt_cmpR op_eq (pe_ix ix_list (pv 1) pe_int (fun _ _ => rfl)) (pe_ix ix_list (pv 1) (pe_un un_neg pe_int) (fun _ _ => rfl)) (nomark _))))) (pe_ix ix_list (pv 1) pe_int (fun _ _ => rfl)) pe_int))
 (C8.pss_cut (ps_if (pt_not (pt_val (pe_kG c__law_same hr hG (by decide) (by rfl) (pa_cons (pe_lst (pa_cons (pv 5) (pa_cons (pe_k c_value_at hr (by decide) (by rfl) (pa_cons (pv 5) (pa_cons pe_int pa_nil))) pa_nil))) (pa_cons (pe_lst (pa_cons (pv 6) (pa_cons (pe_ifExp (pt_cmpR op_gt (pv 0) pe_int (nomark _)) (pv 2) pe_int) pa_nil))) pa_nil)))))
 (pss_one (ps_ret pe_bl))
 pss_nil)
 (C8.pss_cut (ps_if (PW.pt (pw_or (pt_cmpR op_ne (pe_op op_sub (pe_callB call_len_seq (by rfl) z_len PySem.boot_len (pa_cons (pv 5) pa_nil)) pe_int) (pe_k c_totient_of hr (by decide) (by rfl) (pa_cons (pv 0) pa_nil)) (nomark _)) (pw_or1 (pt_cmpR op_gt (pv 0) pe_int (nomark _)))))
 (pss_one (ps_ret (pe_cmpR op_eq (pe_op op_sub (pe_callB call_len_seq (by rfl) z_len PySem.boot_len (pa_cons (pv 5) pa_nil)) pe_int) (pe_k c_totient_of hr (by decide) (by rfl) (pa_cons (pv 0) pa_nil)) (nomark _))))
 pss_nil)
 (pss_cons (ps_set (i := 3) nd rfl (.inl rfl) (pe_tup (pa_cons pe_int pa_nil)))
 (pss_cons (ps_for PassesOwn.never rfl (pi_tup (pe_k c__law_divisors hr (by decide) (by rfl) (pa_cons (pv 0) pa_nil))) (pg_name (i := 4) nd rfl (.inl rfl))
 (pss_one (ps_set (i := 3) nd rfl (.inl rfl) (pe_k c__law_times hr (by decide) (by rfl) (pa_cons (pv 3) (pa_cons (pe_k c_cyclotomic hr (by decide) (by rfl) (pa_cons (pv 4) pa_nil)) pa_nil))))))
 (pss_one (ps_ret (pe_kG c__law_sameT hr hG (by decide) (by rfl) (pa_cons (pv 3) (pa_cons (pe_op op_catA (pe_op op_catA (pe_tup (pa_cons (pe_un un_neg pe_int) pa_nil)) (pe_op op_repN (pe_tup (pa_cons pe_int pa_nil)) (pe_op op_sub (pv 0) pe_int))) (pe_tup (pa_cons pe_int pa_nil))) pa_nil)))))))))))), ?_⟩
    have C := czs h1 h2
    have gmz := gz_mo C.gz
    refine ⟨_, rfl, n, rfl, h1, h2, fun pT H1 s1 eT => ?_⟩
    refine ⟨_, rfl, n, rfl, h1, h2, fun pD H2 s2 eD => ⟨_, _, rfl, ?_⟩⟩
    refine ⟨_, rfl, n, rfl, h1, by omega, fun a fs H3 hf hfl s3 ha => ?_⟩
    obtain rfl := hf.uniq C.facs
    have s03 := s1.trans (s2.trans s3)
    replace eT := eT.same (s2.trans s3)
    replace eD := eD.same s3
    clear s1 s2 s3
    refine ⟨fun σ H' => σ = [some (.int (n : Nat)), some (.ref a), some (.int (oneIn (fz n) : Nat)), none, none, some (.ref pT), some (.ref pD)] ∧ Same H3 H', ?_, ?_⟩
    · refine ⟨_, rfl, (by show 0 ≤ sizeLine; decide), fun p hp => ?_⟩
      have sP := same_new (o := .lst []) hp
      have ha2 := sP _ _ ha
      refine ⟨.list ((fz n).map fun (p : Nat) => PyData.int (p : Int)), .list [], .lst (.inl (.inl ha2)) (nV_dp (fz n)), .lst (.inl (.inl upd_same)) .nil, ?_, shapedInts [], ?_⟩
      · have := shapedInts ((fz n).map fun (p : Nat) => (p : Int))
        rw [List.map_map] at this
        exact this
      clear C gmz
      generalize fz n = fs at *
      cases fs with
      | nil => exact ⟨_, rfl, iteF ⟨rfl, sP⟩⟩
      | cons f0 ft =>
        have hl : (f0 :: ft).length - 1 < (f0 :: ft).length := by rw [List.length_cons]; omega
        have eL : nV (f0 :: ft) = (nV (f0 :: ft)).dropLast ++ [V.int ((f0 :: ft)[(f0 :: ft).length - 1] : Nat)] := by
          have e1 := List.dropLast_concat_getLast (l := nV (f0 :: ft)) (by intro z; cases z)
          rw [← e1]
          congr 2
          rw [e1]
          unfold nV
          rw [List.getLast_map, List.getLast_eq_getElem]
        have gl : atI (nV (f0 :: ft)) (-1) = some (V.int ((f0 :: ft)[(f0 :: ft).length - 1] : Nat)) := by
          rw [eL]
          exact atI_last _ _
        have key : ((f0 :: ft) ≠ [] ∧ (f0 :: ft)[0]? = (f0 :: ft)[(f0 :: ft).length - 1]?) ↔ V.int (f0 : Nat) = V.int ((f0 :: ft)[(f0 :: ft).length - 1] : Nat) := by
          rw [List.getElem?_eq_getElem hl]
          constructor
          · rintro ⟨_, z⟩
            have : f0 = (f0 :: ft)[(f0 :: ft).length - 1] := Option.some.inj z
            rw [← this]
          · intro z
            have := V.int.inj z
            refine ⟨List.cons_ne_nil _ _, ?_⟩
            have h3 : f0 = (f0 :: ft)[(f0 :: ft).length - 1] := by omega
            show some f0 = _
            rw [← h3]
        refine ⟨true, rfl, iteT ⟨_, rfl, a, nV (f0 :: ft), 0, V.int (f0 : Nat), rfl, rfl, .inl (.inl ha2), atI_nat (j := 0) rfl, _, rfl, 1, rfl, a, nV (f0 :: ft), -1, _, rfl, rfl, .inl (.inl ha2), gl, rfl, ?_⟩⟩
        refine ⟨_, rfl, ite2 (fun e => ?_) (fun e => ?_)⟩
        · have e1 : oneIn (f0 :: ft) = f0 := by
            unfold oneIn
            rw [if_pos (key.mpr (of_decide_eq_true e))]
            rfl
          refine ⟨_, rfl, a, nV (f0 :: ft), 0, V.int (f0 : Nat), rfl, rfl, .inl (.inl ha2), atI_nat (j := 0) rfl, ?_⟩
          exact ⟨by rw [e1]; rfl, sP⟩
        · have e1 : oneIn (f0 :: ft) = 1 := by
            unfold oneIn
            rw [if_neg fun z => e (decide_eq_true (key.mp z))]
          exact ⟨by rw [e1]; rfl, sP⟩
    rintro σ H4 ⟨rfl, s4⟩
    replace eT := eT.same s4
    replace eD := eD.same s4
    replace s03 := s03.trans s4
    clear s4 ha
    have b3 : Bd 3 (cz n) := gmz.2.1
    have ml := gmz.2.2
    refine ⟨fun σ H' => σ = [some (.int (n : Nat)), some (.ref a), some (.int (oneIn (fz n) : Nat)), none, none, some (.ref pT), some (.ref pD)] ∧ Same H4 H', ?_, ?_⟩
    · refine ⟨_, rfl, _, rfl, pT, cz n, 1, 3, 1, rfl, eT, gmz.1.nf, by omega, b3, by decide, by decide, by omega, fun H5 s5 => ⟨(by show 2 ≤ sizeLine; decide), fun l1 hl1 => ?_⟩⟩
      have sl := same_new (o := .lst [V.ref pT, .int (ev 1 (cz n))]) hl1
      have el : (upd H5 l1 (.lst [V.ref pT, .int (ev 1 (cz n))])) l1 = some (.lst [V.ref pT, .int (ev 1 (cz n))]) := upd_same
      generalize upd H5 l1 (.lst [V.ref pT, .int (ev 1 (cz n))]) = H6 at *
      have s46 := s5.trans sl
      refine ⟨_, rfl, _, rfl, ?_⟩
      have ek : (ev 1 (cz n)).natAbs < 2 ^ 14000 := by
        have y := ev_bits (t := 1) (k := 1) (by decide) b3 0
        rw [List.drop_zero] at y
        exact Nat.lt_of_lt_of_le y (Nat.pow_le_pow_right (by decide) (by omega))
      have ok : OkW [dT (cz n), .int (ev 1 (cz n))] 10 (4303 * 600 + 5 + 172125) := (okW_cons (okT b3 (by decide) ml) (okTX (d := .i (ev 1 (cz n))) ek)).mono (by decide)
      have last : ∀ (l2 : Addr) (x : Int), x = ev 1 (cz n) → H6 l2 = none → Dp K (upd H6 l2 (.lst [V.ref pD, .int x])) (.ref l1) (.list [dT (cz n), .int (ev 1 (cz n))]) ∧ Dp K (upd H6 l2 (.lst [V.ref pD, .int x])) (.ref l2) (.list [dT (cz n), .int (ev 1 (cz n))]) ∧ Same H4 (upd H6 l2 (.lst [V.ref pD, .int x])) := by
        rintro l2 x rfl hl2
        have sm := same_new (o := .lst [V.ref pD, .int (ev 1 (cz n))]) hl2
        have s47 := s46.trans sm
        exact ⟨.lst (.inl (.inl (sm _ _ el))) (.cons (dpT (eT.same s47)) (.cons (.int _) .nil)), .lst (.inl (.inl upd_same)) (.cons (dpT (eD.same s47)) (.cons (.int _) .nil)), s47⟩
      refine ⟨_, _, rfl, rfl, _, rfl, ite2 (fun z => ?_) (fun z => ?_)⟩
      · refine ⟨_, rfl, (by show 2 ≤ sizeLine; decide), fun l2 hl2 => ?_⟩
        have z2 : (1 : Int) < (n : Int) := of_decide_eq_true z
        obtain ⟨q1, q2, s47⟩ := last l2 _ (by rw [C.ev, if_pos (by omega)]) hl2
        exact ⟨l1, l2, _, _, _, rfl, q1, q2, ok, by decide, true, rfl, iteF ⟨rfl, s47⟩⟩
      · refine ⟨(by show 2 ≤ sizeLine; decide), fun l2 hl2 => ?_⟩
        have z2 : ¬ (1 : Int) < (n : Int) := fun y => z (decide_eq_true y)
        obtain ⟨q1, q2, s47⟩ := last l2 0 (by rw [C.ev, if_neg (by omega)]) hl2
        exact ⟨l1, l2, _, _, _, rfl, q1, q2, ok, by decide, true, rfl, iteF ⟨rfl, s47⟩⟩
    rintro σ H5 ⟨rfl, s5⟩
    replace eT := eT.same s5
    replace s03 := s03.trans s5
    clear s5 eD
    have lenV : (V.int (((((cz n).map V.int).length : Nat) : Int) - 1) : V) = .int (totP (pf n) : Nat) := by
      rw [List.length_map, C.len]
      congr 1
      omega
    refine ⟨fun σ H' => σ = [some (.int (n : Nat)), some (.ref a), some (.int (oneIn (fz n) : Nat)), none, none, some (.ref pT), some (.ref pD)] ∧ Same H5 H' ∧ n ≤ 24, ?_, ?_⟩
    · refine ⟨_, rfl, pT, _, rfl, .inr eT.sq, _, _, rfl, rfl, _, rfl, n, rfl, h1, by omega, fun ps H6 hp s6 => ?_⟩
      obtain rfl := hp.uniq C.parts
      refine ⟨rfl, _, rfl, ite2 (fun e => absurd e fun e => Bool.noConfusion (e.symm.trans (congrArg not (decide_eq_true lenV)))) (fun _ => ?_)⟩
      refine ⟨_, rfl, _, _, rfl, rfl, _, rfl, ite2 (fun _ => ?_) (fun z => ?_)⟩
      · have eT6 := eT.same s6
        refine ⟨_, rfl, pT, _, rfl, .inr eT6.sq, _, _, rfl, rfl, _, rfl, n, rfl, h1, by omega, fun ps H7 hp s7 => ?_⟩
        obtain rfl := hp.uniq C.parts
        refine ⟨rfl, ?_⟩
        have z := q H7 (s03.trans (s6.trans s7))
        rw [← decide_eq_true lenV] at z
        exact z
      · refine ⟨rfl, s6, ?_⟩
        have : ¬ (24 : Int) < (n : Int) := fun y => z (decide_eq_true y)
        omega
    rintro σ H6 ⟨rfl, s6, n24⟩
    replace s03 := s03.trans s6
    clear s6 eT lenV ml
    obtain ⟨mk, mf⟩ := czm h1 n24
    refine ⟨(by show 1 ≤ sizeLine; decide), fun t ht => ?_⟩
    have st := same_new (o := .tup [V.int 1]) ht
    have et : TAt (upd H6 t (.tup [V.int 1])) t [1] := upd_same
    generalize upd H6 t (.tup [V.int 1]) = H7 at *
    replace s03 := s03.trans st
    clear st ht
    refine ⟨_, rfl, n, rfl, h1, by omega, fun b H8 s8 eb => ?_⟩
    refine ⟨b, rfl, ⟨_, .inl (.inl eb)⟩, for_it (walk_tup (xs := nV (dvs n)))
      (fun i σ H' => ∃ (pF : Addr) (g : List Int) (v4 : Option V), σ = [some (.int (n : Nat)), some (.ref a), some (.int (oneIn (fz n) : Nat)), some (.ref pF), v4, some (.ref pT), some (.ref pD)] ∧ Same H7 H' ∧ TAt H' pF g ∧ Nf g ∧ H' b = some (.tup (nV (dvs n))) ∧ ckM g ((dvs n).drop i) = true ∧ finM g ((dvs n).drop i) = cl n)
      ⟨t, [1], none, rfl, s8, et.same s8, mo_one.nf, eb, mk, mf⟩ (fun i σ H' _ ⟨_, _, _, _, _, _, _, e, _⟩ => .inl (.inl e)) ?_ ?_⟩
    · rintro i x σ G G' hi ⟨pF, g, v4, rfl, sG, eF, nF, eB, hck, hfin⟩ ⟨eH, hx⟩
      obtain rfl := eH.symm
      rw [nV_len] at hi
      obtain ⟨p, hp, rfl⟩ := nV_get hx
      have ed : (dvs n).drop i = p :: (dvs n).drop (i + 1) := by
        rw [List.drop_eq_getElem_cons hi]
        congr 1
        rw [List.getElem?_eq_getElem hi] at hp
        exact Option.some.inj hp
      rw [ed] at hck hfin
      have hck2 : (gm g = true ∧ 1 ≤ p ∧ p ≤ 24) ∧ ckM (tr (mulL g (cz p))) ((dvs n).drop (i + 1)) = true := by
        have z : (gm g && decide (1 ≤ p ∧ p ≤ 24) && ckM (tr (mulL g (cz p))) ((dvs n).drop (i + 1))) = true := hck
        rw [Bool.and_eq_true, Bool.and_eq_true, decide_eq_true_eq] at z
        exact ⟨⟨z.1.1, z.1.2⟩, z.2⟩
      obtain ⟨⟨g1, p1, p2⟩, hck3⟩ := hck2
      have g2 : (∀ x ∈ g, x.natAbs < 1048576) ∧ g.length ≤ 300 := by
        unfold Po.gm at g1
        rw [Bool.and_eq_true, List.all_eq_true, decide_eq_true_eq] at g1
        exact ⟨fun x hx => of_decide_eq_true (g1.1 x hx), g1.2⟩
      have bg : Bd 20 g := fun x hx => by
        have := g2.1 x hx
        rw [show (2 : Nat) ^ 20 = 1048576 by decide]
        exact this
      have gp := gz_mo (czs p1 (by omega)).gz
      have lp := cz_mid p2
      refine ⟨_, rfl, _, rfl, p, rfl, p1, by omega, fun pC G1 sG1 eC => ?_⟩
      refine ⟨pF, pC, g, cz p, 20, 3, rfl, eF.same sG1, eC, nF, gp.1.nf, by omega, by omega, bg, gp.2.1, by decide, by decide, by decide, fun pN G2 sG2 eN => ?_⟩
      rw [mulL_ml] at hck3
      have s2 := sG1.trans sG2
      exact ⟨pN, _, _, rfl, sG.trans s2, eN, nf_tr _, s2 _ _ eB, hck3, by rw [← mulL_ml]; exact hfin⟩
    rintro σ G ⟨pF, g, v4, rfl, sG, eF, nF, eB, hck, hfin⟩
    rw [nV_len, List.drop_length] at hfin
    have hg : g = cl n := hfin
    subst hg
    replace s03 := s03.trans sG
    refine ⟨_, rfl, _, rfl, (by show 1 ≤ sizeLine; decide), fun t1 ht1 => ?_⟩
    have s1 := same_new (o := .tup [V.int (-1)]) ht1
    have e1 : TAt (upd G t1 (.tup [V.int (-1)])) t1 [-1] := upd_same
    generalize upd G t1 (.tup [V.int (-1)]) = G1 at *
    refine ⟨(by show 1 ≤ sizeLine; decide), fun t2 ht2 => ?_⟩
    have s2 := same_new (o := .tup [V.int 0]) ht2
    have e2 : TAt (upd G1 t2 (.tup [V.int 0])) t2 [0] := upd_same
    generalize upd G1 t2 (.tup [V.int 0]) = G2 at *
    refine ⟨_, rfl, _, _, rfl, rfl, repK (m := n - 1) e2 (by omega) (by omega) fun t3 G3 s3 e3 => ?_⟩
    refine catK (e1.same (s2.trans s3)) e3 (by rw [List.length_replicate]; show 1 + _ ≤ _; omega) fun t4 G4 s4 e4 => ?_
    refine ⟨(by show 1 ≤ sizeLine; decide), fun t5 ht5 => ?_⟩
    have s5 := same_new (o := .tup [V.int 1]) ht5
    have e5 : TAt (upd G4 t5 (.tup [V.int 1])) t5 [1] := upd_same
    generalize upd G4 t5 (.tup [V.int 1]) = G5 at *
    refine catK (e4.same s5) e5 (by rw [List.length_append, List.length_replicate]; show 1 + _ + 1 ≤ _; omega) fun t6 G6 s6 e6 => ?_
    have sA := s1.trans (s2.trans (s3.trans (s4.trans (s5.trans s6))))
    have e7 : TAt G6 t6 (cl n) := by
      have : cl n = ([-1] ++ List.replicate (n - 1) 0) ++ [1] := by unfold cl; simp
      rw [this]
      exact e6
    have lc := cl_len (n := n) (by omega)
    have bc : ∀ x ∈ cl n, x.natAbs < 2 ^ 2 := fun x hx => by
      unfold cl at hx
      rcases List.mem_cons.mp hx with y | y
      · subst y; decide
      · rcases List.mem_append.mp y with y | y
        · rw [(List.mem_replicate.mp y).2]; decide
        · rw [List.mem_singleton.mp y]; decide
    have okc : OkD (dT (cl n)) 16000000 := by
      exact okD_tup (okA_ints (b := 2) (by decide) (by decide) bc) (by decide) (by omega)
    exact ⟨pF, t6, dT (cl n), rfl, dpT (eF.same sA), dpT e7, okc, q _ (s03.trans sA)⟩

end
end K2

set_option Elab.async false
set_option linter.all false
set_option maxRecDepth 100000
set_option maxHeartbeats 4000000
set_option exponentiation.threshold 20000
namespace K2
open PySem PySem.Spec PyProof.Rows L2 Gd Pv RZ Po Nm
section
variable {P : Program} {w : World} {K : PySem.W.Frag} {mg : Str → Option Value} {base : Heap}
def spVoices : Sp := fun vs H Q _ => ∃ (d c : Addr) (cells : List Int) (B : Nat), vs = [.ref d] ∧ FeedAt H d c cells B ∧ B ≤ 40000 ∧ ∀ H', FeedAt H' d c cells (B + 203) → Kp d H H' → Q (.bl true) H'
theorem c__law_are_voices_right (D : At K mg "_law_are_voices_right" s__law_are_voices_right ["_law_feed_here"]) (c__law_draw : Cal P w K mg base 1 "_law_draw" spDraw) (c__law_tune : Cal P w K mg base 3 "_law_tune" spTune) (c_polynomial_of : Cal P w K mg base 4 "polynomial_of" spPolyOf)
    (c__law_bare : Cal P w K mg base 1 "_law_bare" (spBare K)) (c__law_product : Cal P w K mg base 1 "_law_product" spProd) (c_rest_by : Cal P w K mg base 4 "rest_by" spRest) (c_times : Cal P w K mg base 4 "times" spTimes) (c_product_of : Cal P w K mg base 5 "product_of" spProd)
    (c__law_same : CalG P w K mg base 1 "_law_same" ["_law_told", "_law_due"] (spSameW K)) :
    CalG P w K mg base 6 "_law_are_voices_right" ["_law_feed_here"] spVoices := by
  refine okCG D sc__law_are_voices_right (fun vs H Q E h => ?_) (fun f cdv A outer s H vs Q E hr hG h => ?_)
  · obtain ⟨d, c, cells, B, rfl, _⟩ := h
    rfl
  · obtain ⟨d, c, cells, B, rfl, F, hB, q⟩ := h
    have nd := sc__law_are_voices_right.nd
    have hu64 := hr.units
    refine ⟨_, (pss_cons (ps_set (i := 1) nd rfl (.inl rfl) (pe_op op_add pe_int (pe_k c__law_draw hr (by decide) (by rfl) (pa_cons (pv 0) (pa_cons pe_int pa_nil)))))
 (pss_cons (ps_par (i := 5) (j := 6) rfl nd rfl rfl (by decide) rfl rfl (pa_cons (pe_k c__law_tune hr (by decide) (by rfl) (pa_cons (pv 0) (pa_cons (pv 1) pa_nil))) (pa_cons (pe_k c__law_tune hr (by decide) (by rfl) (pa_cons (pv 0) (pa_cons (pv 1) pa_nil))) pa_nil)) rfl)
 (pss_cons (ps_set (i := 2) nd rfl (.inl rfl) (pe_lst (pa_cons (pe_k c_polynomial_of hr (by decide) (by rfl) (pa_cons (pv 5) pa_nil)) (pa_cons (pe_k c_polynomial_of hr (by decide) (by rfl) (pa_cons (pe_op op_repN (pe_tup (pa_cons pe_int pa_nil)) (pv 1)) pa_nil)) pa_nil))))
 (C8.pss_cut (ps_if (pt_not (pt_val (pe_kG c__law_same hr hG (by decide) (by rfl) (pa_cons (pv 2) (pa_cons (pe_lst (pa_cons (pe_k c__law_bare hr (by decide) (by rfl) (pa_cons (pv 5) pa_nil)) (pa_cons (pe_tup pa_nil) pa_nil))) pa_nil)))))
 (pss_one (ps_ret pe_bl))
 pss_nil)
 (pss_cons (ps_set (i := 3) nd rfl (.inl rfl) (pe_op op_catA (pe_op op_catA (pe_tup (pa_cons (pe_un un_neg pe_int) pa_nil)) (pe_op op_repN (pe_tup (pa_cons pe_int pa_nil)) (pe_op op_sub (pv 1) pe_int))) (pe_tup (pa_cons pe_int pa_nil))))
 (pss_cons (ps_set (i := 4) nd rfl (.inl rfl) (pe_k c__law_bare hr (by decide) (by rfl) (pa_cons (pe_k c__law_product hr (by decide) (by rfl) (pa_cons (pv 5) (pa_cons (pv 6) pa_nil))) pa_nil)))
 (pss_cons (ps_set (i := 2) nd rfl (.inl rfl) (pe_lst (pa_cons (pe_k c_rest_by hr (by decide) (by rfl) (pa_cons (pe_k c_times hr (by decide) (by rfl) (pa_cons (pe_k c_polynomial_of hr (by decide) (by rfl) (pa_cons (pv 5) pa_nil)) (pa_cons (pe_k c_polynomial_of hr (by decide) (by rfl) (pa_cons (pv 6) pa_nil)) pa_nil))) (pa_cons (pv 3) pa_nil))) pa_nil)))
 (pss_cons (ps_expr (pe_bm PySem.F.plainAttrs_list PySem.F.slot_list_append PySem.F.type_list_append mt_append (pv 2) (pa_cons (pe_k c_polynomial_of hr (by decide) (by rfl) (pa_cons (pe_k c_product_of hr (by decide) (by rfl) (pa_cons (pv 5) (pa_cons (pv 6) pa_nil))) pa_nil)) pa_nil)))
 (pss_one (ps_ret (pe_kG c__law_same hr hG (by decide) (by rfl) (pa_cons (pv 2) (pa_cons (pe_lst (pa_cons (pv 4) (pa_cons (pv 4) pa_nil))) pa_nil))))))))))))), ?_⟩
    refine ⟨_, rfl, d, c, cells, B, 10, rfl, F, by omega, by decide, by decide, fun r H1 hr1 F1 k1 => ⟨_, _, rfl, rfl, ?_⟩⟩
    obtain ⟨n, hn⟩ : ∃ n : Nat, n = 1 + r := ⟨_, rfl⟩
    show gName 1 (V.int ((1 : Int) + (r : Nat))) _ _ _
    rw [show (1 : Int) + (r : Nat) = (n : Nat) by omega]
    have n1 : 0 < n := by omega
    have n10 : n ≤ 10 := by omega
    clear hn hr1
    refine ⟨_, rfl, _, rfl, d, c, cells, B + 1, n, rfl, F1, by omega, by omega, by omega, fun xs pX H2 lx bX F2 k2 eX => ?_⟩
    refine ⟨_, rfl, _, rfl, d, c, cells, B + 1 + 100, n, rfl, F2, by omega, by omega, by omega, fun ys pY H3 ly bY F3 k3 eY => ⟨_, _, rfl, ?_⟩⟩
    replace eX := eX.kp F2 k3
    have k03 := (k1.trans k2).trans k3
    clear k1 k2 k3 F1 F2
    have bX' := bd_tr bX
    have bY' := bd_tr bY
    have lX' : (tr xs).length ≤ 10 := Nat.le_trans (tr_len xs) (by omega)
    have lY' : (tr ys).length ≤ 10 := Nat.le_trans (tr_len ys) (by omega)
    refine ⟨_, rfl, pX, xs, rfl, eX, by omega, by omega, fun p1 H4 s4 e1 => ?_⟩
    refine ⟨(by show 1 ≤ sizeLine; decide), fun t1 ht1 => ?_⟩
    have s5 := same_new (o := .tup [V.int 0]) ht1
    have et : TAt (upd H4 t1 (.tup [V.int 0])) t1 [0] := upd_same
    generalize upd H4 t1 (.tup [V.int 0]) = H5 at *
    refine ⟨_, rfl, repK (m := n) et rfl (by omega) fun t2 H6 s6 e6 => ?_⟩
    refine ⟨t2, _, rfl, e6, by rw [List.length_replicate]; exact n1, by rw [List.length_replicate]; omega, fun p2 H7 s7 e7 => ⟨(by show 2 ≤ sizeLine; decide), fun l1 hl1 => ?_⟩⟩
    rw [show tr (List.replicate n 0) = [] by rw [← of_const]; exact tr_zeros n] at e7
    have s37 := s4.trans (s5.trans (s6.trans s7))
    have A1 : AllX H7 [V.ref p1, .ref p2] [.t (tr xs), .t []] := ⟨⟨p1, rfl, e1.same (s5.trans (s6.trans s7))⟩, ⟨p2, rfl, e7⟩, trivial⟩
    replace eX := eX.same s37
    replace eY := eY.same s37
    replace F3 := F3.same s37
    replace k03 := k03.trans s37.kp
    clear s4 s5 s6 s7 s37 e1 et e6 e7 ht1
    have sl := same_new (o := .lst [V.ref p1, .ref p2]) hl1
    have el : (upd H7 l1 (.lst [V.ref p1, .ref p2])) l1 = some (.lst [V.ref p1, .ref p2]) := upd_same
    generalize upd H7 l1 (.lst [V.ref p1, .ref p2]) = H8 at *
    replace A1 := A1.same sl
    replace eX := eX.same sl
    replace eY := eY.same sl
    replace F3 := F3.same sl
    replace k03 := k03.trans sl.kp
    refine ⟨fun σ H' => ∃ v2 : Option V, σ = [some (.ref d), some (.int (n : Nat)), v2, none, none, some (.ref pX), some (.ref pY)] ∧ Same H8 H', ?_, ?_⟩
    · refine ⟨_, rfl, _, rfl, pX, xs, rfl, .inr eX.sq, by omega, fun p3 H9 s9 e3 => ?_⟩
      refine ⟨(by show 0 ≤ sizeLine; decide), fun t2 ht2 => ⟨(by show 2 ≤ sizeLine; decide), fun l2 hl2 => ?_⟩⟩
      have s10 := same_new (o := .tup []) ht2
      have e10 : TAt (upd H9 t2 (.tup [])) t2 [] := upd_same
      have s11 := same_new (o := .lst [V.ref p3, .ref t2]) hl2
      have el2 : (upd (upd H9 t2 (.tup [])) l2 (.lst [V.ref p3, .ref t2])) l2 = some (.lst [V.ref p3, .ref t2]) := upd_same
      generalize upd (upd H9 t2 (.tup [])) l2 (.lst [V.ref p3, .ref t2]) = H11 at *
      have sA := s9.trans (s10.trans s11)
      have A2 : AllX H11 [V.ref p3, .ref t2] [.t (tr xs), .t []] := ⟨⟨p3, rfl, e3.same (s10.trans s11)⟩, ⟨t2, rfl, e10.same s11⟩, trivial⟩
      have ok : OkW (([.t (tr xs), .t []] : List TX).map TX.data) 2 (172125 * 2) := okTXs fun x hx => by
        simp only [List.mem_cons, List.not_mem_nil, or_false] at hx
        rcases hx with rfl | rfl
        · exact TX.ok_t bX' (by decide) (by omega)
        · exact TX.ok_t (bd_nil 1) (by decide) (by decide)
      refine ⟨l1, l2, _, _, _, rfl, .lst (.inl (.inl (sA _ _ el))) (A1.same sA).dp, .lst (.inl (.inl el2)) A2.dp, ok.mono (by decide), by decide, ?_⟩
      exact ⟨_, rfl, iteF ⟨_, rfl, sA⟩⟩
    rintro σ H9 ⟨v2, rfl, s9⟩
    replace eX := eX.same s9
    replace eY := eY.same s9
    replace F3 := F3.same s9
    replace k03 := k03.trans s9.kp
    clear A1 el sl s9 hl1
    -- the clock's polynomial
    refine ⟨_, rfl, (by show 1 ≤ sizeLine; decide), fun t1 ht1 => ?_⟩
    have s1 := same_new (o := .tup [V.int (-1)]) ht1
    have e1 : TAt (upd H9 t1 (.tup [V.int (-1)])) t1 [-1] := upd_same
    generalize upd H9 t1 (.tup [V.int (-1)]) = G1 at *
    refine ⟨(by show 1 ≤ sizeLine; decide), fun t2 ht2 => ?_⟩
    have s2 := same_new (o := .tup [V.int 0]) ht2
    have e2 : TAt (upd G1 t2 (.tup [V.int 0])) t2 [0] := upd_same
    generalize upd G1 t2 (.tup [V.int 0]) = G2 at *
    refine ⟨_, rfl, _, _, rfl, rfl, repK (m := n - 1) e2 (by omega) (by omega) fun t3 G3 s3 e3 => ?_⟩
    refine catK (e1.same (s2.trans s3)) e3 (by rw [List.length_replicate]; show 1 + _ ≤ _; omega) fun t4 G4 s4 e4 => ?_
    refine ⟨(by show 1 ≤ sizeLine; decide), fun t5 ht5 => ?_⟩
    have s5 := same_new (o := .tup [V.int 1]) ht5
    have e5 : TAt (upd G4 t5 (.tup [V.int 1])) t5 [1] := upd_same
    generalize upd G4 t5 (.tup [V.int 1]) = G5 at *
    refine catK (e4.same s5) e5 (by rw [List.length_append, List.length_replicate]; show 1 + _ + 1 ≤ _; omega) fun pC G6 s6 e6 => ?_
    have sA := s1.trans (s2.trans (s3.trans (s4.trans (s5.trans s6))))
    have eC : TAt G6 pC (cl n) := by
      have : cl n = ([-1] ++ List.replicate (n - 1) 0) ++ [1] := by unfold cl; simp
      rw [this]
      exact e6
    have lc := cl_len (n := n) n1
    have bc : Bd 2 (cl n) := fun x hx => by
      unfold cl at hx
      rcases List.mem_cons.mp hx with y | y
      · subst y; decide
      · rcases List.mem_append.mp y with y | y
        · rw [(List.mem_replicate.mp y).2]; decide
        · rw [List.mem_singleton.mp y]; decide
    replace eX := eX.same sA
    replace eY := eY.same sA
    replace F3 := F3.same sA
    replace k03 := k03.trans sA.kp
    clear sA s1 s2 s3 s4 s5 s6 e1 e2 e3 e4 e5 e6 ht1 ht2 ht5
    -- the product on the clock
    have bP : Bd 284 (of n (conv n (per xs) (per ys))) := bd_of fun j _ => abs_conv (b := 137) (c := 137) (by omega) bX.per bY.per j
    have lP : (tr (of n (conv n (per xs) (per ys)))).length ≤ 10 := Nat.le_trans (tr_len _) (by rw [of_len]; omega)
    refine ⟨_, rfl, _, rfl, pX, pY, xs, ys, n, 137, 137, rfl, eX, eY, lx, ly, n1, by omega, bX, bY, by decide, by decide, by decide, fun p1 H10 s10 f1 => ?_⟩
    refine ⟨p1, _, rfl, .inr f1.sq, by rw [of_len]; omega, fun pL H11 s11 eL => ?_⟩
    have s12 := s10.trans s11
    replace eX := eX.same s12
    replace eY := eY.same s12
    replace eC := eC.same s12
    replace F3 := F3.same s12
    replace k03 := k03.trans s12.kp
    clear s10 s11 s12 f1
    refine ⟨_, rfl, pX, xs, rfl, eX, by omega, by omega, fun p1 H12 s1 f1 => ?_⟩
    refine ⟨_, rfl, pY, ys, rfl, eY.same s1, by omega, by omega, fun p2 H13 s2 f2 => ?_⟩
    have lM := len_ml (tr xs) (tr ys)
    have bM := bd_ml bX' bY' (by omega)
    refine ⟨p1, p2, _, _, 137, 137, rfl, f1.same s2, f2, nf_tr _, nf_tr _, by omega, by omega, bX', bY', by decide, by decide, by decide, fun p3 H14 s3 f3 => ?_⟩
    have s14 := s1.trans (s2.trans s3)
    refine ⟨_, rfl, p3, pC, _, _, 284, 2, rfl, f3, eC.same s14, nf_tr _, cl_mo n, by omega, by omega, bM, bc, by decide, by omega, fun p4 H15 s4 f4 => ⟨(by show 1 ≤ sizeLine; decide), fun l1 hl1 => ?_⟩⟩
    rw [poly_clock lx ly n1] at f4
    have s15 := s14.trans s4
    have A1 : AllX H15 [V.ref p4] [.t (tr (of n (conv n (per xs) (per ys))))] := ⟨⟨p4, rfl, f4⟩, trivial⟩
    replace eX := eX.same s15
    replace eY := eY.same s15
    replace eL := eL.same s15
    replace F3 := F3.same s15
    replace k03 := k03.trans s15.kp
    clear s1 s2 s3 s4 s14 s15 f1 f2 f3 f4 eC
    have sl := same_new (o := .lst [V.ref p4]) hl1
    have el : (upd H15 l1 (.lst [V.ref p4])) l1 = some (.lst [V.ref p4]) := upd_same
    generalize upd H15 l1 (.lst [V.ref p4]) = H16 at *
    refine ⟨_, rfl, .inl ⟨rfl, _, .inl (.inl el)⟩, ?_⟩
    refine ⟨_, rfl, _, rfl, pX, pY, xs, ys, n, 137, 137, rfl, eX.same sl, eY.same sl, lx, ly, n1, by omega, bX, bY, by decide, by decide, by decide, fun p5 H17 s17 f5 => ?_⟩
    refine ⟨p5, _, rfl, f5, by rw [of_len]; exact n1, by rw [of_len]; omega, fun p6 H18 s18 f6 => ?_⟩
    have s1618 := s17.trans s18
    refine ⟨l1, _, _, rfl, rfl, s1618 _ _ el, (by show 1 < sizeLine; decide), ?_⟩
    have so : Same H15 (upd H18 l1 (.lst ([V.ref p4] ++ [.ref p6]))) := same_own (sl.trans s1618) hl1
    have A2 := (A1.same so).append (us := [V.ref p6]) (es := [.t (tr (of n (conv n (per xs) (per ys))))]) ⟨⟨p6, rfl, f6.own (s1618 _ _ el)⟩, trivial⟩
    have el2 : (upd H18 l1 (.lst ([V.ref p4] ++ [.ref p6]))) l1 = some (.lst ([V.ref p4] ++ [.ref p6])) := upd_same
    generalize upd H18 l1 (.lst ([V.ref p4] ++ [.ref p6])) = H19 at *
    replace eL := eL.same so
    replace F3 := F3.same so
    replace k03 := k03.trans so.kp
    refine ⟨_, rfl, _, rfl, _, rfl, (by show 2 ≤ sizeLine; decide), fun l2 hl2 => ?_⟩
    have s20 := same_new (o := .lst [V.ref pL, .ref pL]) hl2
    have el3 : (upd H19 l2 (.lst [V.ref pL, .ref pL])) l2 = some (.lst [V.ref pL, .ref pL]) := upd_same
    generalize upd H19 l2 (.lst [V.ref pL, .ref pL]) = H20 at *
    have A3 : AllX H20 [V.ref pL, .ref pL] [.t (tr (of n (conv n (per xs) (per ys)))), .t (tr (of n (conv n (per xs) (per ys))))] := ⟨⟨pL, rfl, eL.same s20⟩, ⟨pL, rfl, eL.same s20⟩, trivial⟩
    have ok : OkW (([.t (tr (of n (conv n (per xs) (per ys)))), .t (tr (of n (conv n (per xs) (per ys))))] : List TX).map TX.data) 2 (172125 * 2) := okTXs fun x hx => by
      simp only [List.mem_cons, List.not_mem_nil, or_false] at hx
      rcases hx with rfl | rfl
      · exact TX.ok_t (bd_tr bP) (by decide) (by omega)
      · exact TX.ok_t (bd_tr bP) (by decide) (by omega)
    refine ⟨l1, l2, _, _, _, rfl, .lst (.inl (.inl (s20 _ _ el2))) (A2.same s20).dp, .lst (.inl (.inl el3)) A3.dp, ok.mono (by decide), by decide, ?_⟩
    exact q _ ((F3.same s20).mono (by omega)) (k03.trans s20.kp)

end
end K2

set_option Elab.async false
set_option linter.all false
set_option maxRecDepth 100000
set_option maxHeartbeats 4000000
set_option exponentiation.threshold 20000
namespace K2
open PySem PySem.Spec PyProof.Rows L2 Gd Pv RZ Po Nm
section
variable {P : Program} {w : World} {K : PySem.W.Frag} {mg : Str → Option Value} {base : Heap}
def spLaw (K : PySem.W.Frag) : Sp := fun vs H Q _ => ∃ (a : Addr) (ns : List Int), vs = [.ref a] ∧ SqL K H a (ns.map V.int) ∧ ns.length ≤ 63 ∧ ∀ H', Q (.bl true) H'
theorem okG_law {f : Addr} {fd : FuncData} (F : Fun K "law" "law" s_law f fd) (c__law_feed : Cal P w K mg base 1 "_law_feed" (spFeed K)) (c__law_draw : Cal P w K mg base 1 "_law_draw" spDraw) (c__law_any : Cal P w K mg base 2 "_law_any" spAny)
    (c__law_are_rows_right : CalG P w K mg base 5 "_law_are_rows_right" ["_law_feed_here"] spRows) (c__law_are_voices_right : CalG P w K mg base 6 "_law_are_voices_right" ["_law_feed_here"] spVoices)
    (c__law_is_round_right : CalG P w K mg base 6 "_law_is_round_right" ["_law_whole"] spRound) (z_range : mg "range" = none) :
    FnG P w K mg base 7 f fd ["_law_script"] (spLaw K) := by
  refine okG F sc_law (fun vs H Q E h => ?_) (fun cdv A outer s H vs Q E hr hG h => ?_)
  · obtain ⟨a, ns, rfl, _⟩ := h
    rfl
  · obtain ⟨a0, ns0, rfl, ha, hz, k⟩ := h
    have nd := sc_law.nd
    have hu64 := hr.units
    refine ⟨_, (pss_cons (ps_set (i := 1) nd rfl (.inl rfl) (pe_k c__law_feed hr (by decide) (by rfl) (pa_cons (pv 0) pa_nil)))
 (pss_cons (ps_for PassesOwn.never rfl (pi_range1 (by rfl) z_range (pa_cons pe_int pa_nil)) (pg_name (i := 2) nd rfl (.inl rfl))
 (pss_one (ps_if (PW.pt (pw_or (pt_not (pt_val (pe_kG c__law_are_rows_right hr hG (by decide) (by rfl) (pa_cons (pv 1) pa_nil)))) (pw_or1 (pt_not (pt_val (pe_kG c__law_are_voices_right hr hG (by decide) (by rfl) (pa_cons (pv 1) pa_nil)))))))
 (pss_one (ps_ret pe_bl))
 pss_nil)))
 (pss_cons (ps_set (i := 3) nd rfl (.inl rfl) (pe_lst (pa_cons (pe_op op_add pe_int (pe_k c__law_draw hr (by decide) (by rfl) (pa_cons (pv 1) (pa_cons pe_int pa_nil)))) (pa_cons (pe_op op_add pe_int (pe_k c__law_draw hr (by decide) (by rfl) (pa_cons (pv 1) (pa_cons pe_int pa_nil)))) (pa_cons (pe_op op_add pe_int (pe_k c__law_draw hr (by decide) (by rfl) (pa_cons (pv 1) (pa_cons pe_int pa_nil)))) pa_nil)))))
 (C8.pss_cut (ps_if (pt_cmpR op_eq (pe_k c__law_draw hr (by decide) (by rfl) (pa_cons (pv 1) (pa_cons pe_int pa_nil))) pe_int (nomark _))
 (pss_one (ps_expr (pe_bm PySem.F.plainAttrs_list PySem.F.slot_list_append PySem.F.type_list_append mt_append (pv 3) (pa_cons (pe_k c__law_any hr (by decide) (by rfl) (pa_cons (pv 1) (pa_cons (pe_lst (pa_cons pe_int (pa_cons pe_int (pa_cons pe_int (pa_cons pe_int (pa_cons pe_int (pa_cons pe_int (pa_cons pe_int (pa_cons pe_int pa_nil))))))))) pa_nil))) pa_nil))))
 pss_nil)
 (pss_one (ps_ret (pe_cmpR (op_eqD hu64) (pe_lc (own := [("_law_whole", 4)]) rfl nd (pi_list (pe_op op_cat (pe_lst (pa_cons pe_int (pa_cons pe_int (pa_cons pe_int pa_nil)))) (pv 3))) (blkOk_by (N := N_law) (sc := defScope s_law) (by decide +kernel)) (fun _ _ _ _ _ => pg_name (i := 4) nd rfl (Or.inl rfl)) (fun _ _ _ _ _ => pts_one (pt_not (pt_val (pe_kG c__law_is_round_right hr hG (by decide) (by rfl) (pa_cons (pv 4) pa_nil))))) (fun _ _ _ _ _ => (pv 4))) (pe_lst pa_nil) (nomark _)))))))), ?_⟩
    refine ⟨_, rfl, a0, ns0, rfl, ha, hz, fun d c cells H1 F1 s1 => ?_⟩
    refine ⟨5, rfl, by decide, by decide, for_it walk_range (fun i σ H' => ∃ y2 : Option V, σ = [some (.ref a0), some (.ref d), y2, none, none] ∧ FeedAt H' d c cells (0 + 233 * i))
        ⟨_, rfl, F1⟩ (fun _ _ _ _ _ => True.intro) ?_ ?_⟩
    · rintro i x σ H6 H' hi ⟨y2, rfl, F6⟩ ⟨eH, rfl⟩
      obtain rfl := eH.symm
      have hi5 : i < 5 := hi
      refine ⟨_, rfl, d, c, cells, 0 + 233 * i, rfl, F6, by omega, fun H7 F7 k7 => ⟨true, rfl, ?_⟩⟩
      refine iteF ⟨_, rfl, d, c, cells, _, rfl, F7, by omega, fun H8 F8 k8 => ⟨true, rfl, iteF ?_⟩⟩
      exact ⟨_, rfl, F8.mono (by omega)⟩
    rintro σ H2 ⟨y2, rfl, F2⟩
    refine ⟨_, rfl, d, c, cells, _, 24, rfl, F2, by decide, by decide, by decide, fun r1 H3 h3 F3 k3 => ⟨_, _, rfl, rfl, ?_⟩⟩
    refine ⟨_, rfl, d, c, cells, _, 24, rfl, F3, by decide, by decide, by decide, fun r2 H4 h4 F4 k4 => ⟨_, _, rfl, rfl, ?_⟩⟩
    refine ⟨_, rfl, d, c, cells, _, 150, rfl, F4, by decide, by decide, by decide, fun r3 H5 h5 F5 k5 => ⟨_, _, rfl, rfl, (by show 3 ≤ sizeLine; decide), fun l hl => ?_⟩⟩
    have el : (upd H5 l (.lst [V.int (1 + (r1 : Int)), .int (1 + (r2 : Int)), .int (1 + (r3 : Int))])) l = some (.lst (nV [1 + r1, 1 + r2, 1 + r3])) := by
      rw [upd_same]
      unfold nV
      simp only [List.map_cons, List.map_nil, Int.natCast_add]
      rfl
    have F6 := F5.same (same_new (o := .lst [V.int (1 + (r1 : Int)), .int (1 + (r2 : Int)), .int (1 + (r3 : Int))]) hl)
    refine ⟨fun σ H' => ∃ ns : List Nat, σ = [some (.ref a0), some (.ref d), y2, some (.ref l), none] ∧ H' l = some (.lst (nV ns)) ∧ (∀ n ∈ ns, 1 ≤ n ∧ n ≤ 200) ∧ ns.length ≤ 4, ?_, ?_⟩
    · have hs : ∀ n ∈ [1 + r1, 1 + r2, 1 + r3], 1 ≤ n ∧ n ≤ 200 := fun n hn => by
        simp only [List.mem_cons, List.not_mem_nil, or_false] at hn
        rcases hn with rfl | rfl | rfl <;> omega
      refine ⟨_, rfl, d, c, cells, _, 20, rfl, F6, by decide, by decide, by decide, fun r4 H7 h7 F7 k7 => ⟨rfl, _, rfl, ite2 (fun _ => ?_) (fun _ => ?_)⟩⟩
      · have el7 := k7 _ _ (F6.neL el) el
        refine ⟨_, rfl, .inl ⟨rfl, _, .inl (.inl el7)⟩, _, rfl, (by show 8 ≤ sizeLine; decide), fun m hm => ?_⟩
        refine ⟨d, c, m, cells, _, _, rfl, F7.same (same_new hm), by decide, upd_same, (by decide), (by decide), fun x H8 hx F8 k8 => ?_⟩
        obtain ⟨z, rfl, z1, z2⟩ : ∃ z : Nat, x = .int (z : Nat) ∧ 1 ≤ z ∧ z ≤ 200 := by
          simp only [List.mem_cons, List.not_mem_nil, or_false] at hx
          rcases hx with rfl | rfl | rfl | rfl | rfl | rfl | rfl | rfl
          · exact ⟨105, rfl, by decide, by decide⟩
          · exact ⟨165, rfl, by decide, by decide⟩
          · exact ⟨180, rfl, by decide, by decide⟩
          · exact ⟨187, rfl, by decide, by decide⟩
          · exact ⟨195, rfl, by decide, by decide⟩
          · exact ⟨197, rfl, by decide, by decide⟩
          · exact ⟨199, rfl, by decide, by decide⟩
          · exact ⟨200, rfl, by decide, by decide⟩
        have e8 : H8 l = _ := k8 _ _ (F7.neL el7) (same_new hm _ _ el7)
        refine ⟨l, _, _, rfl, rfl, e8, (by show 3 < sizeLine; decide), ?_⟩
        refine ⟨[1 + r1, 1 + r2, 1 + r3] ++ [z], rfl, ?_, fun n hn => ?_, (by show 4 ≤ 4; decide)⟩
        · rw [upd_same]
          unfold nV
          rw [List.map_append]
          rfl
        · rcases List.mem_append.mp hn with y | y
          · exact hs n y
          · rw [List.mem_singleton.mp y]
            exact ⟨z1, z2⟩
      · exact ⟨_, rfl, k7 _ _ (F6.neL el) el, hs, (by show 3 ≤ 4; decide)⟩
    rintro σ H7 ⟨ns, rfl, e7, hns, l4⟩
    clear F1 F2 F3 F4 F5 F6 el
    refine ⟨(by show 3 ≤ sizeLine; decide), fun m hm => ?_⟩
    have s1 := same_new (o := .lst [V.int 1, .int 6, .int 12]) hm
    have em : (upd H7 m (.lst [V.int 1, .int 6, .int 12])) m = some (.lst [V.int 1, .int 6, .int 12]) := upd_same
    refine ⟨_, rfl, m, l, _, _, rfl, rfl, em, s1 _ _ e7, (by rw [nV_len]; show 3 + _ ≤ sizeLine; rw [sizeLine_eq]; omega), fun b hb => ?_⟩
    have eb : (upd (upd H7 m (.lst [V.int 1, .int 6, .int 12])) b (.lst ([V.int 1, .int 6, .int 12] ++ nV ns))) b = some (.lst (nV ([1, 6, 12] ++ ns))) := by
      rw [upd_same]
      unfold nV
      rw [List.map_append]
      rfl
    generalize upd (upd H7 m (.lst [V.int 1, .int 6, .int 12])) b (.lst ([V.int 1, .int 6, .int 12] ++ nV ns)) = H8 at *
    refine ⟨b, rfl, ⟨_, .inl (.inl eb)⟩, fun L hL => lcF (walk_list (xs := nV ([1, 6, 12] ++ ns))) (fun _ => none) hL ?_ (fun H' sm => .inl (.inl (sm _ _ eb))) ?_ ?_⟩
    · rw [nV_len, List.length_append]
      exact small1000 (by show 3 + _ ≤ _; omega)
    · intro x H' R S hx sm q1 q2
      unfold nV at hx
      obtain ⟨n, hn, rfl⟩ := List.mem_map.mp hx
      have hn2 : 1 ≤ n ∧ n ≤ 200 := by
        rcases List.mem_append.mp hn with y | y
        · simp only [List.mem_cons, List.not_mem_nil, or_false] at y
          rcases y with rfl | rfl | rfl <;> decide
        · exact hns n y
      exact ⟨rfl, _, rfl, n, rfl, hn2.1, hn2.2, fun H3 s3 => ⟨true, rfl, q2 rfl H3 s3⟩⟩
    · intro H9 s9 e9
      refine ⟨Nat.zero_le _, fun q hq => ?_⟩
      have s4 := same_new (o := .lst []) hq
      have e9' : H9 L = some (.lst []) := by
        rw [e9]
        congr 2
        exact List.filterMap_eq_nil_iff.mpr fun _ _ => rfl
      exact ⟨.list [], .list [], .lst (.inl (.inl (s4 _ _ e9'))) .nil, .lst (.inl (.inl upd_same)) .nil, rfl, rfl, k _⟩

end
end K2

set_option Elab.async false
set_option linter.all false
set_option maxRecDepth 100000
namespace K2
open PySem PySem.Spec PyProof.Rows L2 Gd Pv RZ Po Nm
section
variable {w : World} {K : PySem.W.Frag} {h : Heap} {mg : Str → Option Value}
theorem at1 {x a1 : String} {st : Stmt} {f : Addr} {od an : Option Addr} {sl : Array (Option Value)} {oc kV dc pm cd ct : Value} (X : K.In h) (G : h.Ns mainGlobals mg)
    (a : PySem.W.nsIn K mainGlobals x = some (some (.ref f))) (l : K.lookup f = some ⟨oc, od, .func (PySem.W.fnOf x x (defArgs st) (defBody st) (defScope st) .none kV dc pm an cd ct), sl⟩) (c : PySem.W.codeIn K cd x = true) (k : PySem.W.keepIn K (.ref f) = true)
    (hb : ∀ (kV doc pm : Value) (an : Option Addr) (cdv ct u : Value), bindArgs (PySem.W.fnOf x x (defArgs st) (defBody st) (defScope st) .none kV doc pm an cdv ct) ⟨[u], []⟩ = pure [((a1 : Str), u)]) : At K mg x st [(a1 : Str)] :=
  ⟨f, _, PySem.W.mg_of X G a, fun_mk l c k, (fun_mk l c k).binds fun kV doc pm an cdv ct us hl => match us, hl with | [u], _ => hb kV doc pm an cdv ct u⟩
theorem at2 {x a1 a2 : String} {st : Stmt} {f : Addr} {od an : Option Addr} {sl : Array (Option Value)} {oc kV dc pm cd ct : Value} (X : K.In h) (G : h.Ns mainGlobals mg)
    (a : PySem.W.nsIn K mainGlobals x = some (some (.ref f))) (l : K.lookup f = some ⟨oc, od, .func (PySem.W.fnOf x x (defArgs st) (defBody st) (defScope st) .none kV dc pm an cd ct), sl⟩) (c : PySem.W.codeIn K cd x = true) (k : PySem.W.keepIn K (.ref f) = true)
    (hb : ∀ (kV doc pm : Value) (an : Option Addr) (cdv ct u v : Value), bindArgs (PySem.W.fnOf x x (defArgs st) (defBody st) (defScope st) .none kV doc pm an cdv ct) ⟨[u, v], []⟩ = pure [((a1 : Str), u), ((a2 : Str), v)]) : At K mg x st [(a1 : Str), (a2 : Str)] :=
  ⟨f, _, PySem.W.mg_of X G a, fun_mk l c k, (fun_mk l c k).binds fun kV doc pm an cdv ct us hl => match us, hl with | [u, v], _ => hb kV doc pm an cdv ct u v⟩
theorem at3 {x a1 a2 a3 : String} {st : Stmt} {f : Addr} {od an : Option Addr} {sl : Array (Option Value)} {oc kV dc pm cd ct : Value} (X : K.In h) (G : h.Ns mainGlobals mg)
    (a : PySem.W.nsIn K mainGlobals x = some (some (.ref f))) (l : K.lookup f = some ⟨oc, od, .func (PySem.W.fnOf x x (defArgs st) (defBody st) (defScope st) .none kV dc pm an cd ct), sl⟩) (c : PySem.W.codeIn K cd x = true) (k : PySem.W.keepIn K (.ref f) = true)
    (hb : ∀ (kV doc pm : Value) (an : Option Addr) (cdv ct u v z : Value), bindArgs (PySem.W.fnOf x x (defArgs st) (defBody st) (defScope st) .none kV doc pm an cdv ct) ⟨[u, v, z], []⟩ = pure [((a1 : Str), u), ((a2 : Str), v), ((a3 : Str), z)]) : At K mg x st [(a1 : Str), (a2 : Str), (a3 : Str)] :=
  ⟨f, _, PySem.W.mg_of X G a, fun_mk l c k, (fun_mk l c k).binds fun kV doc pm an cdv ct us hl => match us, hl with | [u, v, z], _ => hb kV doc pm an cdv ct u v z⟩
theorem atS {x pv : String} {st : Stmt} {f : Addr} {od an : Option Addr} {sl : Array (Option Value)} {oc kV dc pm cd ct : Value} (X : K.In h) (G : h.Ns mainGlobals mg)
    (a : PySem.W.nsIn K mainGlobals x = some (some (.ref f))) (l : K.lookup f = some ⟨oc, od, .func (PySem.W.fnOf x x (defArgs st) (defBody st) (defScope st) .none kV dc pm an cd ct), sl⟩) (c : PySem.W.codeIn K cd x = true) (k : PySem.W.keepIn K (.ref f) = true)
    (hb : ∀ (kV doc pm : Value) (an : Option Addr) (cdv ct : Value), bindArgs (PySem.W.fnOf x x (defArgs st) (defBody st) (defScope st) .none kV doc pm an cdv ct) ⟨[], []⟩ = (newTuple [] >>= fun t => pure [((pv : Str), t)]))
    (hb' : ∀ (kV doc pm : Value) (an : Option Addr) (cdv ct u : Value) (us : List Value), bindArgs (PySem.W.fnOf x x (defArgs st) (defBody st) (defScope st) .none kV doc pm an cdv ct) ⟨u :: us, []⟩ = (newTuple (u :: us) >>= fun t => pure [((pv : Str), t)])) : AtS K mg x st pv :=
  ⟨f, _, PySem.W.mg_of X G a, fun_mk l c k, fun rest => match rest with
    | [] => hb kV dc pm an cd ct
    | u :: us => hb' kV dc pm an cd ct u us⟩
variable {P : Program}
theorem all_mk {fa : Addr} (hfa : mg "law" = some (.ref fa)) (D__law_feed : At K mg "_law_feed" s__law_feed ["_law_script"]) (z_int : mg "int" = none) (D__law_draw : At K mg "_law_draw" s__law_draw ["_law_feed_here", "_law_limit"]) (z_len : mg "len" = none) (D__law_any : At K mg "_law_any" s__law_any ["_law_feed_here", "_law_some"]) (D__law_are_rows_right : At K mg "_law_are_rows_right" s__law_are_rows_right ["_law_feed_here"]) (D__law_row : At K mg "_law_row" s__law_row ["_law_feed_here"]) (D__law_bare : At K mg "_law_bare" s__law_bare ["_law_row_here"]) (z_list : mg "list" = none) (z_tuple : mg "tuple" = none) (z_range : mg "range" = none) (D__law_base : At K mg "_law_base" s__law_base ["_law_feed_here"]) (D__law_round : At K mg "_law_round" s__law_round ["_law_whole"]) (D__law_primes : At K mg "_law_primes" s__law_primes ["_law_whole"]) (D__law_split : At K mg "_law_split" s__law_split ["_law_first", "_law_base_here"]) (z_max : mg "max" = none) (D_times : At K mg "times" s_times ["one", "other"]) (D_need : At K mg "need" s_need ["fits", "word"]) (D_is_polynomial : At K mg "is_polynomial" s_is_polynomial ["thing"]) (D_are_integers : At K mg "are_integers" s_are_integers ["thing"]) (D_is_integer : At K mg "is_integer" s_is_integer ["thing"]) (z_isinstance : mg "isinstance" = none) (z_bool : mg "bool" = none) (z_all : mg "all" = none) (D_trimmed : At K mg "trimmed" s_trimmed ["weights"]) (z_enumerate : mg "enumerate" = none) (D_plus : At K mg "plus" s_plus ["one", "other"]) (D_padded : At K mg "padded" s_padded ["one", "many"]) (z_zip : mg "zip" = none) (D__law_times : At K mg "_law_times" s__law_times ["_law_first", "_law_second"]) (D__law_sum : At K mg "_law_sum" s__law_sum ["_law_first", "_law_second"]) (D_rest_by : At K mg "rest_by" s_rest_by ["one", "divisor"]) (D_is_monic : At K mg "is_monic" s_is_monic ["thing"]) (D_divided : At K mg "divided" s_divided ["one", "divisor"]) (z_reversed : mg "reversed" = none) (D_exact_by : At K mg "exact_by" s_exact_by ["one", "divisor"]) (D_value_at : At K mg "value_at" s_value_at ["one", "number"]) (D__law_value : At K mg "_law_value" s__law_value ["_law_row_here", "_law_spot"]) (D__law_same : At K mg "_law_same" s__law_same ["_law_told", "_law_due"]) (z_repr : mg "repr" = none) (D__law_are_voices_right : At K mg "_law_are_voices_right" s__law_are_voices_right ["_law_feed_here"]) (D__law_tune : At K mg "_law_tune" s__law_tune ["_law_feed_here", "_law_size_in"]) (D__law_turned : At K mg "_law_turned" s__law_turned ["_law_tune_here", "_law_step"]) (D__law_strokes : At K mg "_law_strokes" s__law_strokes ["_law_size_in", "_law_spots"]) (D_polynomial_of : At K mg "polynomial_of" s_polynomial_of ["voice"]) (D_is_voice : At K mg "is_voice" s_is_voice ["thing"]) (D__law_product : At K mg "_law_product" s__law_product ["_law_first", "_law_second"]) (D_product_of : At K mg "product_of" s_product_of ["one", "other"]) (D_is_voice_of : At K mg "is_voice_of" s_is_voice_of ["size", "thing"]) (D__law_is_round_right : At K mg "_law_is_round_right" s__law_is_round_right ["_law_whole"]) (D_cyclotomic : At K mg "cyclotomic" s_cyclotomic ["number"]) (D_is_size : At K mg "is_size" s_is_size ["thing"]) (D_prime_parts : At K mg "prime_parts" s_prime_parts ["number"]) (D_least_prime : At K mg "least_prime" s_least_prime ["number"]) (D_widened : At K mg "widened" s_widened ["one", "step"]) (D_totient_of : At K mg "totient_of" s_totient_of ["number"]) (D_need_number : At K mg "need_number" s_need_number ["number"]) (m_MOST_FACTORED : mg "MOST_FACTORED" = some (.int 10000 tm)) (D__law_divisors : At K mg "_law_divisors" s__law_divisors ["_law_whole"]) (z_sorted : mg "sorted" = none) (z_set : mg "set" = none) (D_law : At K mg "law" s_law ["_law_script"]) :
    ∃ fd : FuncData, (∀ (s : Shared) (v : Value), BindsTo s fd ⟨[v], []⟩ [("_law_script", v)]) ∧ ∀ base : Heap, K.In base → base.Ns mainGlobals mg → base.NoDigits → FnG P w K mg base 7 fa fd ["_law_script"] (spLaw K) := by
  obtain ⟨f, fd, hm, F, _⟩ := D_law.ex
  cases hfa.symm.trans hm
  refine ⟨fd, ?_, fun base _ _ hN => ?_⟩
  · obtain ⟨oc, od, kV, doc, pm, an, cdv, ct, osl, rfl, lk, hcd⟩ := F.ex
    exact fun s v => .of_eq rfl
  have h__law_feed : Cal P w K mg base 1 "_law_feed" (spFeed K) := K2.c__law_feed (P := P) (w := w) (base := base) D__law_feed z_int
  have h__law_draw : Cal P w K mg base 1 "_law_draw" spDraw := K2.c__law_draw (P := P) (w := w) (base := base) D__law_draw z_int z_len
  have h__law_any : Cal P w K mg base 2 "_law_any" spAny := K2.c__law_any (P := P) (w := w) (base := base) D__law_any h__law_draw z_len
  have h__law_bare : Cal P w K mg base 1 "_law_bare" (spBare K) := K2.c__law_bare (P := P) (w := w) (base := base) D__law_bare z_list z_tuple
  have h__law_row : Cal P w K mg base 3 "_law_row" spRow := K2.c__law_row (P := P) (w := w) (base := base) D__law_row h__law_draw h__law_any h__law_bare z_range
  have h__law_primes : Cal P w K mg base 1 "_law_primes" spFacs := K2.c__law_primes (P := P) (w := w) (base := base) D__law_primes z_int
  have h__law_split : Cal P w K mg base 2 "_law_split" spDiv := K2.c__law_split (P := P) (w := w) (base := base) D__law_split h__law_bare z_len z_list z_range z_max
  have h__law_round : Cal P w K mg base 3 "_law_round" spCyc := K2.c__law_round (P := P) (w := w) (base := base) D__law_round h__law_primes h__law_split z_len z_range z_tuple
  have h__law_base : Cal P w K mg base 4 "_law_base" spBase := K2.c__law_base (P := P) (w := w) (base := base) D__law_base h__law_draw h__law_round z_range z_tuple
  have h_need : Cal P w K mg base 1 "need" spNeed := K2.c_need (P := P) (w := w) (base := base) D_need
  have h_is_integer : Cal P w K mg base 1 "is_integer" spIsInt := K2.c_is_integer (P := P) (w := w) (base := base) D_is_integer z_isinstance z_int z_bool
  have h_are_integers : Cal P w K mg base 2 "are_integers" (spAreInts K) := K2.c_are_integers (P := P) (w := w) (base := base) D_are_integers h_is_integer z_isinstance z_tuple z_all
  have h_is_polynomial : Cal P w K mg base 3 "is_polynomial" spIsPoly := K2.c_is_polynomial (P := P) (w := w) (base := base) D_is_polynomial h_are_integers
  have h_trimmedL : Cal P w K mg base 1 "trimmed" spTrimL := K2.c_trimmedL (P := P) (w := w) (base := base) D_trimmed z_len z_tuple
  have h_times : Cal P w K mg base 4 "times" spTimes := K2.c_times (P := P) (w := w) (base := base) D_times h_need h_is_polynomial h_trimmedL z_len z_range z_enumerate
  have h_padded : Cal P w K mg base 1 "padded" spPad := K2.c_padded (P := P) (w := w) (base := base) D_padded z_len
  have h_plus : Cal P w K mg base 4 "plus" spPlus := K2.c_plus (P := P) (w := w) (base := base) D_plus h_need h_is_polynomial h_padded h_trimmedL z_len z_zip z_max
  have h__law_times : Cal P w K mg base 2 "_law_times" spTimes := K2.c__law_times (P := P) (w := w) (base := base) D__law_times h__law_bare z_len z_range z_max
  have h__law_sum : Cal P w K mg base 2 "_law_sum" spPlus := K2.c__law_sum (P := P) (w := w) (base := base) D__law_sum h__law_bare z_len z_list z_range
  have h_is_monic : Cal P w K mg base 3 "is_monic" spIsMonic := K2.c_is_monic (P := P) (w := w) (base := base) D_is_monic h_are_integers
  have h_divided : Cal P w K mg base 2 "divided" spDiv := K2.c_divided (P := P) (w := w) (base := base) D_divided h_trimmedL z_len z_list z_range z_reversed
  have h_rest_by : Cal P w K mg base 4 "rest_by" spRest := K2.c_rest_by (P := P) (w := w) (base := base) D_rest_by h_need h_is_polynomial h_is_monic h_divided
  have h_exact_by : Cal P w K mg base 4 "exact_by" spExact := K2.c_exact_by (P := P) (w := w) (base := base) D_exact_by h_need h_is_polynomial h_is_monic h_divided
  have h_value_at : Cal P w K mg base 4 "value_at" spValue := K2.c_value_at (P := P) (w := w) (base := base) D_value_at h_need h_is_polynomial h_is_integer z_list z_reversed
  have h__law_value : Cal P w K mg base 1 "_law_value" spValue := K2.c__law_value (P := P) (w := w) (base := base) D__law_value
  have h__law_sameW : CalG P w K mg base 1 "_law_same" ["_law_told", "_law_due"] (spSameW K) := K2.c__law_sameW (P := P) (w := w) (base := base) hN D__law_same z_repr
  have h__law_are_rows_right : CalG P w K mg base 5 "_law_are_rows_right" ["_law_feed_here"] spRows := K2.c__law_are_rows_right (P := P) (w := w) (base := base) D__law_are_rows_right h__law_row h__law_base h_times h_plus h__law_times h__law_sum h__law_split h_rest_by h_exact_by h__law_any h_value_at h__law_value h__law_sameW
  have h__law_turned : Cal P w K mg base 1 "_law_turned" spTurn := K2.c__law_turned (P := P) (w := w) (base := base) D__law_turned z_len z_range z_int z_tuple
  have h__law_strokes : Cal P w K mg base 1 "_law_strokes" (spStrokes K) := K2.c__law_strokes (P := P) (w := w) (base := base) D__law_strokes z_range z_int z_tuple
  have h__law_tune : Cal P w K mg base 3 "_law_tune" spTune := K2.c__law_tune (P := P) (w := w) (base := base) D__law_tune h__law_draw h__law_any h__law_turned h__law_strokes z_range z_int z_tuple z_list
  have h_is_voice : Cal P w K mg base 3 "is_voice" spIsVoice := K2.c_is_voice (P := P) (w := w) (base := base) D_is_voice h_are_integers z_len
  have h_trimmedT : Cal P w K mg base 1 "trimmed" spTrimT := K2.c_trimmedT (P := P) (w := w) (base := base) D_trimmed z_len z_tuple
  have h_polynomial_of : Cal P w K mg base 4 "polynomial_of" spPolyOf := K2.c_polynomial_of (P := P) (w := w) (base := base) D_polynomial_of h_need h_is_voice h_trimmedT
  have h__law_product : Cal P w K mg base 1 "_law_product" spProd := K2.c__law_product (P := P) (w := w) (base := base) D__law_product z_len z_range z_int z_tuple
  have h_is_voice_of : Cal P w K mg base 4 "is_voice_of" spIsVoiceOf := K2.c_is_voice_of (P := P) (w := w) (base := base) D_is_voice_of h_is_voice z_len
  have h_product_of : Cal P w K mg base 5 "product_of" spProd := K2.c_product_of (P := P) (w := w) (base := base) D_product_of h_need h_is_voice h_is_voice_of z_len z_range z_enumerate z_tuple
  have h__law_are_voices_right : CalG P w K mg base 6 "_law_are_voices_right" ["_law_feed_here"] spVoices := K2.c__law_are_voices_right (P := P) (w := w) (base := base) D__law_are_voices_right h__law_draw h__law_tune h_polynomial_of h__law_bare h__law_product h_rest_by h_times h_product_of h__law_sameW
  have h_is_size : Cal P w K mg base 2 "is_size" spIsSize := K2.c_is_size (P := P) (w := w) (base := base) D_is_size h_is_integer
  have h_least_prime : Cal P w K mg base 1 "least_prime" spLeast := K2.c_least_prime (P := P) (w := w) (base := base) D_least_prime
  have h_prime_parts : Cal P w K mg base 2 "prime_parts" spParts := K2.c_prime_parts (P := P) (w := w) (base := base) D_prime_parts h_least_prime z_tuple
  have h_widened : Cal P w K mg base 1 "widened" spWid := K2.c_widened (P := P) (w := w) (base := base) D_widened z_len z_range z_enumerate z_tuple
  have h_cyclotomic : Cal P w K mg base 5 "cyclotomic" spCyc := K2.c_cyclotomic (P := P) (w := w) (base := base) D_cyclotomic h_need h_is_size h_prime_parts h_widened h_exact_by
  have h_need_number : Cal P w K mg base 3 "need_number" spNum := K2.c_need_number (P := P) (w := w) (base := base) D_need_number h_need h_is_size m_MOST_FACTORED
  have h_totient_of : Cal P w K mg base 4 "totient_of" spTot := K2.c_totient_of (P := P) (w := w) (base := base) D_totient_of h_need_number h_prime_parts
  have h__law_divisors : Cal P w K mg base 2 "_law_divisors" spDvs := K2.c__law_divisors (P := P) (w := w) (base := base) D__law_divisors h__law_primes z_sorted z_set z_tuple
  have h__law_same : CalG P w K mg base 1 "_law_same" ["_law_told", "_law_due"] (spSame K) := K2.c__law_same (P := P) (w := w) (base := base) D__law_same z_repr
  have h__law_is_round_right : CalG P w K mg base 6 "_law_is_round_right" ["_law_whole"] spRound := K2.c__law_is_round_right (P := P) (w := w) (base := base) D__law_is_round_right h_cyclotomic h__law_round h__law_primes h_value_at h_totient_of h__law_divisors h__law_times h__law_sameW h__law_same z_len
  exact okG_law F h__law_feed h__law_draw h__law_any h__law_are_rows_right h__law_are_voices_right h__law_is_round_right z_range
end
end K2

set_option Elab.async false
set_option linter.all false
open PySem PySem.W PyProof.Rows
set_option maxRecDepth 100000 in
set_option maxHeartbeats 0 in
theorem PySem.Challenge.cw_silentbeats_k02_whole_polynomials_holds : PySem.Challenge.rw_silentbeats_k02_whole_polynomials.Holds := by
  w_on; o_law; k_head; (case hw => w_witness2)
  k_fill
  refine Gd.walkGD (l := PySem.Challenge.rw_silentbeats_k02_whole_polynomials) (n := 63) (k := 7) (x := "_law_script") (sp := K2.spLaw) rfl (by decide) rfl ⟨rfl, by decide, by decide⟩ (fun w h Y => PySem.W.kIn_of Y) ?F (fun _ _ a ns hl _ hS => ⟨a, ns, rfl, hS, hl, fun _ => rfl⟩)
  case F =>
    intro w mg fa h KX G hmg
    refine' K2.all_mk hmg (K2.at1 (x := "_law_feed") (st := K2.s__law_feed) KX G ?a1 ?l1 ?c1 ?k1 (fun _ _ _ _ _ _ _ => rfl)) (PySem.W.mg_none_of KX G ?z2) (K2.at2 (x := "_law_draw") (st := K2.s__law_draw) KX G ?a3 ?l3 ?c3 ?k3 (fun _ _ _ _ _ _ _ _ => rfl)) (PySem.W.mg_none_of KX G ?z4) (K2.at2 (x := "_law_any") (st := K2.s__law_any) KX G ?a5 ?l5 ?c5 ?k5 (fun _ _ _ _ _ _ _ _ => rfl)) (K2.at1 (x := "_law_are_rows_right") (st := K2.s__law_are_rows_right) KX G ?a6 ?l6 ?c6 ?k6 (fun _ _ _ _ _ _ _ => rfl)) (K2.at1 (x := "_law_row") (st := K2.s__law_row) KX G ?a7 ?l7 ?c7 ?k7 (fun _ _ _ _ _ _ _ => rfl)) (K2.at1 (x := "_law_bare") (st := K2.s__law_bare) KX G ?a8 ?l8 ?c8 ?k8 (fun _ _ _ _ _ _ _ => rfl)) (PySem.W.mg_none_of KX G ?z9) (PySem.W.mg_none_of KX G ?z10) (PySem.W.mg_none_of KX G ?z11) (K2.at1 (x := "_law_base") (st := K2.s__law_base) KX G ?a12 ?l12 ?c12 ?k12 (fun _ _ _ _ _ _ _ => rfl)) (K2.at1 (x := "_law_round") (st := K2.s__law_round) KX G ?a13 ?l13 ?c13 ?k13 (fun _ _ _ _ _ _ _ => rfl)) (K2.at1 (x := "_law_primes") (st := K2.s__law_primes) KX G ?a14 ?l14 ?c14 ?k14 (fun _ _ _ _ _ _ _ => rfl)) (K2.at2 (x := "_law_split") (st := K2.s__law_split) KX G ?a15 ?l15 ?c15 ?k15 (fun _ _ _ _ _ _ _ _ => rfl)) (PySem.W.mg_none_of KX G ?z16) (K2.at2 (x := "times") (st := K2.s_times) KX G ?a17 ?l17 ?c17 ?k17 (fun _ _ _ _ _ _ _ _ => rfl)) (K2.at2 (x := "need") (st := K2.s_need) KX G ?a18 ?l18 ?c18 ?k18 (fun _ _ _ _ _ _ _ _ => rfl)) (K2.at1 (x := "is_polynomial") (st := K2.s_is_polynomial) KX G ?a19 ?l19 ?c19 ?k19 (fun _ _ _ _ _ _ _ => rfl)) (K2.at1 (x := "are_integers") (st := K2.s_are_integers) KX G ?a20 ?l20 ?c20 ?k20 (fun _ _ _ _ _ _ _ => rfl)) (K2.at1 (x := "is_integer") (st := K2.s_is_integer) KX G ?a21 ?l21 ?c21 ?k21 (fun _ _ _ _ _ _ _ => rfl)) (PySem.W.mg_none_of KX G ?z22) (PySem.W.mg_none_of KX G ?z23) (PySem.W.mg_none_of KX G ?z24) (K2.at1 (x := "trimmed") (st := K2.s_trimmed) KX G ?a25 ?l25 ?c25 ?k25 (fun _ _ _ _ _ _ _ => rfl)) (PySem.W.mg_none_of KX G ?z26) (K2.at2 (x := "plus") (st := K2.s_plus) KX G ?a27 ?l27 ?c27 ?k27 (fun _ _ _ _ _ _ _ _ => rfl)) (K2.at2 (x := "padded") (st := K2.s_padded) KX G ?a28 ?l28 ?c28 ?k28 (fun _ _ _ _ _ _ _ _ => rfl)) (PySem.W.mg_none_of KX G ?z29) (K2.at2 (x := "_law_times") (st := K2.s__law_times) KX G ?a30 ?l30 ?c30 ?k30 (fun _ _ _ _ _ _ _ _ => rfl)) (K2.at2 (x := "_law_sum") (st := K2.s__law_sum) KX G ?a31 ?l31 ?c31 ?k31 (fun _ _ _ _ _ _ _ _ => rfl)) (K2.at2 (x := "rest_by") (st := K2.s_rest_by) KX G ?a32 ?l32 ?c32 ?k32 (fun _ _ _ _ _ _ _ _ => rfl)) (K2.at1 (x := "is_monic") (st := K2.s_is_monic) KX G ?a33 ?l33 ?c33 ?k33 (fun _ _ _ _ _ _ _ => rfl)) (K2.at2 (x := "divided") (st := K2.s_divided) KX G ?a34 ?l34 ?c34 ?k34 (fun _ _ _ _ _ _ _ _ => rfl)) (PySem.W.mg_none_of KX G ?z35) (K2.at2 (x := "exact_by") (st := K2.s_exact_by) KX G ?a36 ?l36 ?c36 ?k36 (fun _ _ _ _ _ _ _ _ => rfl)) (K2.at2 (x := "value_at") (st := K2.s_value_at) KX G ?a37 ?l37 ?c37 ?k37 (fun _ _ _ _ _ _ _ _ => rfl)) (K2.at2 (x := "_law_value") (st := K2.s__law_value) KX G ?a38 ?l38 ?c38 ?k38 (fun _ _ _ _ _ _ _ _ => rfl)) (K2.at2 (x := "_law_same") (st := K2.s__law_same) KX G ?a39 ?l39 ?c39 ?k39 (fun _ _ _ _ _ _ _ _ => rfl)) (PySem.W.mg_none_of KX G ?z40) (K2.at1 (x := "_law_are_voices_right") (st := K2.s__law_are_voices_right) KX G ?a41 ?l41 ?c41 ?k41 (fun _ _ _ _ _ _ _ => rfl)) (K2.at2 (x := "_law_tune") (st := K2.s__law_tune) KX G ?a42 ?l42 ?c42 ?k42 (fun _ _ _ _ _ _ _ _ => rfl)) (K2.at2 (x := "_law_turned") (st := K2.s__law_turned) KX G ?a43 ?l43 ?c43 ?k43 (fun _ _ _ _ _ _ _ _ => rfl)) (K2.at2 (x := "_law_strokes") (st := K2.s__law_strokes) KX G ?a44 ?l44 ?c44 ?k44 (fun _ _ _ _ _ _ _ _ => rfl)) (K2.at1 (x := "polynomial_of") (st := K2.s_polynomial_of) KX G ?a45 ?l45 ?c45 ?k45 (fun _ _ _ _ _ _ _ => rfl)) (K2.at1 (x := "is_voice") (st := K2.s_is_voice) KX G ?a46 ?l46 ?c46 ?k46 (fun _ _ _ _ _ _ _ => rfl)) (K2.at2 (x := "_law_product") (st := K2.s__law_product) KX G ?a47 ?l47 ?c47 ?k47 (fun _ _ _ _ _ _ _ _ => rfl)) (K2.at2 (x := "product_of") (st := K2.s_product_of) KX G ?a48 ?l48 ?c48 ?k48 (fun _ _ _ _ _ _ _ _ => rfl)) (K2.at2 (x := "is_voice_of") (st := K2.s_is_voice_of) KX G ?a49 ?l49 ?c49 ?k49 (fun _ _ _ _ _ _ _ _ => rfl)) (K2.at1 (x := "_law_is_round_right") (st := K2.s__law_is_round_right) KX G ?a50 ?l50 ?c50 ?k50 (fun _ _ _ _ _ _ _ => rfl)) (K2.at1 (x := "cyclotomic") (st := K2.s_cyclotomic) KX G ?a51 ?l51 ?c51 ?k51 (fun _ _ _ _ _ _ _ => rfl)) (K2.at1 (x := "is_size") (st := K2.s_is_size) KX G ?a52 ?l52 ?c52 ?k52 (fun _ _ _ _ _ _ _ => rfl)) (K2.at1 (x := "prime_parts") (st := K2.s_prime_parts) KX G ?a53 ?l53 ?c53 ?k53 (fun _ _ _ _ _ _ _ => rfl)) (K2.at1 (x := "least_prime") (st := K2.s_least_prime) KX G ?a54 ?l54 ?c54 ?k54 (fun _ _ _ _ _ _ _ => rfl)) (K2.at2 (x := "widened") (st := K2.s_widened) KX G ?a55 ?l55 ?c55 ?k55 (fun _ _ _ _ _ _ _ _ => rfl)) (K2.at1 (x := "totient_of") (st := K2.s_totient_of) KX G ?a56 ?l56 ?c56 ?k56 (fun _ _ _ _ _ _ _ => rfl)) (K2.at1 (x := "need_number") (st := K2.s_need_number) KX G ?a57 ?l57 ?c57 ?k57 (fun _ _ _ _ _ _ _ => rfl)) (PySem.W.mg_of KX G ?m58) (K2.at1 (x := "_law_divisors") (st := K2.s__law_divisors) KX G ?a59 ?l59 ?c59 ?k59 (fun _ _ _ _ _ _ _ => rfl)) (PySem.W.mg_none_of KX G ?z60) (PySem.W.mg_none_of KX G ?z61) (K2.at1 (x := "law") (st := K2.s_law) KX G ?a62 ?l62 ?c62 ?k62 (fun _ _ _ _ _ _ _ => rfl))
    (case a1 => k_is); (case l1 => k_is); (case c1 => k_is); (case k1 => k_is); (case z2 => k_is); (case a3 => k_is); (case l3 => k_is); (case c3 => k_is); (case k3 => k_is); (case z4 => k_is); (case a5 => k_is); (case l5 => k_is); (case c5 => k_is); (case k5 => k_is); (case a6 => k_is); (case l6 => k_is); (case c6 => k_is); (case k6 => k_is); (case a7 => k_is); (case l7 => k_is); (case c7 => k_is); (case k7 => k_is); (case a8 => k_is); (case l8 => k_is); (case c8 => k_is); (case k8 => k_is); (case z9 => k_is); (case z10 => k_is); (case z11 => k_is); (case a12 => k_is); (case l12 => k_is); (case c12 => k_is); (case k12 => k_is); (case a13 => k_is); (case l13 => k_is); (case c13 => k_is); (case k13 => k_is); (case a14 => k_is); (case l14 => k_is); (case c14 => k_is); (case k14 => k_is); (case a15 => k_is); (case l15 => k_is); (case c15 => k_is); (case k15 => k_is); (case z16 => k_is); (case a17 => k_is); (case l17 => k_is); (case c17 => k_is); (case k17 => k_is); (case a18 => k_is); (case l18 => k_is); (case c18 => k_is); (case k18 => k_is); (case a19 => k_is); (case l19 => k_is); (case c19 => k_is); (case k19 => k_is); (case a20 => k_is); (case l20 => k_is); (case c20 => k_is); (case k20 => k_is); (case a21 => k_is); (case l21 => k_is); (case c21 => k_is); (case k21 => k_is); (case z22 => k_is); (case z23 => k_is); (case z24 => k_is); (case a25 => k_is); (case l25 => k_is); (case c25 => k_is); (case k25 => k_is); (case z26 => k_is); (case a27 => k_is); (case l27 => k_is); (case c27 => k_is); (case k27 => k_is); (case a28 => k_is); (case l28 => k_is); (case c28 => k_is); (case k28 => k_is); (case z29 => k_is); (case a30 => k_is); (case l30 => k_is); (case c30 => k_is); (case k30 => k_is); (case a31 => k_is); (case l31 => k_is); (case c31 => k_is); (case k31 => k_is); (case a32 => k_is); (case l32 => k_is); (case c32 => k_is); (case k32 => k_is); (case a33 => k_is); (case l33 => k_is); (case c33 => k_is); (case k33 => k_is); (case a34 => k_is); (case l34 => k_is); (case c34 => k_is); (case k34 => k_is); (case z35 => k_is); (case a36 => k_is); (case l36 => k_is); (case c36 => k_is); (case k36 => k_is); (case a37 => k_is); (case l37 => k_is); (case c37 => k_is); (case k37 => k_is); (case a38 => k_is); (case l38 => k_is); (case c38 => k_is); (case k38 => k_is); (case a39 => k_is); (case l39 => k_is); (case c39 => k_is); (case k39 => k_is); (case z40 => k_is); (case a41 => k_is); (case l41 => k_is); (case c41 => k_is); (case k41 => k_is); (case a42 => k_is); (case l42 => k_is); (case c42 => k_is); (case k42 => k_is); (case a43 => k_is); (case l43 => k_is); (case c43 => k_is); (case k43 => k_is); (case a44 => k_is); (case l44 => k_is); (case c44 => k_is); (case k44 => k_is); (case a45 => k_is); (case l45 => k_is); (case c45 => k_is); (case k45 => k_is); (case a46 => k_is); (case l46 => k_is); (case c46 => k_is); (case k46 => k_is); (case a47 => k_is); (case l47 => k_is); (case c47 => k_is); (case k47 => k_is); (case a48 => k_is); (case l48 => k_is); (case c48 => k_is); (case k48 => k_is); (case a49 => k_is); (case l49 => k_is); (case c49 => k_is); (case k49 => k_is); (case a50 => k_is); (case l50 => k_is); (case c50 => k_is); (case k50 => k_is); (case a51 => k_is); (case l51 => k_is); (case c51 => k_is); (case k51 => k_is); (case a52 => k_is); (case l52 => k_is); (case c52 => k_is); (case k52 => k_is); (case a53 => k_is); (case l53 => k_is); (case c53 => k_is); (case k53 => k_is); (case a54 => k_is); (case l54 => k_is); (case c54 => k_is); (case k54 => k_is); (case a55 => k_is); (case l55 => k_is); (case c55 => k_is); (case k55 => k_is); (case a56 => k_is); (case l56 => k_is); (case c56 => k_is); (case k56 => k_is); (case a57 => k_is); (case l57 => k_is); (case c57 => k_is); (case k57 => k_is); (case m58 => k_is); (case a59 => k_is); (case l59 => k_is); (case c59 => k_is); (case k59 => k_is); (case z60 => k_is); (case z61 => k_is); (case a62 => k_is); (case l62 => k_is); (case c62 => k_is); (case k62 => k_is)
