import PyProof.Rows.All
import PySem.Challenge.RW_silentbeats_k32_whole_kin_by_all_turns
import HandS.ForMost
import HandS.Gcd
import HandS.Wide
import HandS.Star
import HandS.Conv
import HandS.Strs
import HandS.Flow
import HandS.IsInst
import HandS.Codes
import HandS.Walk
import HandS.SortInts
import HandS.SetFor
import HandS.Defaults
import PyProof.ReprRoads
import HandS.TupMul
import HandS.Zip
import HandS.TupAny
import PyProof.WalkInts
import PyProof.Rows.SumAny
import KE.GoesEnum
import KE.GoesMore
import PyProof.EnumMake
import KE.GoesZip
import KE.KTurns
import PyProof.ZipIter
import HandS.Style
import HandS.Words
import HandS.ExcInit
import HandS.WordsExc
import HandS.TryOnly
import KE.KExcIs
import HandS.Exc
import HandS.ExcIs
import HandS.ExcField
import HandS.Lambda
import PyProof.ReprLen
import PyProof.FitsInt
import PyProof.Rows.StrOr
import HandS.RaiseMore
import HandS.NoneIn
import HandS.StrMore
import PyProof.Rows.Digits
import HandS.RevRange
import HandS.DictComp
import HandS.TupSets
import HandS.Deep
set_option Elab.async false
set_option linter.all false
set_option maxRecDepth 100000
/-! Defs that run where no repr is under way; repr of data. -/
namespace Gd
open PySem PySem.Spec PyProof.Rows L2

/-- a def's promise, given that no guard stands around the call -/
structure FnG (P : Program) (w : World) (K : PySem.W.Frag) (mg : Str → Option Value) (base : Heap) (k : Nat) (f : Addr) (fd : FuncData) (ps : List Str) (sp : Sp) : Prop where
  len : ∀ vs H Q E, sp vs H Q E → vs.length = ps.length
  go : ∀ {A : Around} {outer : List Env} {s : Shared} {H : Hp} {args : Args} {us : List Value} {vs : List V} {Q : VK} {E : XK},
    Room k A → A.guards = some [] → Env0 P w K mg base A outer s H → BindsTo s fd args (ps.zip us) → Vals vs us → sp vs H Q E →
    codeAny (model P w) A (.call (.ref f) args) (CR CX0 outer P w H s Q E) s

section
variable {P : Program} {w : World} {K : PySem.W.Frag} {mg : Str → Option Value} {base : Heap}

theorem FnG.of {k : Nat} {f : Addr} {fd : FuncData} {ps : List Str} {sp : Sp} (F : FnOk P w K mg base CX0 k f fd ps sp) : FnG P w K mg base k f fd ps sp :=
  ⟨F.len, fun hr _ e b v q => F.run _ _ _ _ _ _ _ _ _ hr e b v q⟩
theorem FnG.mono {j k : Nat} {f : Addr} {fd : FuncData} {ps : List Str} {sp : Sp} (F : FnG P w K mg base j f fd ps sp) (h : j ≤ k) : FnG P w K mg base k f fd ps sp :=
  ⟨F.len, fun hr g e b v q => F.go (hr.mono h) g e b v q⟩

/-- the rule for such a def, by its body -/
theorem okG {x qual : Str} {st : Stmt} {f : Addr} {fd : FuncData} {N ps : List Str} {k : Nat} {sp : Sp} (F : Fun K x qual st f fd) (S : FnScope N ps (defScope st))
    (len : ∀ vs H Q E, sp vs H Q E → vs.length = ps.length)
    (body : ∀ (cdv : Value) (A : Around) (outer : List Env) (s : Shared) (H : Hp) (vs : List V) (Q : VK) (E : XK),
      Room k (A.deeper (envOfC qual (defScope st) s.heap.objs.size f cdv)) → (A.deeper (envOfC qual (defScope st) s.heap.objs.size f cdv)).guards = some [] → sp vs H Q E →
      ∃ t, PSs (cxOf CX0 P w K mg base N qual (defScope st) f cdv A outer s H E).nox (defBody st) t ∧ t { nx := fun _ H' => Q .non H', rt := Q } (start N vs) H) :
    FnG P w K mg base (k + 1) f fd ps sp := by
  obtain ⟨oc, od, kV, doc, pm, an, cdv, ct, osl, rfl, lk, hcd⟩ := F.ex
  refine ⟨len, ?_⟩
  intro A outer s H args us vs Q E hr hg e0 hb r hsp
  have hlen := len _ _ _ _ hsp
  have keep : ∀ b o, base.get? b = some o → s.heap.get? b = some o := fun b o e => (e0.bs b o e).1
  have kin := e0.mod.kin.keeps keep
  have nolim := e0.mod.nolimit.keeps keep
  refine codeAny_call_function hr.depth (kin _ _ lk) rfl S.co S.gen rfl (PySem.W.codeRec_of kin hcd) (hb _ _ _ _ ?_)
  refine wpAny_newFunctionEnv_cells S.kind (fun y hy => ?kinds) (fun env he s1 x => ?run)
  case kinds =>
    have hp := List.of_mem_zip (a := y.1) (b := y.2) hy
    exact (S.par y.1 hp.1).imp id fun q => ⟨q, PySem.W.cellsFrom_some _ _ _ (.inl q)⟩
  case run =>
    cases he
    refine ⟨nolim.keeps x.toInCall.keep, codeAny_func ?_⟩
    obtain ⟨t, ht, hq⟩ := body cdv A outer s H vs Q E (hr.deeper _) hg hsp
    have I := inv_start (CX := CX0) (P := P) (w := w) (mg := mg) (E := E) S hr.hd e0 hlen r x
    have fin : ∀ {σ' : L2.St} {H' : Hp} {s' : Shared} {v : V} {u : Value}, Inv (cxOf CX0 P w K mg base N qual (defScope st) f cdv A outer s H E) [] σ' H' s' → RelV v u → Q v H' → CE outer P w H s Q u s' :=
      fun J rv q => ⟨_, _, J.os, J.bare, J.base, J.hok, rv, q⟩
    refine wpAny_mono (ht.nox.run [] s1 (start N vs) H _ I hq) (fun fl s' hs => ?_) (fun _ _ hs => hs)
    match fl, hs with
    | .ret u, ⟨_, _, _, J, rv, q⟩ => exact fin J rv q
    | .next, ⟨_, _, J, q⟩ => exact fin (v := V.non) (u := Value.none) J rfl q
    | .brk, ⟨_, _, _, q⟩ => exact q.elim
    | .cont, ⟨_, _, _, q⟩ => exact q.elim
end

section
variable {X : Cx} {k : Nat} {f : Addr} {fd : FuncData} {ps : List Str} {sp : Sp} {dvs : List V} {ds : List Value} {E : XK} {x : Str} {p pos : Pos} {e : Expr} {es : List Expr} {t : TA}

theorem runG {pins : List (Addr × Obj)} {σ : L2.St} {H : Hp} {s : Shared} {Q : VK} {us : List Value} {vs : List V} (F : FnG X.prog X.w X.K X.mg X.base k f fd ps sp) (hr : Room k X.A) (hG : X.A.guards = some []) (hb : Binds X.K fd ps [])
    (I : Inv X pins σ H s) (r : Vals vs us) (h : sp vs H Q E) : wpAny (model X.prog X.w) X.A (call (.ref f) us) (EP X pins σ Q) X.xe s := by
  have hl : (us ++ ([] : List Value)).length = ps.length := by
    rw [List.append_nil, ← r.length]
    exact F.len _ _ _ _ h
  have bt := hb s us I.kIn hl
  rw [List.append_nil] at bt
  refine wpAny_call (codeAny_mono (F.go hr hG I.env0 bt r h) fun res s' hq => ?_)
  match res, hq with
  | .ok (.ret _), hq => exact I.after hq
  | .ok .next, hq => exact hq.elim
  | .ok .brk, hq => exact hq.elim
  | .ok .cont, hq => exact hq.elim
  | .error _, hq => exact hq.elim

/-- f(e, ..) of such a def -/
theorem pe_callG (F : FnG X.prog X.w X.K X.mg X.base k f fd ps sp) (hr : Room k X.A) (hG : X.A.guards = some []) (hg : Gl X x) (hm : X.mg x = some (.ref f)) (hk : PySem.W.keepIn X.K (.ref f) = true) (hb : Binds X.K fd ps [])
    (ha : PA X (e :: es) t) (hdb : (x == ("__debug__" : Str)) = false := by decide) (he : starEach (e :: es) X.env = (false, eval e X.env) :: starEach es X.env := by rfl)
    (hpl : (backTo pos (starEach es X.env)).any (·.1) = false := by rfl) :
    PE X (.Call (.Name x p) (e :: es) [] pos) (fun σ H Q => t σ H fun vs H1 => sp vs H1 Q E0) := by
  constructor
  intro pins s σ H Q I h
  refine wpAny_Call_Name_kw (ld_glob I hg hm ?_ hdb)
  refine PySem.W.callWith_K (h₀ := X.base) I.ok.mod.kin hk ?_ he hpl
  refine thn (ha.run pos pins s σ H _ I h) ?_
  rintro us s1 ⟨vs, H1, I1, r, q⟩
  exact ⟨I1.kIn, runG F hr hG hb I1 r q⟩

/-- repr of data -/
def rRepr (K : PySem.W.Frag) : List V → Hp → VK → Prop := fun xs H Q => ∃ (a : Addr) (d : PyData), xs = [.ref a] ∧ Dp K H (.ref a) d ∧ d.showable = true ∧ d.hasDict = false ∧ d.depth ≤ 20 ∧ d.shown.length ≤ sizeLine ∧ Q (.str d.shown) H
theorem call_repr (hr : Room k X.A) (hG : X.A.guards = some []) : CallR X (.builtin "repr") (rRepr X.K) := by
  intro pins s σ H xs us Q I r h
  obtain ⟨a, d, rfl, hd, hs, hn, hdep, hz, q⟩ := h
  obtain ⟨u, rfl, ru⟩ := vals1 r
  cases ru
  obtain ⟨as, hrd⟩ := Dp.reads I d (.ref a) (.ref a) hd rfl
  refine repr_of_reads' hrd hs (PyData.noDict_hsm hn) hG ?_ (fun _ _ e => e) (fun h' u tk hk => ?_) hz
  · have := hr.units
    omega
  · exact ⟨.str d.shown, H, I.kept hk, ⟨u, rfl⟩, q⟩
end
end Gd

set_option Elab.async false
set_option linter.all false
set_option maxRecDepth 100000
namespace Gd
open PySem PySem.Spec PyProof.Rows L2

/-- the law's end from such a promise: what an abstract heap that tracks at most the script gives -/
theorem endG {P : Program} {w : World} {K : PySem.W.Frag} {mg mb : Str → Option Value} {k : Nat} {fa a : Addr} {fd : FuncData} {x : Str} {sp : Sp} {s1 : Shared} {vs : List Value} {H : Hp}
    (kin : K.In s1.heap) (glob : s1.heap.Ns mainGlobals mg) (bn : s1.heap.Ns builtinsNs mb) (bb : ∀ x : Str, x ≠ "__name__" → mb x = bootBuiltins x) (lim : s1.heap.NoLimit) (gens : s1.gens = #[])
    (hat : s1.heap.get? a = some { cls := .type "list", data := .seq vs.toArray }) (hr : Room k callerA)
    (F : ∀ base : Heap, K.In base → base.Ns mainGlobals mg → FnG P w K mg base k fa fd [x] sp) (bind : ∀ (s : Shared) (u : Value), BindsTo s fd ⟨[u], []⟩ [(x, u)])
    (sps : sp [.ref a] H (fun v _ => v = .bl true) fun _ _ _ => False) (only : Only H) (ok : HOk P w H s1.heap) (isA : ∀ b, H b ≠ none → b = a) (noK : H a ≠ none → K.lookup a = none) :
    codeAny (model P w) callerA (.call (.ref fa) ⟨[.ref a], []⟩) (fun r s' => r = .ok (.ret (.bool true)) ∧ OldK s1.heap s'.heap ∧ s'.os = s1.os ∧ AllBare s'.gens) s1 := by
  have none_of : ∀ {b : Addr}, b ≠ a → H b = none := fun {b} hb => by
    cases q : H b with
    | none => rfl
    | some u => exact absurd (isA b (by rw [q]; exact Option.some_ne_none u)) hb
  have none_dict : ∀ {b : Addr} {o : Obj} {es : Array DictEntry} {n : Nat}, s1.heap.get? b = some o → o.data = .dict es n → H b = none := by
    intro b o es n e d
    refine none_of fun z => ?_
    subst z
    cases hat.symm.trans e
    cases d
  have ns_of : ∀ {b : Addr} {m : Str → Option Value}, s1.heap.Ns b m → (hidT s1.heap H).Ns b m := by
    rintro b m ⟨o, es, n, e, d, more⟩
    exact ⟨o, es, n, hidT_get e (none_dict e d), d, more⟩
  have kinB : K.In (hidT s1.heap H) := by
    intro b o e
    refine hidT_get (kin b o e) ?_
    by_cases hb : b = a
    · subst hb
      cases q : H b with
      | none => rfl
      | some u =>
        have z := noK (by rw [q]; exact Option.some_ne_none u)
        rw [z] at e
        cases e
    · exact none_of hb
  have md : Mod K mg (hidT s1.heap H) := ⟨kinB, ns_of glob, ⟨mb, ns_of bn, bb⟩, let ⟨mc, c1, c2⟩ := lim; ⟨mc, ns_of c1, c2⟩⟩
  have e0 : Env0 P w K mg (hidT s1.heap H) callerA [] s1 H :=
    { frames := rfl, mod := md, bs := fun b o e => of_hidT e, bsz := Nat.le_of_eq (hidT_size _ _), funs := trivial, frf := fun _ z => (List.not_mem_nil z).elim, hok := ok, bare := .of_eq gens }
  refine codeAny_mono ((F _ kinB (ns_of glob)).go (us := [.ref a]) (vs := [.ref a]) hr rfl e0 (bind s1 (.ref a)) (.cons rfl .nil) sps) fun r s' h => ?_
  match r, h with
  | .error _, h => exact h.elim
  | .ok .next, h => exact h.elim
  | .ok .brk, h => exact h.elim
  | .ok .cont, h => exact h.elim
  | .ok (.ret u), ⟨v, H', os, bare, un, ok', rv, (hv : v = .bl true)⟩ =>
    subst hv
    obtain rfl : u = Value.bool true := rv
    refine ⟨rfl, OldK.of_keep fun b o e => ?_, os, bare⟩
    rcases only b with z | ⟨ob, xs, z⟩
    · exact un.keep b o e z List.not_mem_nil List.not_mem_nil
    · have e1 := (ok b _ z).1
      have e2 := (ok' b _ (un.frzs b ob _ z)).1
      exact e2.trans (e1.symm.trans e)

theorem walkG {l : PySem.W.OpenLaw} {n k : Nat} {q : Program} {loose : List Str} {XP : (Str → Option Value) → Heap → Prop} {YP : World → Heap → Prop} {d : DefRec} {K : Params → PySem.W.Frag} {sp : PySem.W.Frag → Sp} {x : Str}
    (hn : l.most = some n) (hn2 : n ≤ sizeLine) (hdf : d.params.defaults = []) (hr : Room k callerA)
    (hY : ∀ (w : World) (h : Heap), YP w h → (K w.params).In h)
    (F : ∀ (w : World) (mg : Str → Option Value) (fa : Addr) (h : Heap), (K w.params).In h → h.Ns mainGlobals mg → mg d.name = some (.ref fa) →
      ∃ fd : FuncData, (∀ (s : Shared) (u : Value), BindsTo s fd ⟨[u], []⟩ [(x, u)]) ∧
        ∀ base : Heap, (K w.params).In base → base.Ns mainGlobals mg → FnG l.prog w (K w.params) mg base k fa fd [x] (sp (K w.params)))
    (hsp : ∀ (K : PySem.W.Frag) (H : Hp) (a : Addr) (ns : List Int), ns.length ≤ n → Only H → SqL K H a (ns.map V.int) → sp K [.ref a] H (fun v _ => v = .bl true) fun _ _ _ => False) :
    PySem.W.WalkO q loose XP YP l.row.toRowW d [] (fun f vs => PySem.call f vs) := by
  refine Att.attach_call hn hdf fun w s0 s1 mg mb fa o pm cd doc a vs ns G Y ho hd hcd hmg hobj hints hlen hg => ?_
  have kin := hY w _ Y
  obtain ⟨fd, hb, hF⟩ := F w mg fa _ kin G.T.g hmg
  have rv := vals_ints hints
  have hz : ns.length ≤ sizeLine := Nat.le_trans hlen hn2
  cases hk : (K w.params).lookup a with
  | some ob =>
    have e := (kin a ob hk).symm.trans hobj
    cases e
    refine endG (H := fun _ => none) kin G.T.g G.T.b G.T.builtins G.T.nolimit hg hobj hr hF hb (hsp _ _ a ns hlen (fun _ => .inl rfl) (.inr ⟨_, vs.toArray, _, hk, rfl, rfl, rfl, ?_, rv⟩)) (fun _ => .inl rfl) (fun b u z => nomatch z) (fun b z => (z rfl).elim) (fun z => (z rfl).elim)
    rw [List.size_toArray, hints.length]
    exact hz
  | none =>
    have at_a : ∀ b, b = a → (if b = a then some (HO.frz { cls := .type "list", data := .seq vs.toArray } (.lst (ns.map V.int))) else none) = some (HO.frz { cls := .type "list", data := .seq vs.toArray } (.lst (ns.map V.int))) := fun b hb => if_pos hb
    refine endG (H := fun b => if b = a then some (.frz { cls := .type "list", data := .seq vs.toArray } (.lst (ns.map V.int))) else none) kin G.T.g G.T.b G.T.builtins G.T.nolimit hg hobj hr hF hb
      (hsp _ _ a ns hlen ?only (.inl (.inr ⟨_, if_pos rfl⟩))) ?only (fun b u z => ?_) (fun b z => ?_) (fun _ => hk)
    case only =>
      intro b
      by_cases hb : b = a
      · exact .inr ⟨_, _, if_pos hb⟩
      · exact .inl (if_neg hb)
    · by_cases hb : b = a
      · subst hb
        cases (if_pos rfl).symm.trans z
        refine ⟨hobj, ?_, vs, _, rv, hobj⟩
        rw [List.length_map]
        exact hz
      · cases (if_neg hb).symm.trans z
    · exact Classical.byContradiction fun hb => z (if_neg hb)
end Gd

set_option Elab.async false
set_option linter.all false
set_option maxRecDepth 100000
/-! What a name of the module promises, without guards (Cal) and where no repr is under way (CalG). -/
namespace Gd
open PySem PySem.Spec PyProof.Rows L2

structure Cal (P : Program) (w : World) (K : PySem.W.Frag) (mg : Str → Option Value) (base : Heap) (k : Nat) (x : Str) (sp : Sp) : Prop where
  ex : ∃ f, mg x = some (.ref f) ∧ PySem.W.keepIn K (.ref f) = true ∧ FnR P w K mg base CX0 k f sp
structure CalG (P : Program) (w : World) (K : PySem.W.Frag) (mg : Str → Option Value) (base : Heap) (k : Nat) (x : Str) (ps : List Str) (sp : Sp) : Prop where
  ex : ∃ f fd, mg x = some (.ref f) ∧ PySem.W.keepIn K (.ref f) = true ∧ Binds K fd ps [] ∧ FnG P w K mg base k f fd ps sp

section
variable {P : Program} {w : World} {K : PySem.W.Frag} {mg : Str → Option Value} {base : Heap}
/-- a def of the text as the name x holds it -/
structure At (K : PySem.W.Frag) (mg : Str → Option Value) (x : String) (st : Stmt) (ps : List Str) : Prop where
  ex : ∃ f fd, mg x = some (.ref f) ∧ Fun K x x st f fd ∧ Binds K fd ps []

theorem okC {x : String} {st : Stmt} {N ps : List Str} {k : Nat} {sp : Sp} (D : At K mg x st ps) (S : FnScope N ps (defScope st)) (len : ∀ vs H Q E, sp vs H Q E → vs.length = ps.length)
    (body : ∀ (f : Addr) (cdv : Value) (A : Around) (outer : List Env) (s : Shared) (H : Hp) (vs : List V) (Q : VK) (E : XK), Room k (A.deeper (envOfC x (defScope st) s.heap.objs.size f cdv)) → sp vs H Q E →
      ∃ t, PSs (cxOf CX0 P w K mg base N x (defScope st) f cdv A outer s H E).nox (defBody st) t ∧ t { nx := fun _ H' => Q .non H', rt := Q } (start N vs) H) : Cal P w K mg base (k + 1) x sp := by
  obtain ⟨f, fd, hm, F, hb⟩ := D.ex
  have G : FnOk P w K mg base CX0 (k + 1) f fd ps sp := F.ok S len (fun cdv A outer s H vs Q E hr h => body f cdv A outer s H vs Q E hr h)
  refine ⟨f, hm, F.kp, fun A outer s H us vs Q E hr e0 r h => ?_⟩
  have kin : K.In s.heap := e0.mod.kin.keeps fun b o e => (e0.bs b o e).1
  have hl : (us ++ ([] : List Value)).length = ps.length := by
    rw [List.append_nil, ← r.length]
    exact len _ _ _ _ h
  have bt := hb s us kin hl
  rw [List.append_nil] at bt
  exact G.run A outer s H _ us vs Q E hr e0 bt r h

theorem okCG {x : String} {st : Stmt} {N ps : List Str} {k : Nat} {sp : Sp} (D : At K mg x st ps) (S : FnScope N ps (defScope st)) (len : ∀ vs H Q E, sp vs H Q E → vs.length = ps.length)
    (body : ∀ (f : Addr) (cdv : Value) (A : Around) (outer : List Env) (s : Shared) (H : Hp) (vs : List V) (Q : VK) (E : XK), Room k (A.deeper (envOfC x (defScope st) s.heap.objs.size f cdv)) →
      (A.deeper (envOfC x (defScope st) s.heap.objs.size f cdv)).guards = some [] → sp vs H Q E →
      ∃ t, PSs (cxOf CX0 P w K mg base N x (defScope st) f cdv A outer s H E).nox (defBody st) t ∧ t { nx := fun _ H' => Q .non H', rt := Q } (start N vs) H) : CalG P w K mg base (k + 1) x ps sp := by
  obtain ⟨f, fd, hm, F, hb⟩ := D.ex
  exact ⟨f, fd, hm, F.kp, hb, okG F S len fun cdv A outer s H vs Q E hr hg h => body f cdv A outer s H vs Q E hr hg h⟩
end

section
variable {X : Cx} {j k : Nat} {ps : List Str} {sp : Sp} {x : Str} {p pos : Pos} {e : Expr} {es : List Expr} {t : TA}
theorem runC {pins : List (Addr × Obj)} {σ : L2.St} {H : Hp} {s : Shared} {Q : VK} {us : List Value} {vs : List V} {f : Addr} (F : FnR X.prog X.w X.K X.mg X.base CX0 k f sp) (hr : Room k X.A)
    (I : Inv X pins σ H s) (r : Vals vs us) (h : sp vs H Q E0) : wpAny (model X.prog X.w) X.A (call (.ref f) us) (EP X pins σ Q) X.xe s := by
  refine wpAny_call (codeAny_mono (F X.A X.stack s H us vs Q E0 hr I.env0 r h) fun res s' hq => ?_)
  match res, hq with
  | .ok (.ret _), hq => exact I.after hq
  | .ok .next, hq => exact hq.elim
  | .ok .brk, hq => exact hq.elim
  | .ok .cont, hq => exact hq.elim
  | .error _, hq => exact hq.elim
def tCal (sp : Sp) (t : TA) : TE := fun σ H Q => t σ H fun vs H1 => sp vs H1 Q E0
theorem pe_k (c : Cal X.prog X.w X.K X.mg X.base k x sp) (hr : Room j X.A) (hk : k ≤ j) (hg : Gl X x) (ha : PA X (e :: es) t) (hdb : (x == ("__debug__" : Str)) = false := by decide)
    (he : starEach (e :: es) X.env = (false, eval e X.env) :: starEach es X.env := by rfl) (hpl : (backTo pos (starEach es X.env)).any (·.1) = false := by rfl) :
    PE X (.Call (.Name x p) (e :: es) [] pos) (tCal sp t) := by
  obtain ⟨f, hm, hkp, F⟩ := c.ex
  constructor
  intro pins s σ H Q I h
  refine wpAny_Call_Name_kw (ld_glob I hg hm ?_ hdb)
  refine PySem.W.callWith_K (h₀ := X.base) I.ok.mod.kin hkp ?_ he hpl
  refine thn (ha.run pos pins s σ H _ I h) ?_
  rintro us s1 ⟨vs, H1, I1, r, q⟩
  exact ⟨I1.kIn, runC F (hr.mono hk) I1 r q⟩
theorem pe_k0 (c : Cal X.prog X.w X.K X.mg X.base k x sp) (hr : Room j X.A) (hk : k ≤ j) (hg : Gl X x) (hdb : (x == ("__debug__" : Str)) = false := by decide) :
    PE X (.Call (.Name x p) [] [] pos) (tCal sp tNil) := by
  obtain ⟨f, hm, hkp, F⟩ := c.ex
  constructor
  intro pins s σ H Q I h
  refine wpAny_Call_Name_kw (ld_glob I hg hm ?_ hdb)
  exact PySem.W.callWith_K0 I.kIn hkp (runC (us := []) F (hr.mono hk) I .nil h)
theorem pe_kG (c : CalG X.prog X.w X.K X.mg X.base k x ps sp) (hr : Room j X.A) (hG : X.A.guards = some []) (hk : k ≤ j) (hg : Gl X x) (ha : PA X (e :: es) t) (hdb : (x == ("__debug__" : Str)) = false := by decide)
    (he : starEach (e :: es) X.env = (false, eval e X.env) :: starEach es X.env := by rfl) (hpl : (backTo pos (starEach es X.env)).any (·.1) = false := by rfl) :
    PE X (.Call (.Name x p) (e :: es) [] pos) (tCal sp t) := by
  obtain ⟨f, fd, hm, hkp, hb, F⟩ := c.ex
  exact pe_callG F (hr.mono hk) hG hg hm hkp hb ha hdb he hpl
end

/-! ### heaps -/
/-- all that was tracked, but for what stands at d, is as it was -/
def Kp (d : Addr) (H H' : Hp) : Prop := ∀ b o, b ≠ d → H b = some o → H' b = some o
theorem Kp.refl (d : Addr) (H : Hp) : Kp d H H := fun _ _ _ h => h
theorem Kp.trans {d : Addr} {H H1 H2 : Hp} (a : Kp d H H1) (b : Kp d H1 H2) : Kp d H H2 := fun c o n h => b c o n (a c o n h)
theorem _root_.L2.Same.kp {d : Addr} {H H' : Hp} (a : Same H H') : Kp d H H' := fun b o _ h => a b o h
theorem Kp.upd_d {d : Addr} {H : Hp} {o : HO} : Kp d H (upd H d o) := fun b u n h => by
  rw [upd_ne n]
  exact h
theorem same_new {H : Hp} {p : Addr} {o : HO} (h : H p = none) : Same H (upd H p o) := fun b u e => by
  rw [upd_ne (ne_of_none e h)]
  exact e
/-- behind new objects and a store to one of them -/
theorem same_own {H H1 : Hp} {p : Addr} {o : HO} (a : Same H H1) (h : H p = none) : Same H (upd H1 p o) := fun b u e => by
  rw [upd_ne (ne_of_none e h)]
  exact a b u e
end Gd

set_option Elab.async false
set_option linter.all false
set_option maxRecDepth 100000
namespace Gd
open PySem PySem.Spec PyProof.Rows L2
/-- a comprehension that makes no change to what was there: what it makes of each item, or that it leaves it out -/
theorem lcF {J : It} {xs : List V} {G : Hp → Prop} (w : Walk J xs.length G (YAt xs)) {g : TG} {tt : TT} {te : TE} {vs : List Nat} {σ : L2.St} {H1 : Hp} {D : Addr} {Qd : Hp → Prop} (f : V → Option V)
    (hD : H1 D = none) (hz : xs.length < sizeLine) (hG : ∀ H', Same H1 H' → G H')
    (hs : ∀ (x : V) (H' : Hp) (R : V → Hp → Prop) (S : Hp → Prop), x ∈ xs → Same H1 H' → (∀ y, f x = some y → ∀ H4, Same H' H4 → R y H4) → (f x = none → ∀ H3, Same H' H3 → S H3) →
      g x (wipe σ vs) H' fun σ2 H2 => wipe σ2 vs = wipe σ vs ∧ tt σ2 H2 fun b H3 => if b = true then te σ2 H3 R else S H3)
    (hd : ∀ H', Same H1 H' → H' D = some (.lst (xs.filterMap f)) → Qd H') :
    ∃ W : Nat → Nat → Hp → Prop, (∃ m, W 0 m (upd H1 D (.lst []))) ∧ ∀ i m H, W i m H →
      (J.stop i H ∧ Qd H) ∨ (J.go i H ∧ ∃ Nx : Hp → Prop, (∀ H', Nx H' → ∃ m', m' < m ∧ W (i + 1) m' H') ∧ ∀ x H', J.yld i H x H' → g x (wipe σ vs) H' fun σ2 H2 => wipe σ2 vs = wipe σ vs ∧ tt σ2 H2 fun b H3 =>
        if b = true then te σ2 H3 fun y H4 => ∃ acc, H4 D = some (.lst acc) ∧ acc.length < sizeLine ∧ Nx (upd H4 D (.lst (acc ++ [y]))) else Nx H3) := by
  have step : ∀ i x, xs[i]? = some x → (xs.take (i + 1)).filterMap f = (xs.take i).filterMap f ++ (f x).toList := by
    intro i x hx
    rw [List.take_add_one, List.filterMap_append, hx]
    show _ ++ List.filterMap f [x] = _
    cases e : f x with
    | none => rw [List.filterMap_cons_none e]; rfl
    | some y => rw [List.filterMap_cons_some e]; rfl
  refine lc_it w (fun i H => Same H1 H ∧ H D = some (.lst ((xs.take i).filterMap f))) ⟨same_new hD, upd_same⟩ (fun i H _ p => hG H p.1) ?_ ?_
  · rintro i x H H' hi ⟨sm, hd'⟩ ⟨rfl, hx⟩
    refine hs x _ _ _ (List.mem_of_getElem? hx) sm (fun y hy H4 s4 => ?_) (fun hn H3 s3 => ?_)
    · refine ⟨_, s4 _ _ hd', ?_, same_own (sm.trans s4) hD, ?_⟩
      · have a1 := List.length_filterMap_le f (xs.take i)
        have a2 := List.length_take_le i xs
        rw [List.length_take] at a1
        omega
      · rw [upd_same, step i x hx, hy]
        rfl
    · refine ⟨sm.trans s3, ?_⟩
      rw [s3 _ _ hd', step i x hx, hn, Option.toList, List.append_nil]
  · rintro H ⟨sm, h⟩
    rw [List.take_length] at h
    exact hd H sm h
/-- the same without a test, what it makes of each item being said -/
theorem lcM {J : It} {xs : List V} {G : Hp → Prop} (w : Walk J xs.length G (YAt xs)) {g : TG} {te : TE} {vs : List Nat} {σ : L2.St} {H1 : Hp} {D : Addr} {Qd : Hp → Prop} (f : V → V)
    (hD : H1 D = none) (hz : xs.length < sizeLine) (hG : ∀ H', Same H1 H' → G H')
    (hs : ∀ (x : V) (H' : Hp) (R : V → Hp → Prop), x ∈ xs → Same H1 H' → (∀ H4, Same H' H4 → R (f x) H4) → g x (wipe σ vs) H' fun σ2 H2 => wipe σ2 vs = wipe σ vs ∧ te σ2 H2 R)
    (hd : ∀ H', Same H1 H' → H' D = some (.lst (xs.map f)) → Qd H') :
    ∃ W : Nat → Nat → Hp → Prop, (∃ m, W 0 m (upd H1 D (.lst []))) ∧ ∀ i m H, W i m H →
      (J.stop i H ∧ Qd H) ∨ (J.go i H ∧ ∃ Nx : Hp → Prop, (∀ H', Nx H' → ∃ m', m' < m ∧ W (i + 1) m' H') ∧ ∀ x H', J.yld i H x H' → g x (wipe σ vs) H' fun σ2 H2 => wipe σ2 vs = wipe σ vs ∧ tYes σ2 H2 fun b H3 =>
        if b = true then te σ2 H3 fun y H4 => ∃ acc, H4 D = some (.lst acc) ∧ acc.length < sizeLine ∧ Nx (upd H4 D (.lst (acc ++ [y]))) else Nx H3) := by
  refine lcF w (fun x => some (f x)) hD hz hG (fun x H' R S hx sm h1 _ => ?_) (fun H' sm h => hd H' sm ?_)
  · exact hs x H' R hx sm (h1 (f x) rfl)
  · rw [h, ← List.filterMap_eq_map]
    rfl
/-- a range as a walk over what it gives -/
def rgG (lo : Int) (n : Nat) : List V := (List.range n).map fun i => V.int (lo + (i : Nat))
theorem rgG_len (lo : Int) (n : Nat) : (rgG lo n).length = n := by
  unfold rgG
  rw [List.length_map, List.length_range]
theorem walk_rg {lo : Int} {n : Nat} : Walk (Itr lo n) (rgG lo n).length (fun _ => True) (YAt (rgG lo n)) := by
  rw [rgG_len]
  refine walk_range.mono (fun _ h => h) (fun i H x H' hi _ y => ⟨y.1, ?_⟩)
  unfold rgG
  rw [List.getElem?_map, List.getElem?_range hi, y.2]
  rfl
end Gd

set_option Elab.async false
set_option linter.all false
set_option maxRecDepth 100000
/-! set(a list of ints), sorted(a set of ints) of any size. -/
namespace Gd
open PySem PySem.Spec PyProof.Rows L2
section
variable {P : Program} {w : World} {A : Around} {E : Value → Shared → Prop} {s : Shared}
theorem sortedSetN {a : Addr} {S : Int → Bool} {m : Nat} {Q : Value → Shared → Prop} (R : SetR w s.heap a S m) (hh : A.handled = none) (hm : m ≤ sizeLine)
    (hQ : ∀ (s' : Shared) (p : Addr) (zs : Array Value) (c : Nat) (ks : List Int), (∀ b o, s.heap.get? b = some o → s'.heap.get? b = some o) → s'.gens = s.gens ∧ s'.os = s.os → s.heap.objs.size ≤ p →
      s'.heap.get? p = some (seqObj "list" zs c) → IntsAre zs.toList ks → ks.Pairwise (· < ·) → (∀ k, k ∈ ks ↔ S k = true) → ks.length = m → Q (.ref p) s') :
    wpAny (model P w) A (call (.builtin "sorted") [.ref a]) Q E s := by
  obtain ⟨o, es, ep, t, at_a, ex, dat, good, nodup, mems, bnd, fits, size, ris, led⟩ := R
  refine Calls.call_function_entry kind_sorted plain_sorted entry_sorted (args_sorted1 _) ?_
  unfold Builtin.«sorted»
  refine wpAny_bind (m := checkCount "sorted" 1 1 _) (wpAny_pure ?_)
  refine wpAny_bind (collect_set (A := A.in1) hh ⟨o, at_a, ex.1, dat⟩ fits bnd ris led ?_)
  intro s1 vs keep grown gens os perm
  have len : vs.length = m := by
    rw [perm.length_eq, List.length_map, Array.length_toList]
    exact size
  have vints : IntsAre vs (vs.map Builtin.Re.reRawOf) := by
    refine ints_of vs fun v hv => ?_
    obtain ⟨e, he, q⟩ := List.mem_map.mp (perm.mem_iff.mp hv)
    obtain ⟨k, tk, g1, _⟩ := good e he
    exact ⟨k, tk, q ▸ g1⟩
  have permK : (vs.map Builtin.Re.reRawOf).Perm (es.toList.map keyOf) := by
    have q := perm.map Builtin.Re.reRawOf
    rwa [List.map_map] at q
  have lenL : vs.length ≤ sizeLine := by
    rw [len]
    exact hm
  refine wpAny_bind (wpAny_newList ?_ lenL)
  have atL : (s1.heap.push (seqObj "list" vs.toArray 0)).get? s1.heap.objs.size = some (seqObj "list" vs.toArray 0) :=
    Heap.get?_push_size _ rfl
  refine wpAny_bind (wpAny_holding (wpAny_call_entry slot_list_sort ⟨_, atL, rfl⟩ entry_list_sort ?_ (args_list_sort _)))
  refine SrtO.list_sort_ord SrtO.swo_int atL lenL (fun h2 => SrtO.ints_sortable vints h2) fun out srt stb => ⟨_, rfl, wpAny_pure ⟨_, rfl, ?_⟩⟩
  obtain ⟨i1, i2, i3⟩ := SrtO.ints_out vints srt stb
  obtain ⟨c, hc⟩ := sortedHeap_at (out := out.toArray) atL
  have permS := i2.trans permK
  refine hQ _ s1.heap.objs.size out.toArray c (out.map SrtO.iv) (fun b u e => ?_) ⟨gens, os⟩ grown hc i1 (lt_of_le_nodup _ i3 (permS.nodup_iff.mpr nodup)) (fun k => ?_) ?_
  · have e1 := keep b u e
    have lt := Heap.lt_size e1
    have lt2 : b < (s1.heap.push (seqObj "list" vs.toArray 0)).objs.size := by
      rw [size_push']
      exact Nat.lt_succ_of_lt lt
    have old := sortedHeap_old (h := s1.heap.push (seqObj "list" vs.toArray 0)) (vs := vs) (out := out.toArray) (Nat.ne_of_lt lt) lt2
    show (sortedHeap (s1.heap.push (seqObj "list" vs.toArray 0)) s1.heap.objs.size vs out.toArray).get? b = some u
    rw [old]
    exact Heap.get?_push_of_some _ e1
  · rw [permS.mem_iff]
    exact (mems k).symm
  · rw [permS.length_eq, List.length_map, Array.length_toList]
    exact size

abbrev setO0 (w : World) : Obj := { cls := .type "set", dict := none, data := .set #[] 0 (.fresh 0 0 (!w.params.followText "set-order")) }
set_option maxHeartbeats 3200000 in
theorem callSetL {l : Addr} {its : Array Value} (ns : List Int) {Q : Value → Shared → Prop} (hh : A.handled = none) (hl : s.heap.IsList l its) (hi : IntsAre its.toList ns) (hb : ns.length + 1 < scanBound)
    (h : ∀ (h' : Heap) (tk m : Nat), SetR w h' s.heap.objs.size (fun j => decide (j ∈ ns)) m → m ≤ ns.length → (∀ b o, s.heap.get? b = some o → h'.get? b = some o) → Q (.ref s.heap.objs.size) { s with heap := h', toks := tk }) :
    wpAny (model P w) A (call (.type "set") [.ref l]) Q E s := by
  have size : its.size = ns.length := by
    rw [← Array.length_toList]
    exact hi.length
  have ⟨c, tl, mro⟩ := F.called_set.mro
  have made := F.called_set.made
  have sub := F.called_set.sub
  have typ := F.called_set.notType
  have can := F.called_set.canCreate
  have tcall := F.typeCall_set_1 (.ref l)
  refine wpAny_call (codeAny_of_tree ?_)
  show wpAny _ _ (callAny (.type "set") _) _ _ _
  refine wpAny_pure ⟨Code.quiet_builtin _ (by decide +kernel), codeAny_builtin F.entry_type_call ?_⟩
  rw [Around.under_plain (weight_type_call_type "set" [.ref l] []) rfl]
  repeat any_goals first | assumption | wp_step
  refine codeAny_mono (code_set_led1 (.ref l) (E := E) (Q₁ := fun obj s₁ => obj = .ref s.heap.objs.size ∧ s₁ = { s with heap := s.heap.push (setO0 w) }) ⟨rfl, rfl⟩) fun r s₁ hr => ?_
  match r, hr with
  | .error _, hr => exact hr
  | .ok .next, hr => exact hr.elim
  | .ok .brk, hr => exact hr.elim
  | .ok .cont, hr => exact hr.elim
  | .ok (.ret obj), ⟨eo, es⟩ =>
    subst eo
    subst es
    have atS : (s.heap.push (setO0 w)).get? s.heap.objs.size = some (setO0 w) := Heap.get?_push_size _ rfl
    have typS : Shared.TypeIs { s with heap := s.heap.push (setO0 w) } (.ref s.heap.objs.size) "set" := ⟨_, atS, rfl⟩
    have ilook := F.called_set.init.lookup
    have ibind := F.called_set.init.bind (.ref s.heap.objs.size)
    repeat any_goals first | assumption | wp_step
    refine codeAny_mono (codeAny_call_builtin (R := wants (fun r s₂ => r = .none ∧ ∃ h' tk m, s₂ = { s with heap := h', toks := tk } ∧ SetR w h' s.heap.objs.size (fun j => decide (j ∈ ns)) m ∧ m ≤ ns.length ∧
        ∀ b o, s.heap.get? b = some o → h'.get? b = some o) E) F.called_set.init.plain F.entry_set_init (check_set_init_1 typS ?_)) fun r₂ s₂ hr₂ => ?_
    · obtain ⟨ol, hol, hcl, nl, hdl⟩ := hl
      obtain ⟨ocls, odict, odata, oslots⟩ := ol
      simp only at hcl hdl
      subst hcl
      subst hdl
      have hol' : (s.heap.push (setO0 w)).get? l = some { cls := .type "list", dict := odict, data := .seq its nl, slots := oslots } := Heap.get?_push_of_some _ hol
      have s1 := F.sub_list_set
      have s2 := F.sub_list_frozenset
      have s3 : (Value.type "list" == Value.type "dict") = false := by decide
      have isL : (s.heap.push (setO0 w)).IsList l its := ⟨_, hol', rfl, nl, rfl⟩
      unfold Builtin.«set.__init__» noKeywords Builtin.Frozenset.updateFrom
      generalize hPI : pyIter = PI
      wp_walk
      subst hPI
      refine wpAny_pyIter_list isL (wpAny_bind (wpAny_runValue ?_))
      have ltl : l < s.heap.objs.size := Heap.lt_size hol
      have sz1 : (s.heap.push (setO0 w)).objs.size = s.heap.objs.size + 1 := Heap.size_push ..
      have h3 : A.in1.in1.in1.handled = none := hh
      have neI : l ≠ (s.heap.push (setO0 w)).objs.size := Nat.ne_of_lt (by rw [sz1]; exact Nat.lt_succ_of_lt ltl)
      have nof : s.heap.objs.size ∉ [(s.heap.push (setO0 w)).objs.size, l] := by
        intro z
        rcases List.mem_cons.mp z with z | z
        · exact absurd z (Nat.ne_of_lt (by rw [sz1]; exact Nat.lt_succ_self _))
        · exact absurd (List.mem_singleton.mp z) (Nat.ne_of_gt ltl)
      have vals : ∀ (i : Nat) (v : Value), its[i]? = some v → ∃ k t, ns[i]? = some k ∧ v = .int k t := by
        intro i v hv
        have lt : i < ns.length := size ▸ (Array.getElem?_eq_some_iff.mp hv).1
        obtain ⟨t, e⟩ := IntsAre.int_at hi i v (by rw [Array.getElem?_toList]; exact hv)
        refine ⟨ns[i], t, List.getElem?_eq_getElem lt, e.trans ?_⟩
        rw [List.getD_eq_getElem?_getD, List.getElem?_eq_getElem lt, Option.getD_some]
      refine set_update_ints ((Walks.list h3 _ l neI its).toS) s.heap.objs.size nof ns size hb vals (its.size - 0) 0 _ (by omega) (Nat.zero_le _) ⟨⟨_, Heap.get?_push_size _ rfl, rfl, rfl⟩, isL.push _⟩
        ⟨0, Nat.le_refl 0, setR_new_at (Heap.get?_push_of_some _ atS)⟩ ?_
      rintro ⟨h', g2, d', tk', os'⟩ m moved hm hS
      obtain rfl : g2 = s.gens := moved.gens
      obtain rfl : d' = s.drawn := moved.drawn
      obtain rfl : os' = s.os := moved.os
      show wpAny _ _ _ _ _ _
      refine wpAny_pure ?_
      show wpAny _ _ (ret Value.none) _ _ _
      refine wpAny_pure ⟨rfl, h', tk', m, rfl, hS, size ▸ hm, fun b o e => moved.heap b o (fun z => ?_) (Heap.get?_push_of_some _ (Heap.get?_push_of_some _ e))⟩
      have lt := Heap.lt_size e
      rcases List.mem_cons.mp z with z | z
      · exact absurd z (Nat.ne_of_lt lt)
      · exact absurd (List.mem_singleton.mp z) (Nat.ne_of_lt (by rw [sz1]; exact Nat.lt_succ_of_lt lt))
    · match r₂, hr₂ with
      | .error _, hr₂ => exact hr₂
      | .ok .next, hr₂ => exact hr₂.elim
      | .ok .brk, hr₂ => exact hr₂.elim
      | .ok .cont, hr₂ => exact hr₂.elim
      | .ok (.ret r), ⟨e1, h', tk, m, e2, hS, hm, kp⟩ =>
        subst e1
        subst e2
        repeat any_goals first | assumption | wp_step
        exact h _ _ _ hS hm kp
end
section
variable {X : Cx}
/-- set(xs), ints -/
def rSetL (K : PySem.W.Frag) (w : World) : List V → Hp → VK → Prop := fun vs H Q => ∃ (a : Addr) (ns : List Int), vs = [V.ref a] ∧ SqL K H a (ns.map V.int) ∧ ns.length ≤ 1000 ∧
  ∀ (p : Addr) (m : Nat), H p = none → m ≤ ns.length → Q (.ref p) (upd H p (SetO w p (fun j => decide (j ∈ ns)) m))
theorem cr_setL (hc : X.calm = true) : CallR X (.type "set") (rSetL X.K X.w) := by
  intro pins s σ H vs us Q I r h
  obtain ⟨a, ns, rfl, ha, hz, q⟩ := h
  obtain ⟨its, rv, pl, _⟩ := I.list ha
  rw [Vals.ref1 r]
  refine callSetL ns (I.ok.hd hc) pl.isList rv.ints (by unfold scanBound; omega) fun h' tk m R hm kp => ?_
  exact ⟨.ref s.heap.objs.size, _, I.laid kp (Nat.le_refl _) (setO_new R), rfl, q _ m I.fresh hm⟩
/-- sorted(xs), a set of ints -/
def rSortSet (w : World) : List V → Hp → VK → Prop := fun vs H Q => ∃ (a : Addr) (S : Int → Bool) (m : Nat), vs = [V.ref a] ∧ H a = some (SetO w a S m) ∧ m ≤ 1000 ∧
  ∀ (ks : List Int) (p : Addr), ks.Pairwise (· < ·) → (∀ k : Int, k ∈ ks ↔ S k = true) → H p = none → Q (.ref p) (upd H p (.lst (ks.map V.int)))
theorem cr_sortSet (hc : X.calm = true) : CallR X (.builtin "sorted") (rSortSet X.w) := by
  intro pins s σ H vs us Q I r h
  obtain ⟨a, S, m, rfl, ha, hm, q⟩ := h
  rw [Vals.ref1 r]
  refine sortedSetN (setO_get I ha) (I.ok.hd hc) (Nat.le_of_lt (small1000 hm)) fun s' p zs c ks kp go lp hp hi asc mem len => ?_
  have fr : H p = none := I.hok.fresh lp
  have hlen : (ks.map V.int).length ≤ sizeLine := by
    rw [List.length_map, len]
    exact Nat.le_of_lt (small1000 hm)
  have J : Inv X pins σ (upd H p (.lst (ks.map V.int))) { s with heap := s'.heap, gens := s'.gens, drawn := s'.drawn, toks := s'.toks } :=
    I.call (ch := []) (Un.laid kp lp fr) (I.hok.laid kp lp ⟨hlen, zs.toList, c, vals_of_ints hi, hp⟩) (by rw [go.1]; exact I.bare) (fun _ z => nomatch z)
  have e : s' = { s with heap := s'.heap, gens := s'.gens, drawn := s'.drawn, toks := s'.toks } := by
    obtain ⟨_, o⟩ := go
    cases s'
    cases s
    cases o
    rfl
  rw [e]
  exact ⟨.ref p, _, J, rfl, q ks p asc mem fr⟩
end
end Gd

set_option Elab.async false
set_option linter.all false
set_option maxRecDepth 100000
set_option maxHeartbeats 4000000
/-! Words that lacked: the sum of a tuple, a tuple once, the list of a range with a step. -/
namespace Gd
open PySem PySem.Spec PyProof.Rows L2
section
variable {prog : Program} {w : World} {A : Around} {E : Value → Shared → Prop} {s : Shared} {l : Addr} {xs : Array (Int × Tok)}
theorem sum_tupG {Q : Value → Shared → Prop} (hh : A.handled = none) (hl : s.heap.IsTuple l (intItems xs)) (hlt : l < s.heap.objs.size)
    (h : ∀ h' tk t', (∀ b o, s.heap.get? b = some o → h'.get? b = some o) → Q (.int (preSum (numAt xs) xs.size) t') { s with heap := h', toks := tk }) :
    wpAny (model prog w) A (call (.builtin "sum") [.ref l]) Q E s := by
  refine call_sum_walkG (wpAny_pyIter_tuple hl ?_)
  refine ⟨_, [_, l], [_], _, _, _, numAt xs, rfl, Walks.tuple (A := A.in1) hh _ l (Nat.ne_of_lt hlt) (intItems xs), ⟨⟨_, Heap.get?_push_size _ rfl, rfl, rfl⟩, hl.push _⟩, fun c hc => ?_, (fun _ _ => intItems_at), fun h' tk t' hk => ?_⟩
  · show c < (s.heap.push _).objs.size
    rw [Heap.size_push]
    rcases List.mem_cons.mp hc with rfl | hc
    · exact Nat.lt_succ_self _
    · rcases List.mem_cons.mp hc with rfl | hc
      · exact Nat.lt_succ_of_lt hlt
      · cases hc
  · have hold : ∀ c o, s.heap.get? c = some o → h'.get? c = some o := fun c o e => by
      refine hk c o (fun hm => ?_) (Heap.get?_push_of_some _ e)
      rcases List.mem_cons.mp hm with e1 | hm
      · have := Heap.lt_size e; rw [e1] at this; exact Nat.lt_irrefl _ this
      · cases hm
    have := h h' tk t' hold
    simpa [intItems] using this
end
section
variable {X : Cx}
/-- sum(xs) of a tuple of ints -/
def rSumT (K : PySem.W.Frag) : List V → Hp → VK → Prop := fun vs H Q => ∃ (a : Addr) (ns : List Int), vs = [V.ref a] ∧ SqT K H a (ns.map V.int) ∧ Q (.int ns.sum) H
theorem cr_sumT (hc : X.calm = true) : CallR X (.builtin "sum") (rSumT X.K) := by
  intro pins s σ H vs us Q I r h
  obtain ⟨a, ns, rfl, hs, q⟩ := h
  obtain ⟨its, rv, hl, _⟩ := I.tuple hs
  rw [Vals.ref1 r]
  have hi := rv.ints
  obtain ⟨xs, e⟩ := hi.allInts.items
  have hn : numsOf (intItems xs).toList = ns := by rw [← e]; exact hi.numsOf
  rw [nums_intItems] at hn
  have hlt : a < s.heap.objs.size := by
    obtain ⟨o, ho, _⟩ := hl
    exact Heap.lt_size ho
  rw [e] at hl
  refine sum_tupG (I.ok.hd hc) hl hlt fun h' tk t' hk => ?_
  rw [preSum_eq, List.take_of_length_le (by simp), hn]
  exact ⟨.int _, H, I.kept hk, ⟨_, rfl⟩, q⟩
theorem tuple_mul1 (l : Addr) (items : Array Value) (n : Nat) (dd : Option Addr) (sl : Array (Option Value)) (u : Tok) :
    Meets (Builtin.«tuple.__mul__» ⟨[.ref l, .int 1 u], []⟩) (fun _ R s => s.heap.get? l = some { cls := .type "tuple", dict := dd, data := .seq items n, slots := sl } ∧
      R (.ok (.ret (Value.ref l))) s) :=
  .of_wp fun prog w A R s h => by
    obtain ⟨hp, g, d, tk, os⟩ := s
    obtain ⟨hl, h⟩ := h
    have f1 := AutoSeq1.idx_int
    have c0 : (decide ((1 : Int) < -(2 ^ 63)) || decide ((1 : Int) ≥ 2 ^ 63)) = false := by decide
    have c1 : (items.isEmpty || (1 : Int) == 1) = true := by rw [Bool.or_comm]; rfl
    wp_walk using wpAny_loadPart' hl
    repeat (first
      | (refine wpAny_ite_false (decide_eq_false (by rw [c0]; exact Bool.false_ne_true)) ?_; wp_walk using wpAny_loadPart' hl)
      | (refine wpAny_ite_true (decide_eq_true (by rw [c1])) ?_; wp_walk using wpAny_loadPart' hl))
    exact ⟨_, rfl, h⟩
/-- tuple * k, k at least 1, of a tuple that is followed -/
def rRepP : R2 := fun x y H Q => ∃ l k xs, x = .ref l ∧ y = .int k ∧ H l = some (.tup xs) ∧ xs ≠ [] ∧ 1 ≤ k ∧ k ≤ 1000 ∧ xs.length ≤ 1000 ∧ ∀ p H', Same H H' → H' p = some (.tup (List.replicate k.toNat xs).flatten) → Q (.ref p) H'
theorem op_repP : OpR X (binaryOp .Mult) rRepP := by
  intro pins s σ H x y v u Q I rx ry h
  obtain ⟨l, k, xs, rfl, rfl, hT, hne, h1, h2, hz, q⟩ := h
  by_cases hk : k = 1
  · subst hk
    cases rx
    obtain ⟨t, rfl⟩ := ry
    obtain ⟨its, r, ⟨⟨cls, dd, data, sl⟩, ho, hc, n, hd⟩, hs⟩ := I.tuple (.inl (.inl hT))
    simp only at hc hd
    subst hc hd
    refine wpAny_binaryOp_repeat_ref (T := "tuple") (U := "int") (by decide) ⟨_, ho, rfl⟩ (fun s' => typeIs_int s' 1 t) noFill_tuple_mul F.fills_int_mul F.slot_int_rmul repeat_tuple F.slot_int_index.lookup
      (call_meets F.slot_int_rmul (typeIs_int s 1 t) F.entry_int_rmul (F.args_int_rmul_2 _ _) (int_rmul_tuple 1 t l its.toArray n dd sl)
        ⟨ho, rfl, ⟨_, ho, rfl⟩, call_meets F.slot_tuple_mul ⟨_, ho, rfl⟩ F.entry_tuple_mul (F.args_tuple_mul_2 _ _) (tuple_mul1 l its.toArray n dd sl t) ⟨ho, ?_⟩⟩)
    refine ⟨.ref l, H, I, rfl, q _ _ (Same.refl _) ?_⟩
    rw [hT]
    show _ = some (HO.tup (List.replicate 1 xs).flatten)
    rw [List.replicate_one, List.flatten_singleton]
  · exact op_repT pins s σ H _ _ v u Q I rx ry ⟨l, k, xs, rfl, rfl, .inl (.inl hT), hne, by omega, h2, hz, fun p hp => q p _ (same_new hp) upd_same⟩
/-- list(range(a, b, c)) -/
def tLstRg3 (ta : TA) : TE := fun σ H Q => ta σ H fun vs H1 => ∃ (i j c : Int) (n : Nat), vs = [.int i, .int j, .int c] ∧ RgC i j c n ∧ n ≤ 16777216 ∧ ∀ q, H1 q = none → Q (.ref q) (upd H1 q (.lst ((List.range n).map fun k => V.int (i + (k : Nat) * c))))
theorem vals_rg3 {a c : Int} {n : Nat} {acc : Array Value} (h : ItemsOf (fun i v => ∃ t, v = .int (a + i * c) t) acc n) : Vals ((List.range n).map fun k => V.int (a + (k : Nat) * c)) acc.toList := by
  have e : acc.toList.length = n := by rw [Array.length_toList]; exact h.1
  rw [← e]
  refine vals_of_get acc.toList _ fun j u hj => ?_
  obtain ⟨t, rfl⟩ := h.2 j u (by rw [← hj, Array.getElem?_toList])
  exact ⟨t, rfl⟩
theorem pe_listRg3 {a b c : Expr} {ta : TA} {p pos p2 pos2 : Pos} (hc : X.calm = true) (hg : Gl X "list") (hm : X.mg "list" = none) (hg2 : Gl X "range") (hm2 : X.mg "range" = none) (ha : PA X [a, b, c] ta)
    (hs : starEach [a, b, c] X.env = (false, eval a X.env) :: starEach [b, c] X.env := by rfl) (hpl : (backTo pos2 (starEach [b, c] X.env)).any (·.1) = false := by rfl)
    (na : starEach [Expr.Call (.Name "range" p2) [a, b, c] [] pos2] X.env = (false, eval (Expr.Call (.Name "range" p2) [a, b, c] [] pos2) X.env) :: starEach [] X.env := by rfl) :
    PE X (.Call (.Name "list" p) [.Call (.Name "range" p2) [a, b, c] [] pos2] [] pos) (tLstRg3 ta) := by
  refine ⟨fun pins s σ H Q I h => ?_⟩
  refine Call_ (ld_blt I hg hm boot_list (PyProof.Rows.callWith_type1 (args_cons (Call_ (ld_blt I hg2 hm2 boot_range (PyProof.Rows.callWith_type1 (thn (ha.run pos2 pins s σ H _ I h) fun us s1 ⟨vs, H1, I1, r1, q1⟩ => ?_) hs hpl))) na) na))
  obtain ⟨i, j, k, n, e, ⟨c0, c1, c2, c3⟩, hn, q⟩ := q1
  subst e
  cases r1 with
  | cons r rr =>
    cases rr with
    | cons r' rr =>
      cases rr with
      | cons r'' rr =>
        cases rr
        obtain ⟨t, rfl⟩ := r
        obtain ⟨t', rfl⟩ := r'
        obtain ⟨t'', rfl⟩ := r''
        refine call_range_3 c0 ?_ (.inl (PyProof.noPylong_small c1))
        refine args_nil ?_
        have I2 : Inv X pins σ H1 { s1 with heap := s1.heap.push { cls := .type "range", data := .fields #[.int i t, .int j t', .int k t''] } } := I1.kept (t' := s1.toks) fun b o e => Heap.get?_push_of_some _ e
        refine call_list_range (n := n) (I2.ok.hd hc) (IsRange.new _ _ _ _ _ _ _) c2 c3 (by omega) fun h' tk acc c' hk e' hi => ?_
        refine ⟨.ref _, upd H1 _ (.lst ((List.range n).map fun m => V.int (i + (m : Nat) * k))), I2.laid hk (Nat.le_refl _) (show ObjOk X.prog X.w _ _ _ (.lst _) from ⟨?_, acc.toList, c', vals_rg3 hi, ?_⟩), rfl, q _ (I2.hok.fresh (Nat.le_refl _))⟩
        · rw [List.length_map, List.length_range, sizeLine_eq]; omega
        · rw [Array.toArray_toList]; exact e'
end
end Gd

set_option Elab.async false
set_option linter.all false
set_option maxRecDepth 100000
set_option maxHeartbeats 4000000
/-! enumerate of a tuple. -/
namespace Gd
open PySem PySem.Spec PyProof.Rows L2
/-- the object that enumerate makes over the tuple's iterator at i -/
def enO (i : Addr) : Obj := { cls := .type "enumerate", data := .fields #[.none, .bool false, .ref i, rawInt 0, .none, .none] }
def tiO (l : Addr) : Obj := { cls := .type "tuple_iterator", data := .fields #[.ref l, .int 0 0] }
theorem meets_enT (l : Addr) (its : Array Value) :
    Meets (Builtin.«enumerate.__new__» ⟨[.type "enumerate", .ref l], []⟩) (fun _ R s => s.heap.IsTuple l its ∧
      R (.ok (.ret (.ref (s.heap.push (tiO l)).objs.size))) { s with heap := (s.heap.push (tiO l)).push (enO s.heap.objs.size) }) :=
  .of_wp fun prog w A R s h => by
    obtain ⟨hp, g, d, tk, os⟩ := s
    obtain ⟨hT, h⟩ := h
    have hsub := sub_enumerate
    obtain ⟨o, ho, hc, nd⟩ := hT
    have hT : Heap.IsTuple (Shared.heap ⟨hp, g, d, tk, os⟩) l its := ⟨o, ho, hc, nd⟩
    obtain ⟨c0, d0, t0, s0⟩ := o
    simp only at hc
    subst hc
    wp_walk using wpAny_loadPart' ho
    refine wpAny_stack_any fun z => wpAny_pure ?_
    split
    · rename_i y _ _ _ _ _
      cases (y == Value.type "enumerate") <;> (wp_walk using wpAny_loadPart' ho, wpAny_pyIter_tuple hT; exact ⟨_, rfl, h⟩)
    · wp_walk using wpAny_loadPart' ho, wpAny_pyIter_tuple hT
      exact ⟨_, rfl, h⟩
section
variable {prog : Program} {w : World} {A : Around} {E : Value → Shared → Prop} {s : Shared}
theorem call_enT {l : Addr} {its : Array Value} {Q : Value → Shared → Prop} (hT : s.heap.IsTuple l its)
    (h : IsEnum ((s.heap.push (tiO l)).push (enO s.heap.objs.size)) (s.heap.objs.size + 1) s.heap.objs.size 0 .none → Q (.ref (s.heap.objs.size + 1)) { s with heap := (s.heap.push (tiO l)).push (enO s.heap.objs.size) }) :
    wpAny (model prog w) A (call (.type "enumerate") [.ref l]) Q E s := by
  refine callType_new F.called_enumerate (by decide) (F.typeCall_enumerate_1 _) (F.newCall_enumerate_1 _) (fun z => F.args_object_init_2 z _) F.entry_enumerate_new (meets_enT l its) ⟨hT, ?_⟩
  have hz : (s.heap.push (tiO l)).objs.size = s.heap.objs.size + 1 := Heap.size_push ..
  show _ ∧ _
  rw [hz]
  have e : IsEnum ((s.heap.push (tiO l)).push (enO s.heap.objs.size)) (s.heap.objs.size + 1) s.heap.objs.size 0 .none := by
    have q := Heap.get?_push_size (s.heap.push (tiO l)) (o := enO s.heap.objs.size) rfl
    rw [hz] at q
    exact q
  exact ⟨⟨_, e, rfl⟩, h e⟩
end
/-- the tuple at a, each item with its number in a new pair -/
def IteT (K : PySem.W.Frag) (a : Addr) : It where
  go i H := ∃ xs : List V, SqT K H a xs ∧ i < xs.length
  yld i H v H' := ∃ T x, v = .ref T ∧ H T = none ∧ H' = upd H T (.tup [.int (i : Nat), x]) ∧ ∀ xs, SqT K H a xs → xs[i]? = some x
  stop i H := ∃ xs : List V, SqT K H a xs ∧ xs.length = i
/-- how it stands ahead of the turn i -/
structure EnT (a e j : Addr) (i : Nat) (h : Heap) : Prop where
  en : ∃ old, IsEnum h e j ((i : Nat) : Int) old
  it : h.IsTupleIter j a i
  ne : e ≠ j
  na : a ≠ j
theorem turn_enT {P : Program} {w : World} {K : PySem.W.Frag} {es : List Expr} {n : Nat} {pos : Pos} (a e j : Addr) : Turn P w K (.Tuple es n pos) (IteT K a) [e, j] e (EnT a e j) where
  mem := List.mem_cons_self
  obj i h st b hb := by
    obtain ⟨⟨old, he⟩, ⟨o, ho, hc, hd⟩, _⟩ := st
    rcases List.mem_cons.mp hb with z | z
    · subst z
      exact ⟨_, he, fun v q => nomatch q⟩
    · rw [List.mem_singleton.mp z]
      exact ⟨o, ho, fun v q => by rw [hd] at q; cases q⟩
  keep i h h' st k := by
    obtain ⟨⟨old, he⟩, hi, n1, n2⟩ := st
    exact ⟨⟨old, k e List.mem_cons_self _ he⟩, hi.at fun o q => k j (List.mem_cons_of_mem _ List.mem_cons_self) o q, n1, n2⟩
  item := by
    intro X hP hw hK hc i pins s σ H E I hf st hg
    subst hP hw hK
    obtain ⟨⟨old, he⟩, hit, n1, n2⟩ := st
    obtain ⟨xs, hq, hx⟩ := hg
    obtain ⟨its, rv, p, hz⟩ := I.tuple hq
    have hl := rv.length
    have nea : e ≠ a := fun z => by
      obtain ⟨o, ho, hco, _⟩ := p
      rw [← z, he] at ho
      cases ho
      injection hco with hco
      exact absurd hco (by decide)
    have hel : e < s.heap.objs.size := Heap.lt_size he
    have hjl : j < s.heap.objs.size := by
      obtain ⟨_, q, _⟩ := hit
      exact Heap.lt_size q
    have hfp : e ∉ [j, a] := by
      intro z
      rcases List.mem_cons.mp z with z | z
      · exact n1 z
      · exact nea (List.mem_singleton.mp z)
    refine wpAny_pyNext_enum_itemC (Draws.tuple (A := X.A.in1) (I.ok.hd hc) j a n2 its.toArray) he ⟨hit, p⟩ (by rw [List.size_toArray]; omega) n1 hfp fun u h' tk hu ho st2 hT hsz hk => ?_
    have hgx : xs[i]? = some xs[i] := List.getElem?_eq_getElem hx
    obtain ⟨u2, hu2, ru⟩ := rv.get hgx
    have eu : u = u2 := by
      have : its[i]? = some u := by simpa using hu
      exact Option.some.inj (this.symm.trans hu2)
    subst eu
    refine ⟨_, rfl, wpAny_letOwnedTupleGo_enum (s := { s with heap := h', toks := tk + 1 }) ho fun h2 he2 sb => ?_⟩
    have hT2 : h2.get? s.heap.objs.size = some { cls := .type "tuple", data := .seq #[.int i tk, u] } := (sb.2 _ (Nat.ne_of_gt hel)).trans hT
    have ok : ObjOk X.prog X.w (upd H s.heap.objs.size (.tup [.int (i : Nat), xs[i]])) h2 s.heap.objs.size (.tup [.int (i : Nat), xs[i]]) :=
      ⟨(by show 2 ≤ sizeLine; decide), [.int i tk, u], .cons ⟨tk, rfl⟩ (.cons ru .nil), ⟨_, hT2, rfl, _, rfl⟩⟩
    have I1 : Inv X pins σ (upd H s.heap.objs.size (.tup [.int (i : Nat), xs[i]])) { s with heap := h2, toks := tk + 1 } :=
      I.turnedNew (ch := [e, j]) (fun b ob hb q => (sb.2 b fun z => hb (z ▸ List.mem_cons_self)).trans (hk b ob (fun z => hb (z ▸ List.mem_cons_self)) (fun z => hb (z ▸ List.mem_cons_of_mem _ List.mem_cons_self)) q)) hf (Nat.le_refl _) ok
    refine ⟨.ref s.heap.objs.size, _, I1, rfl, ⟨_, xs[i], rfl, I.hok.fresh (Nat.le_refl _), rfl, fun ys hy => by rw [I.tuple_inj hy hq]; exact hgx⟩, ⟨⟨u, he2⟩, st2.1.at fun o q => (sb.2 j n1.symm).trans q, n1, n2⟩, fun b hb => ?_⟩
    have hbl : b < s.heap.objs.size := by
      rcases List.mem_cons.mp hb with z | z
      · rw [z]
        exact hel
      · rw [List.mem_singleton.mp z]
        exact hjl
    rw [upd_ne (Nat.ne_of_lt hbl)]
    exact (hf b hb).1
  done := by
    intro X hP hw hK hc i pins s σ H E I hf st hg
    subst hP hw hK
    obtain ⟨⟨old, he⟩, hit, n1, n2⟩ := st
    obtain ⟨xs, hq, rfl⟩ := hg
    obtain ⟨its, rv, p, hz⟩ := I.tuple hq
    obtain ⟨f0, f1, f2, f3, f4, f5⟩ := hf j (List.mem_cons_of_mem _ List.mem_cons_self)
    have hl := rv.length
    have es : its.toArray.size = xs.length := by rw [List.size_toArray]; omega
    exact wpAny_pyNext_enum_endD (Draws.tuple (A := X.A.in1) (I.ok.hd hc) j a n2 its.toArray) he ⟨es ▸ hit, p⟩ fun h' eb => ⟨rfl, I.turned (t' := s.toks) (fun b o hb q => eb b o hb q) f0 f1 f3 f4 f5⟩
  self A i s Q E st h := by
    obtain ⟨⟨_, he⟩, _⟩ := st
    exact wpAny_pyIter_enum he h
def iEnT (K : PySem.W.Frag) (ta : TA) : TI := fun σ H R => ta σ H fun vs H1 => ∃ a xs, vs = [.ref a] ∧ SqT K H1 a xs ∧ R (IteT K a) H1
theorem pi_enT {X : Cx} {e : Expr} {ta : TA} {p pos q : Pos} {es : List Expr} {n : Nat} (hg : Gl X "enumerate") (hm : X.mg "enumerate" = none) (ha : PA X [e] ta) (hs : starEach [e] X.env = [(false, eval e X.env)] := by rfl) :
    PI X (.Tuple es n q) (.Call (.Name "enumerate" p) [e] [] pos) (iEnT X.K ta) := by
  constructor
  intro pins s σ H R I h
  refine Call_ (ld_blt I hg hm boot_enumerate (PyProof.Rows.callWith_type1 (thn (ha.run pos pins s σ H _ I h) fun us s1 ⟨vs, H1, I1, r1, q1⟩ => ?_) hs rfl))
  obtain ⟨a, xs, ex, hq, q⟩ := q1
  subst ex
  cases r1 with
  | cons r rr =>
    cases rr
    cases r
    obtain ⟨its, rv, pt, hz⟩ := I1.tuple hq
    have hal : a < s1.heap.objs.size := by
      obtain ⟨o, ho, _⟩ := pt
      exact Heap.lt_size ho
    refine call_enT pt fun he => wpAny_pyIter_enum he ?_
    have k : ∀ b o, s1.heap.get? b = some o → ((s1.heap.push (tiO a)).push (enO s1.heap.objs.size)).get? b = some o := fun b o z => Heap.get?_push_of_some _ (Heap.get?_push_of_some _ z)
    have I2 : Inv X pins σ H1 { s1 with heap := (s1.heap.push (tiO a)).push (enO s1.heap.objs.size) } := I1.kept (t' := s1.toks) k
    refine ⟨s1.heap.objs.size + 1, [s1.heap.objs.size + 1, s1.heap.objs.size], _, _, H1, rfl, I2, turn_enT a (s1.heap.objs.size + 1) s1.heap.objs.size,
      ⟨⟨.none, he⟩, ⟨_, Heap.get?_push_of_some _ (Heap.get?_push_size _ rfl), rfl, rfl⟩, Nat.succ_ne_self _, Nat.ne_of_lt hal⟩, fun b hb => ?_, q⟩
    have le : s1.heap.objs.size ≤ b := by
      rcases List.mem_cons.mp hb with z | z
      · rw [z]
        exact Nat.le_succ _
      · rw [List.mem_singleton.mp z]
        exact Nat.le_refl _
    exact I1.fpOk le (I1.hok.fresh le)
theorem walk_enT {K : PySem.W.Frag} {a : Addr} {xs : List V} : Walk (IteT K a) xs.length (fun H => SqT K H a xs) (YPair (fun i => some (.int (i : Nat))) fun i => xs[i]?) := by
  refine ⟨fun i _ hi q => ⟨xs, q, hi⟩, fun _ q => ⟨xs, q, rfl⟩, fun i H v H' _ q y => ?_⟩
  obtain ⟨T, x, h1, h2, h3, h4⟩ := y
  exact ⟨T, .int (i : Nat), x, h1, h2, h3, rfl, h4 xs q⟩
end Gd

set_option Elab.async false
set_option linter.all false
/-! Two tuples at once. -/
namespace Gd
open PySem PySem.Spec PyProof.Rows L2 RZ
theorem walk_zT {K : PySem.W.Frag} {a b : Addr} {xs ys : List V} {n : Nat} (h1 : n ≤ xs.length) (h2 : n ≤ ys.length) (h3 : n = xs.length ∨ n = ys.length) :
    Walk (ItzT K a b) n (fun H => SqT K H a xs ∧ SqT K H b ys) (YPair (fun i => xs[i]?) fun i => ys[i]?) := by
  refine ⟨fun i _ hi q => ?_, fun _ q => ⟨xs, ys, q.1, q.2, by omega⟩, fun i H v H' _ q y => ?_⟩
  · exact ⟨xs, ys, xs[i], ys[i], q.1, q.2, List.getElem?_eq_getElem (by omega), List.getElem?_eq_getElem (by omega)⟩
  · obtain ⟨T, x, z, e1, e2, e3, e4, e5⟩ := y
    exact ⟨T, x, z, e1, e2, e3, e4 _ q.1, e5 _ q.2⟩
end Gd

set_option Elab.async false
set_option linter.all false
set_option maxRecDepth 100000
set_option maxHeartbeats 4000000
/-! zip of a list and a tuple. -/
namespace Gd
open PySem PySem.Spec PyProof.Rows L2
def liO (l : Addr) : Obj := { cls := .type "list_iterator", data := .fields #[.ref l, .int 0 0] }
def prO (x y : Value) : Obj := { cls := .type "tuple", data := .seq #[x, y] }
def zpO (p q : Addr) : Obj := { cls := .type "zip", data := .fields #[.none, .bool false, .bool false, .ref p, .ref q] }
abbrev zm2 (h : Heap) (l t : Addr) : Heap := (h.push (liO l)).push (tiO t)
abbrev zm3 (h : Heap) (l t : Addr) : Heap := (zm2 h l t).push (prO (.ref h.objs.size) (.ref (h.push (liO l)).objs.size))
abbrev zm4 (h : Heap) (l t : Addr) : Heap := (zm3 h l t).push (prO .none .none)
abbrev zm5 (h : Heap) (l t : Addr) : Heap := (zm4 h l t).push (zpO (zm2 h l t).objs.size (zm3 h l t).objs.size)
theorem meets_zm (l t : Addr) (xs ys : Array Value) :
    Meets (Builtin.«zip.__new__» ⟨[.type "zip", .ref l, .ref t], []⟩) (fun _ R s => s.heap.IsList l xs ∧ s.heap.IsTuple t ys ∧
      R (.ok (.ret (.ref (zm4 s.heap l t).objs.size))) { s with heap := zm5 s.heap l t }) :=
  .of_wp fun prog w A R s q => by
    obtain ⟨hp, g, d, tk, os⟩ := s
    obtain ⟨ql, qt, q⟩ := q
    have hsub := sub_zip
    have q1 : Heap.IsList (Shared.heap ⟨hp, g, d, tk, os⟩) l xs := ql
    have q2 : Heap.IsTuple (Shared.heap ⟨hp.push { cls := .type "list_iterator", data := .fields #[.ref l, .int 0 0] }, g, d, tk, os⟩) t ys := Heap.IsTuple.push qt _
    wp_walk using wpAny_pyIter_list q1, wpAny_pyIter_tuple q2
    exact ⟨_, rfl, q⟩
/-- how it stands ahead of the turn i -/
structure ZmT (a b n : Addr) (i : Nat) (h : Heap) : Prop where
  zp : IsZip h (n + 4) (n + 2) (n + 3) .none
  pr : IsTupOf2 h (n + 2) (.ref n) (.ref (n + 1))
  ot : ∃ x y, IsTupOf2 h (n + 3) x y
  il : h.IsListIter n a i
  it : h.IsTupleIter (n + 1) b i
theorem get_zm {h : Heap} {l t n : Nat} (hn : n = h.objs.size) : ZmT l t n 0 (zm5 h l t) ∧ (zm4 h l t).objs.size = n + 4 := by
  subst hn
  have z1 : (h.push (liO l)).objs.size = h.objs.size + 1 := Heap.size_push ..
  have z2 : (zm2 h l t).objs.size = h.objs.size + 2 := by rw [Heap.size_push, z1]
  have z3 : (zm3 h l t).objs.size = h.objs.size + 3 := by rw [Heap.size_push, z2]
  have z4 : (zm4 h l t).objs.size = h.objs.size + 4 := by rw [Heap.size_push, z3]
  have e4 := Heap.get?_push_size (zm4 h l t) (o := zpO (zm2 h l t).objs.size (zm3 h l t).objs.size) rfl
  have e3 := Heap.get?_push_of_some (zpO (zm2 h l t).objs.size (zm3 h l t).objs.size) (Heap.get?_push_size (zm3 h l t) (o := prO .none .none) rfl)
  have e2 := Heap.get?_push_of_some (zpO (zm2 h l t).objs.size (zm3 h l t).objs.size) (Heap.get?_push_of_some (prO .none .none) (Heap.get?_push_size (zm2 h l t) (o := prO (.ref h.objs.size) (.ref (h.push (liO l)).objs.size)) rfl))
  have e1 := Heap.get?_push_of_some (zpO (zm2 h l t).objs.size (zm3 h l t).objs.size) (Heap.get?_push_of_some (prO .none .none) (Heap.get?_push_of_some (prO (.ref h.objs.size) (.ref (h.push (liO l)).objs.size)) (Heap.get?_push_size (h.push (liO l)) (o := tiO t) rfl)))
  have e0 := Heap.get?_push_of_some (zpO (zm2 h l t).objs.size (zm3 h l t).objs.size) (Heap.get?_push_of_some (prO .none .none) (Heap.get?_push_of_some (prO (.ref h.objs.size) (.ref (h.push (liO l)).objs.size)) (Heap.get?_push_of_some (tiO t) (Heap.get?_push_size h (o := liO l) rfl))))
  have a4 : (zm5 h l t).get? (h.objs.size + 4) = some (zpO (h.objs.size + 2) (h.objs.size + 3)) := by rw [← z4, ← z2, ← z3]; exact e4
  have a3 : (zm5 h l t).get? (h.objs.size + 3) = some (prO .none .none) := by rw [← z3]; exact e3
  have a2 : (zm5 h l t).get? (h.objs.size + 2) = some (prO (.ref h.objs.size) (.ref (h.objs.size + 1))) := by rw [← z2, ← z1]; exact e2
  have a1 : (zm5 h l t).get? (h.objs.size + 1) = some (tiO t) := by rw [← z1]; exact e1
  exact ⟨⟨a4, a2, ⟨.none, .none, a3⟩, ⟨_, e0, rfl, rfl⟩, ⟨_, a1, rfl, rfl⟩⟩, z4⟩
theorem call_zm {prog : Program} {w : World} {A : Around} {E : Value → Shared → Prop} {s : Shared} {l t : Addr} {xs ys : Array Value} {Q : Value → Shared → Prop} (ql : s.heap.IsList l xs) (qt : s.heap.IsTuple t ys)
    (k : ∀ h', ZmT l t s.heap.objs.size 0 h' → (∀ b o, s.heap.get? b = some o → h'.get? b = some o) → Q (.ref (s.heap.objs.size + 4)) { s with heap := h' }) : wpAny (model prog w) A (call (.type "zip") [.ref l, .ref t]) Q E s := by
  refine callType_new F.called_zip (by decide) (F.typeCall_zip_2 _ _) (F.newCall_zip_2 _ _) (fun z => F.args_object_init_3 z _ _) F.entry_zip_new (meets_zm l t xs ys) ⟨ql, qt, ?_⟩
  obtain ⟨st, z4⟩ := get_zm (l := l) (t := t) (n := s.heap.objs.size) rfl
  show _ ∧ _
  rw [z4]
  exact ⟨⟨_, st.zp, rfl⟩, k _ st fun b o e => Heap.get?_push_of_some _ (Heap.get?_push_of_some _ (Heap.get?_push_of_some _ (Heap.get?_push_of_some _ (Heap.get?_push_of_some _ e))))⟩
/-- the list at a and the tuple at b, as they stand at each turn -/
def ItzM (K : PySem.W.Frag) (a b : Addr) : It where
  go i H := ∃ xs ys : List V, SqL K H a xs ∧ SqT K H b ys ∧ i < xs.length ∧ i < ys.length
  yld i H v H' := ∃ T x y, v = .ref T ∧ H T = none ∧ H' = upd H T (.tup [x, y]) ∧ (∀ xs, SqL K H a xs → xs[i]? = some x) ∧ ∀ ys, SqT K H b ys → ys[i]? = some y
  stop i H := ∃ xs ys : List V, SqL K H a xs ∧ SqT K H b ys ∧ i ≤ xs.length ∧ i ≤ ys.length ∧ (i = xs.length ∨ i = ys.length)
theorem neA {x y : Nat} (h : x < y ∨ y < x) : @Ne Addr x y := fun e => by
  have e : (x : Nat) = y := e
  omega
theorem ni2 {x y z : Addr} (h : x ≠ y) (k : x ≠ z) : x ∉ [y, z] := fun q => by
  rcases List.mem_cons.mp q with q | q
  · exact h q
  · exact k (List.mem_singleton.mp q)
theorem sep_zm {a b n : Nat} (ha : a < n) (hb : b < n) : ZipSep2 (n + 4) (n + 2) (n + 3) n (n + 1) [n, a] [n + 1, b] := by
  constructor <;> first | exact neA (by omega) | exact ni2 (neA (by omega)) (neA (by omega)) | exact List.mem_cons_self
theorem mem5 {n b : Nat} (h : b ∈ [n + 4, n + 2, n + 3, n, n + 1]) : n ≤ b ∧ b ≤ n + 4 := by
  simp at h
  omega
theorem turn_zm {P : Program} {w : World} {K : PySem.W.Frag} {es : List Expr} {kk : Nat} {pos : Pos} {a b n : Nat} (ha : a < n) (hb : b < n) : Turn P w K (.Tuple es kk pos) (ItzM K a b) [n + 4, n + 2, n + 3, n, n + 1] (n + 4) (ZmT a b n) where
  mem := List.mem_cons_self
  obj i h st c hc := by
    obtain ⟨hz, hp, ⟨x, y, ho⟩, ⟨o1, e1, _, d1⟩, ⟨o2, e2, _, d2⟩⟩ := st
    simp only [List.mem_cons, List.not_mem_nil, or_false] at hc
    rcases hc with rfl | rfl | rfl | rfl | rfl
    · exact ⟨_, hz, fun v q => nomatch q⟩
    · exact ⟨_, hp, fun v q => nomatch q⟩
    · exact ⟨_, ho, fun v q => nomatch q⟩
    · exact ⟨o1, e1, fun v q => by rw [d1] at q; cases q⟩
    · exact ⟨o2, e2, fun v q => by rw [d2] at q; cases q⟩
  keep i h h' st k := ⟨k _ (by simp) _ st.zp, k _ (by simp) _ st.pr, let ⟨x, y, ho⟩ := st.ot; ⟨x, y, k _ (by simp) _ ho⟩, st.il.at fun o q => k _ (by simp) o q, st.it.at fun o q => k _ (by simp) o q⟩
  item := by
    intro X hP hw hK hc i pins s σ H E I hf st hg
    subst hP hw hK
    obtain ⟨xs, ys, hqx, hqy, hx, hy⟩ := hg
    obtain ⟨its, rv, p, _⟩ := I.list hqx
    obtain ⟨its2, rv2, p2, _⟩ := I.tuple hqy
    have l1 := rv.length
    have l2 := rv2.length
    have hh := I.ok.hd hc
    have hzl : n + 4 < s.heap.objs.size := Heap.lt_size st.zp
    obtain ⟨x0, y0, ho⟩ := st.ot
    have S := sep_zm (a := a) (b := b) ha hb
    refine wpAny_pyNext_zipD2_item S (Draws.list (A := X.A.in1) hh n a (neA (by omega)) its.toArray) (Draws.tuple (A := X.A.in1) hh (n + 1) b (neA (by omega)) its2.toArray) st.zp st.pr ho ⟨st.il, p.isList⟩ ⟨st.it, p2⟩ (by rw [List.size_toArray]; omega) (by rw [List.size_toArray]; omega) fun u1 u2 h' tk g1 g2 z' ot' st1 st2 hT hsz hk => ?_
    have hgx : xs[i]? = some xs[i] := List.getElem?_eq_getElem hx
    have hgy : ys[i]? = some ys[i] := List.getElem?_eq_getElem hy
    obtain ⟨v1, hv1, r1⟩ := rv.get hgx
    obtain ⟨v2, hv2, r2⟩ := rv2.get hgy
    obtain rfl : u1 = v1 := Option.some.inj ((show its[i]? = some u1 by simpa using g1).symm.trans hv1)
    obtain rfl : u2 = v2 := Option.some.inj ((show its2[i]? = some u2 by simpa using g2).symm.trans hv2)
    refine ⟨_, rfl, wpAny_letOwnedTupleGo_zip (s := { s with heap := h', toks := tk }) z' fun h2 z2 sb => ?_⟩
    have hT2 : h2.get? s.heap.objs.size = some { cls := .type "tuple", data := .seq #[u1, u2] } := (sb.2 _ (Nat.ne_of_gt hzl)).trans hT
    have ok : ObjOk X.prog X.w (upd H s.heap.objs.size (.tup [xs[i], ys[i]])) h2 s.heap.objs.size (.tup [xs[i], ys[i]]) :=
      ⟨(by show 2 ≤ sizeLine; decide), [u1, u2], .cons r1 (.cons r2 .nil), ⟨_, hT2, rfl, _, rfl⟩⟩
    have I1 : Inv X pins σ (upd H s.heap.objs.size (.tup [xs[i], ys[i]])) { s with heap := h2, toks := tk } :=
      I.turnedNew (ch := [n + 4, n + 2, n + 3, n, n + 1]) (fun c o hb q => (sb.2 c fun z => hb (by simp [z])).trans (hk c o (fun z => hb (by simp [z])) (fun z => hb (by simp [z])) (fun z => hb (by simp [z])) (fun z => hb (by simp [z])) q)) hf (Nat.le_refl _) ok
    refine ⟨.ref s.heap.objs.size, _, I1, rfl, ⟨_, xs[i], ys[i], rfl, I.hok.fresh (Nat.le_refl _), rfl, fun zs hz => by rw [I.list_inj hz hqx]; exact hgx, fun zs hz => by rw [I.tuple_inj hz hqy]; exact hgy⟩, ⟨z2, ?_, ⟨u1, u2, ?_⟩, ?_, ?_⟩, fun c hcm => ?_⟩
    · exact (sb.2 _ (neA (by omega))).trans (hk _ _ (neA (by omega)) (neA (by omega)) (neA (by omega)) (neA (by omega)) st.pr)
    · exact (sb.2 _ (neA (by omega))).trans ot'
    · exact st1.1.at fun o q => (sb.2 _ (neA (by omega))).trans q
    · exact st2.1.at fun o q => (sb.2 _ (neA (by omega))).trans q
    · have := mem5 hcm
      rw [upd_ne (neA (by omega))]
      exact (hf c hcm).1
  done := by
    intro X hP hw hK hc i pins s σ H E I hf st hg
    subst hP hw hK
    obtain ⟨xs, ys, hqx, hqy, h1, h2, h3⟩ := hg
    obtain ⟨its, rv, p, _⟩ := I.list hqx
    obtain ⟨its2, rv2, p2, _⟩ := I.tuple hqy
    have l1 := rv.length
    have l2 := rv2.length
    have hh := I.ok.hd hc
    obtain ⟨x0, y0, ho⟩ := st.ot
    exact wpAny_pyNext_zipD2_end (sep_zm (a := a) (b := b) ha hb) (Draws.list (A := X.A.in1) hh n a (neA (by omega)) its.toArray) (Draws.tuple (A := X.A.in1) hh (n + 1) b (neA (by omega)) its2.toArray) st.zp st.pr ho ⟨st.il, p.isList⟩ ⟨st.it, p2⟩ (by rw [List.size_toArray]; omega) (by rw [List.size_toArray]; omega) (by rw [List.size_toArray, List.size_toArray]; omega) fun h' tk hk =>
      ⟨rfl, I.turnedL (ch := [n + 4, n + 2, n + 3, n, n + 1]) (fun c o hb q => hk c o (fun z => hb (by simp [z])) (fun z => hb (by simp [z])) (fun z => hb (by simp [z])) (fun z => hb (by simp [z])) q) hf⟩
  self A i s Q E st h := wpAny_pyIter_zip st.zp h
def iZm (K : PySem.W.Frag) (ta : TA) : TI := fun σ H R => ta σ H fun vs H1 => ∃ a b xs ys, vs = [.ref a, .ref b] ∧ SqL K H1 a xs ∧ SqT K H1 b ys ∧ R (ItzM K a b) H1
theorem pi_zm {X : Cx} {e e2 : Expr} {ta : TA} {p pos q : Pos} {es : List Expr} {kk : Nat} (hg : Gl X "zip") (hm : X.mg "zip" = none) (ha : PA X [e, e2] ta)
    (hs : starEach [e, e2] X.env = (false, eval e X.env) :: starEach [e2] X.env := by rfl) (hpl : (backTo pos (starEach [e2] X.env)).any (·.1) = false := by rfl) :
    PI X (.Tuple es kk q) (.Call (.Name "zip" p) [e, e2] [] pos) (iZm X.K ta) := by
  constructor
  intro pins s σ H R I h
  refine Call_ (ld_blt I hg hm PyProof.Rows.boot_zip (PyProof.Rows.callWith_type1 (thn (ha.run pos pins s σ H _ I h) fun us s1 ⟨vs, H1, I1, r1, q1⟩ => ?_) hs hpl))
  obtain ⟨a, b, xs, ys, ex, hqx, hqy, q⟩ := q1
  subst ex
  obtain ⟨u1, u2, rfl, t1, t2⟩ := vals2 r1
  cases t1
  cases t2
  obtain ⟨its, rv, p1, _⟩ := I1.list hqx
  obtain ⟨its2, rv2, p2, _⟩ := I1.tuple hqy
  have la : a < s1.heap.objs.size := p1.lt
  have lb : b < s1.heap.objs.size := by
    obtain ⟨o, ho, _⟩ := p2
    exact Heap.lt_size ho
  refine call_zm p1.isList p2 fun h' st hk => wpAny_pyIter_zip st.zp ?_
  have I2 : Inv X pins σ H1 { s1 with heap := h' } := I1.kept (t' := s1.toks) hk
  exact ⟨_, _, _, _, H1, rfl, I2, turn_zm la lb, st, fun c hc => I1.fpOk (mem5 hc).1 (I1.hok.fresh (mem5 hc).1), q⟩
theorem walk_zm {K : PySem.W.Frag} {a b : Addr} {xs ys : List V} {n : Nat} (h1 : n = xs.length) (h2 : n = ys.length) :
    Walk (ItzM K a b) n (fun H => SqL K H a xs ∧ SqT K H b ys) (YPair (fun i => xs[i]?) fun i => ys[i]?) := by
  refine ⟨fun i _ hi q => ⟨xs, ys, q.1, q.2, by omega, by omega⟩, fun _ q => ⟨xs, ys, q.1, q.2, by omega, by omega, by omega⟩, fun i H v H' _ q y => ?_⟩
  obtain ⟨T, x, z, e1, e2, e3, e4, e5⟩ := y
  exact ⟨T, x, z, e1, e2, e3, e4 _ q.1, e5 _ q.2⟩
end Gd

set_option Elab.async false
set_option linter.all false
set_option maxRecDepth 100000
/-! A tuple times a number that is not above 1. -/
namespace Gd
open PySem PySem.Spec PyProof.Rows L2
theorem tuple_mul0 (l : Addr) (items : Array Value) (n : Nat) (dd : Option Addr) (sl : Array (Option Value)) (u : Tok) :
    Meets (Builtin.«tuple.__mul__» ⟨[.ref l, .int 0 u], []⟩) (fun _ R s => s.heap.get? l = some { cls := .type "tuple", dict := dd, data := .seq items n, slots := sl } ∧ items.isEmpty = false ∧
      R (.ok (.ret (Value.ref s.heap.objs.size))) { s with heap := s.heap.push { cls := .type "tuple", data := .seq #[] } }) :=
  .of_wp fun prog w A R s h => by
    obtain ⟨hp, g, d, tk, os⟩ := s
    obtain ⟨hl, he, h⟩ := h
    have f1 := AutoSeq1.idx_int
    have c0 : (decide ((0 : Int) < -(2 ^ 63)) || decide ((0 : Int) ≥ 2 ^ 63)) = false := by decide
    have c1 : (items.isEmpty || (0 : Int) == 1) = false := by rw [he]; rfl
    wp_walk using wpAny_loadPart' hl
    repeat (first
      | (refine wpAny_ite_false (decide_eq_false (by rw [c0]; exact Bool.false_ne_true)) ?_; wp_walk using wpAny_loadPart' hl)
      | (refine wpAny_ite_false (decide_eq_false (by rw [c1]; exact Bool.false_ne_true)) ?_; wp_walk using wpAny_loadPart' hl))
    exact ⟨_, rfl, h⟩
variable {X : Cx}
/-- tuple * k of a followed one that isn't empty -/
def rRepN : R2 := fun x y H Q => ∃ l xs, ∃ k : Nat, x = .ref l ∧ y = .int (k : Nat) ∧ H l = some (.tup xs) ∧ xs ≠ [] ∧ k ≤ 1000 ∧ xs.length ≤ 1000 ∧ ∀ p H', Same H H' → H' p = some (.tup (List.replicate k xs).flatten) → Q (.ref p) H'
theorem op_repN : OpR X (binaryOp .Mult) rRepN := by
  intro pins s σ H x y v u Q I rx ry h
  obtain ⟨l, xs, k, rfl, rfl, hT, hne, h2, hz, q⟩ := h
  by_cases hk : k = 0
  · subst hk
    cases rx
    obtain ⟨t, rfl⟩ := ry
    obtain ⟨its, r, ⟨⟨cls, dd, data, sl⟩, ho, hc, n, hd⟩, hs⟩ := I.tuple (.inl (.inl hT))
    simp only at hc hd
    subst hc hd
    have hie : its.toArray.isEmpty = false := by
      cases its with
      | nil =>
        cases r
        exact absurd rfl hne
      | cons a b => rfl
    refine wpAny_binaryOp_repeat_ref (T := "tuple") (U := "int") (by decide) ⟨_, ho, rfl⟩ (fun s' => typeIs_int s' 0 t) noFill_tuple_mul F.fills_int_mul F.slot_int_rmul repeat_tuple F.slot_int_index.lookup
      (call_meets F.slot_int_rmul (typeIs_int s 0 t) F.entry_int_rmul (F.args_int_rmul_2 _ _) (int_rmul_tuple 0 t l its.toArray n dd sl)
        ⟨ho, rfl, ⟨_, ho, rfl⟩, call_meets F.slot_tuple_mul ⟨_, ho, rfl⟩ F.entry_tuple_mul (F.args_tuple_mul_2 _ _) (tuple_mul0 l its.toArray n dd sl t) ⟨ho, hie, ?_⟩⟩)
    have I2 : Inv X pins σ H { s with heap := s.heap.push { cls := .type "tuple", data := .seq #[] } } := I.kept (t' := s.toks) fun b o e => Heap.get?_push_of_some _ e
    refine ⟨.ref _, upd H _ (.tup []), I.laid (fun b o e => Heap.get?_push_of_some _ e) (Nat.le_refl _) (show ObjOk X.prog X.w _ _ _ (.tup _) from ?_), rfl, q _ _ (same_new (I.hok.fresh (Nat.le_refl _))) upd_same⟩
    exact ⟨Nat.zero_le _, [], .nil, ⟨_, Heap.get?_push_size _ rfl, rfl, _, rfl⟩⟩
  · exact op_repP pins s σ H _ _ v u Q I rx ry ⟨l, k, xs, rfl, rfl, hT, hne, by omega, by omega, hz, fun p H' sm hp => q p H' sm (by rw [Int.toNat_natCast] at hp; exact hp)⟩
end Gd

set_option Elab.async false
set_option linter.all false
namespace Gd
open PySem PySem.Spec PyProof.Rows L2
theorem places (n : Nat) : Builtin.Slice.slicePlaces ((Builtin.Slice.sliceAdjust none none (-1) (n : Int)).1) ((Builtin.Slice.sliceAdjust none none (-1) (n : Int)).2) (-1) = n ∧ (Builtin.Slice.sliceAdjust none none (-1) (n : Int)).1 = (n : Int) - 1 := by
  have h1 : Builtin.Slice.sliceAdjust none none (-1) (n : Int) = ((n : Int) - 1, -1) := by
    unfold Builtin.Slice.sliceAdjust
    rfl
  rw [h1]
  refine ⟨?_, rfl⟩
  unfold Builtin.Slice.slicePlaces
  rw [if_neg (by decide)]
  by_cases h : 0 < n
  · rw [if_pos (by show (-1 : Int) < (n : Int) - 1; omega)]
    show (((n : Int) - 1 - -1 - 1) / (- -1) + 1).toNat = n
    rw [show (- -1 : Int) = 1 from rfl, Int.ediv_one]
    omega
  · rw [if_neg (by show ¬ (-1 : Int) < (n : Int) - 1; omega)]
    show 0 = n
    omega
theorem picks (xs : Array Value) : (List.filterMap (fun k : Nat => xs[((xs.size : Int) - 1 + (k : Int) * -1).toNat]?) (List.range xs.size)) = xs.toList.reverse := by
  have e : ∀ k ∈ List.range xs.size, xs[((xs.size : Int) - 1 + (k : Int) * -1).toNat]? = xs.toList.reverse[k]? := by
    intro k hk
    have hk2 := List.mem_range.mp hk
    rw [show ((xs.size : Int) - 1 + (k : Int) * -1).toNat = xs.size - 1 - k by omega, List.getElem?_reverse (by simpa using hk2)]
    simp
  have z : ∀ l : List Nat, (∀ k ∈ l, k ∈ List.range xs.size) → l.filterMap (fun k : Nat => xs[((xs.size : Int) - 1 + (k : Int) * -1).toNat]?) = l.filterMap fun k => xs.toList.reverse[k]? := by
    intro l
    induction l with
    | nil => intro _; rfl
    | cons a l ih =>
      intro h
      rw [List.filterMap_cons, List.filterMap_cons, e a (h a List.mem_cons_self), ih fun k hk => h k (List.mem_cons_of_mem _ hk)]
  rw [z _ fun _ h => h]
  have := PySem.W.krv_all xs.toList.reverse.toArray
  simpa using this
theorem sliceApplied_rev {prog : Program} {w : World} {A : Around} {E : Value → Shared → Prop} {s : Shared} {sl : Addr} {t : Tok} {n : Nat} {Q : Int × Int × Nat → Shared → Prop}
    (h : s.heap.IsSliceOf sl .none .none (.int (-1) t)) (q : Q ((n : Int) - 1, -1, n) s) : wpAny (model prog w) A (Builtin.Slice.sliceApplied (.ref sl) (pure (n : Int))) Q E s := by
  obtain ⟨hp, g, d, tk, os⟩ := s
  obtain ⟨⟨cls, dd, data, sl2⟩, ho, hc, hd⟩ := h
  simp only at hc hd
  subst hc hd
  have f1 := AutoSeq1.idx_int
  unfold Builtin.Slice.sliceApplied
  wp_walk using wpAny_loadPart' ho
  obtain ⟨p1, p2⟩ := places n
  show Q ((Builtin.Slice.sliceAdjust none none (-1) (n : Int)).1, -1, Builtin.Slice.slicePlaces ((Builtin.Slice.sliceAdjust none none (-1) (n : Int)).1) ((Builtin.Slice.sliceAdjust none none (-1) (n : Int)).2) (-1)) _
  rw [p1, p2]
  exact q
theorem tuple_get_rev (l sl : Addr) (items : Array Value) (n : Nat) (dd : Option Addr) (sl0 : Array (Option Value)) (t : Tok) :
    Meets (Builtin.«tuple.__getitem__» ⟨[.ref l, .ref sl], []⟩) (fun _ R s => s.heap.get? l = some { cls := .type "tuple", dict := dd, data := .seq items n, slots := sl0 } ∧ s.heap.IsSliceOf sl .none .none (.int (-1) t) ∧ items.size ≤ sizeLine ∧
      R (.ok (.ret (Value.ref s.heap.objs.size))) { s with heap := s.heap.push { cls := .type "tuple", data := .seq items.toList.reverse.toArray } }) :=
  .of_wp fun prog w A R s h => by
    obtain ⟨hp, g, d, tk, os⟩ := s
    obtain ⟨hl, hs, hz, h⟩ := h
    have hs2 := hs
    obtain ⟨⟨cls, dd2, data, sl2⟩, ho, hc, hd⟩ := hs2
    simp only at hc hd
    subst hc hd
    have f1 := AutoSeq1.idx_int
    obtain ⟨p1, p2⟩ := places items.size
    have p3 := picks items
    wp_walk using wpAny_loadPart' hl
    have p4 : (List.filterMap (fun k : Nat => items[((Builtin.Slice.sliceAdjust none none ((some (-1 : Int)).getD 1) (items.size : Int)).fst + (k : Int) * (some (-1 : Int)).getD 1).toNat]?)
        (List.range (Builtin.Slice.slicePlaces (Builtin.Slice.sliceAdjust none none ((some (-1 : Int)).getD 1) (items.size : Int)).fst (Builtin.Slice.sliceAdjust none none ((some (-1 : Int)).getD 1) (items.size : Int)).snd ((some (-1 : Int)).getD 1)))) = items.toList.reverse := by
      show (List.filterMap (fun k : Nat => items[((Builtin.Slice.sliceAdjust none none (-1) (items.size : Int)).1 + (k : Int) * -1).toNat]?) (List.range (Builtin.Slice.slicePlaces ((Builtin.Slice.sliceAdjust none none (-1) (items.size : Int)).1) ((Builtin.Slice.sliceAdjust none none (-1) (items.size : Int)).2) (-1)))) = _
      rw [p1, p2]
      exact p3
    rw [p4]
    have hz2 : ¬ items.toList.reverse.toArray.size > sizeLine := by
      simp only [List.size_toArray, List.length_reverse, Array.length_toList]
      omega
    refine wpAny_ite_false (decide_eq_false hz2) ?_
    wp_walk
    exact ⟨_, rfl, h⟩
/-- the items of a tuple from its end on -/
def tRevT (K : PySem.W.Frag) (te : TE) : TE := fun σ H Q => te σ H fun x H1 => ∃ a xs, x = .ref a ∧ SqT K H1 a xs ∧ ∀ p, H1 p = none → Q (.ref p) (upd H1 p (.tup xs.reverse))
theorem vals_len : ∀ {xs : List V} {its : List Value}, Vals xs its → xs.length = its.length
  | [], [], _ => rfl
  | _ :: _, _ :: _, .cons _ t => by rw [List.length_cons, List.length_cons, vals_len t]
theorem vals_rev : ∀ {xs : List V} {its : List Value}, Vals xs its → Vals xs.reverse its.reverse
  | [], [], _ => .nil
  | x :: xs, v :: its, h => by
    cases h with
    | cons h t =>
      rw [List.reverse_cons, List.reverse_cons]
      exact vals_app (vals_rev t) (.cons h .nil)
where vals_app : ∀ {xs ys : List V} {a b : List Value}, Vals xs a → Vals ys b → Vals (xs ++ ys) (a ++ b)
  | [], _, [], _, _, h => h
  | _ :: _, _, _ :: _, _, .cons h t, u => .cons h (vals_app t u)
theorem pe_revT {X : Cx} {e : Expr} {te : TE} {k : Nat} {p1 p2 p3 pos : Pos} (he : PE X e te) (ht : ∀ (o r : Value), letTemporaryGo e o r = pure () := by exact fun _ _ => rfl) : PE X (.Subscript e (.Slice none none (some (.UnaryOp .USub (.Constant (.int 1) k p1) p2)) p3) pos) (tRevT X.K te) := by
  refine ⟨fun pins s σ H Q I h => ?_⟩
  refine wpAny_Subscript_Slice_step (T := "tuple") (id := "tuple.__getitem__") F.slot_tuple_getitem.lookup (thn (he.run pins s σ H _ I h) fun u s1 ⟨v, H1, I1, r1, q1⟩ => ?_) ht
  obtain ⟨a, xs, rfl, hx, q⟩ := q1
  cases r1
  refine wpAny_Slice ?_
  have e0 : ∀ env, evalPart none env = pure Value.none := fun _ => rfl
  have e1 : ∀ (x : Expr) env, evalPart (some x) env = eval x env := fun _ _ => rfl
  rw [e0, e1]
  refine wpAny_pure ?_
  refine wpAny_pure ?_
  refine thn ((pe_un un_neg (pe_int (X := X))).run pins s1 σ H1 (fun v H' => v = .int (-1) ∧ H' = H1) I1 ⟨_, rfl, rfl, rfl⟩) fun u s2 ⟨v, H2, I2, r2, q2⟩ => ?_
  obtain ⟨rfl, rfl⟩ := q2
  obtain ⟨t, rfl⟩ := r2
  obtain ⟨its, rv, ⟨⟨cls, dd, data, sl⟩, ho, hc, n, hd⟩, hs⟩ := I2.tuple hx
  simp only at hc hd
  subst hc hd
  refine ⟨⟨_, Heap.get?_push_of_some _ ho, rfl⟩, ?_⟩
  refine getItem_meets (T := "tuple") (id := "tuple.__getitem__") ⟨_, Heap.get?_push_of_some _ ho, rfl⟩ (by decide) F.slot_tuple_getitem F.entry_tuple_getitem (F.args_tuple_getitem_2 _ _) (tuple_get_rev a s2.heap.objs.size its.toArray n dd sl t)
    ⟨Heap.get?_push_of_some _ ho, ⟨_, Heap.get?_push_size _ rfl, rfl, rfl⟩, ?_, ?_⟩
  · rw [List.size_toArray, ← vals_len rv]
    exact hs
  have I3 : L2.Inv X pins σ H2 { s2 with heap := s2.heap.push { cls := .type "slice", data := .fields #[.none, .none, .int (-1) t] } } := I2.kept (t' := s2.toks) fun b o e => Heap.get?_push_of_some _ e
  refine ⟨.ref _, upd H2 _ (.tup xs.reverse), I3.laid (fun b o e => Heap.get?_push_of_some _ e) (Nat.le_refl _) (show ObjOk X.prog X.w _ _ _ (.tup _) from ⟨by rw [List.length_reverse]; exact hs, its.reverse, vals_rev rv, ⟨_, Heap.get?_push_size _ rfl, rfl, _, rfl⟩⟩), rfl, q _ (I3.hok.fresh (Nat.le_refl _))⟩
end Gd

set_option Elab.async false
set_option linter.all false
set_option maxRecDepth 100000
/-! Data of any kind: its types; what tests of kinds say of it. -/
namespace Gd
open PySem PySem.Spec PyProof.Rows L2
theorem _root_.L2.Same.sqT {K : PySem.W.Frag} {H H' : Hp} {a : Addr} {xs : List V} (e : Same H H') (h : SqT K H a xs) : SqT K H' a xs := by
  rcases h with (h | ⟨o, h⟩) | h
  · exact .inl (.inl (e _ _ h))
  · exact .inl (.inr ⟨o, e _ _ h⟩)
  · exact .inr h
mutual
theorem dp_same {K : PySem.W.Frag} {H H' : Hp} (s : Same H H') : ∀ {v : V} {d : PyData}, Dp K H v d → Dp K H' v d
  | _, _, .non => .non
  | _, _, .bl b => .bl b
  | _, _, .int i => .int i
  | _, _, .str x => .str x
  | _, _, .lst h t => .lst (s.seq h) (dps_same s t)
  | _, _, .tup h t => .tup (Same.sqT s h) (dps_same s t)
theorem dps_same {K : PySem.W.Frag} {H H' : Hp} (s : Same H H') : ∀ {vs : List V} {ds : List PyData}, DpAll K H vs ds → DpAll K H' vs ds
  | _, _, .nil => .nil
  | _, _, .cons h t => .cons (dp_same s h) (dps_same s t)
end
theorem _root_.L2.Dp.same {K : PySem.W.Frag} {H H' : Hp} {v : V} {d : PyData} (h : Dp K H v d) (s : Same H H') : Dp K H' v d := dp_same s h
theorem _root_.L2.DpAll.same {K : PySem.W.Frag} {H H' : Hp} {vs : List V} {ds : List PyData} (h : DpAll K H vs ds) (s : Same H H') : DpAll K H' vs ds := dps_same s h
theorem _root_.L2.DpAll.len {K : PySem.W.Frag} {H : Hp} : ∀ {vs : List V} {ds : List PyData}, DpAll K H vs ds → vs.length = ds.length
  | _, _, .nil => rfl
  | _, _, .cons _ t => by rw [List.length_cons, List.length_cons, t.len]
theorem _root_.L2.DpAll.get {K : PySem.W.Frag} {H : Hp} : ∀ {vs : List V} {ds : List PyData} {i : Nat} {v : V}, DpAll K H vs ds → vs[i]? = some v → ∃ d, ds[i]? = some d ∧ Dp K H v d
  | _, _, 0, v, .cons h t, e => ⟨_, rfl, by cases e; exact h⟩
  | _, _, i + 1, v, .cons h t, e => t.get (i := i) e
def tyD : PyData → String
  | .none => "NoneType"
  | .bool _ => "bool"
  | .int _ => "int"
  | .str _ => "str"
  | .list _ => "list"
  | .tuple _ => "tuple"
  | .dict _ => "dict"
theorem ty_of {K : PySem.W.Frag} {H : Hp} {v : V} {d : PyData} (h : Dp K H v d) : TyX K H v (.type (tyD d)) := by
  cases h with
  | non => exact .base .non
  | bl b => exact .base (.bl b)
  | int i => exact .base (.int i)
  | str x => exact .base (.str x)
  | lst h t =>
    rcases h with (h | ⟨o, h⟩) | ⟨o, its, n, l, c, _⟩
    · exact .base (.lst h)
    · exact .base (.frz h)
    · exact .kList l c
  | tup h t =>
    rcases h with (h | ⟨o, h⟩) | ⟨o, its, n, l, c, _⟩
    · exact .base (.tup h)
    · exact .fTuple h
    · exact .kTuple l c
def isI : PyData → Bool
  | .int _ => true
  | _ => false
/-- a tuple of whole numbers, or not -/
def intsD : PyData → Option (List Int)
  | .tuple ds => ds.foldr (fun d r => match d, r with | .int i, some l => some (i :: l) | _, _ => none) (some [])
  | _ => none
theorem intsD_all (ds : List PyData) : (ds.all isI = true ↔ ∃ ns, intsD (.tuple ds) = some ns) ∧ ∀ ns, intsD (.tuple ds) = some ns → ds = ns.map PyData.int := by
  induction ds with
  | nil => exact ⟨⟨fun _ => ⟨[], rfl⟩, fun _ => rfl⟩, fun ns h => by cases h; rfl⟩
  | cons d ds ih =>
    cases d with
    | int i =>
      constructor
      · rw [List.all_cons]
        show (true && ds.all isI) = true ↔ _
        rw [Bool.true_and, ih.1]
        constructor
        · rintro ⟨ns, h⟩
          refine ⟨i :: ns, ?_⟩
          show (match PyData.int i, intsD (.tuple ds) with | .int i, some l => some (i :: l) | _, _ => none) = _
          rw [h]
        · rintro ⟨ns, h⟩
          have h : (match PyData.int i, intsD (.tuple ds) with | .int i, some l => some (i :: l) | _, _ => none) = some ns := h
          cases z : intsD (.tuple ds) with
          | none => rw [z] at h; cases h
          | some l => exact ⟨l, rfl⟩
      · intro ns h
        have h : (match PyData.int i, intsD (.tuple ds) with | .int i, some l => some (i :: l) | _, _ => none) = some ns := h
        cases z : intsD (.tuple ds) with
        | none => rw [z] at h; cases h
        | some l =>
          rw [z] at h
          cases h
          rw [ih.2 l z]
          rfl
    | none => exact ⟨⟨fun h => (by cases h), fun ⟨_, h⟩ => (by cases h)⟩, fun _ h => (by cases h)⟩
    | bool b => exact ⟨⟨fun h => (by cases h), fun ⟨_, h⟩ => (by cases h)⟩, fun _ h => (by cases h)⟩
    | str b => exact ⟨⟨fun h => (by cases h), fun ⟨_, h⟩ => (by cases h)⟩, fun _ h => (by cases h)⟩
    | list b => exact ⟨⟨fun h => (by cases h), fun ⟨_, h⟩ => (by cases h)⟩, fun _ h => (by cases h)⟩
    | tuple b => exact ⟨⟨fun h => (by cases h), fun ⟨_, h⟩ => (by cases h)⟩, fun _ h => (by cases h)⟩
    | dict b => exact ⟨⟨fun h => (by cases h), fun ⟨_, h⟩ => (by cases h)⟩, fun _ h => (by cases h)⟩
theorem intsD_map (ns : List Int) : intsD (.tuple (ns.map PyData.int)) = some ns := by
  induction ns with
  | nil => rfl
  | cons n ns ih =>
    show (match PyData.int n, intsD (.tuple (ns.map PyData.int)) with | .int i, some l => some (i :: l) | _, _ => none) = _
    rw [ih]
def areI (d : PyData) : Bool := (intsD d).isSome
theorem areI_tuple (ds : List PyData) : areI (.tuple ds) = ds.all isI := by
  unfold areI
  have h := (intsD_all ds).1
  cases z : intsD (.tuple ds) with
  | none =>
    cases y : ds.all isI with
    | false => rfl
    | true =>
      obtain ⟨ns, e⟩ := h.mp y
      rw [z] at e
      cases e
  | some ns => exact (h.mpr ⟨ns, z⟩).symm
theorem _root_.L2.Dp.ints {K : PySem.W.Frag} {H : Hp} {v : V} {d : PyData} {ns : List Int} (h : Dp K H v d) (e : intsD d = some ns) : ∃ a, v = .ref a ∧ SqT K H a (ns.map V.int) ∧ d = .tuple (ns.map PyData.int) := by
  cases h with
  | non => cases e
  | bl b => cases e
  | int i => cases e
  | str x => cases e
  | lst h t => cases e
  | @tup a xs ds h t =>
    have q := (intsD_all ds).2 ns e
    refine ⟨a, rfl, ?_, by rw [q]⟩
    have key : ∀ {xs : List V} {ds : List PyData} {ns : List Int}, DpAll K H xs ds → ds = ns.map PyData.int → xs = ns.map V.int := by
      intro xs
      induction xs with
      | nil =>
        intro ds ns t e
        cases t
        cases ns with
        | nil => rfl
        | cons _ _ => cases e
      | cons x xs ih =>
        intro ds ns t e
        cases t with
        | cons h t =>
          cases ns with
          | nil => cases e
          | cons n ns =>
            rw [List.map_cons] at e
            obtain ⟨rfl, e2⟩ := List.cons.inj e
            cases h
            rw [ih t e2]
            rfl
    rw [← key t q]
    exact h
def sizeD : PyData → Bool
  | .int i => decide (1 ≤ i)
  | _ => false
def ascI : List Int → Bool
  | a :: b :: t => decide (a < b) && ascI (b :: t)
  | _ => true
theorem ascI_pw : ∀ {ns : List Int}, ns.Pairwise (· < ·) → ascI ns = true
  | [], _ => rfl
  | [_], _ => rfl
  | a :: b :: t, h => by
    rw [List.pairwise_cons] at h
    show (decide (a < b) && ascI (b :: t)) = true
    rw [ascI_pw h.2, decide_eq_true (h.1 b List.mem_cons_self)]
    rfl
theorem ascI_eq : ∀ ns : List Int, ((List.range (ns.length - 1)).map fun i => decide (ns.getD i 0 < ns.getD (i + 1) 0)).all id = ascI ns
  | [] => rfl
  | [_] => rfl
  | a :: b :: t => by
    have ih := ascI_eq (b :: t)
    rw [show (a :: b :: t).length - 1 = ((b :: t).length - 1) + 1 by simp, List.range_succ_eq_map, List.map_cons, List.all_cons, List.map_map]
    show (decide (a < b) && _) = (decide (a < b) && ascI (b :: t))
    rw [← ih]
    congr 1
def setD (d : PyData) : Bool := match intsD d with
  | some ns => ascI ns
  | none => false
def divI (n : Nat) (i : Int) : Bool := decide (1 ≤ i) && decide ((n : Int) % i = 0)
def divD (n : Nat) : PyData → Bool
  | .int i => divI n i
  | _ => false
def dsetD (n : Nat) (d : PyData) : Bool := match intsD d with
  | some ns => ascI ns && ns.all (divI n)
  | none => false
theorem kd_int {K : PySem.W.Frag} (d : PyData) : PySem.W.kitOne K (.type (tyD d)) (.type "int") = some (match d with | .int _ => true | .bool _ => true | _ => false) := by
  cases d with
  | none => exact kit_ty (show kitB "NoneType" "int" = some false by decide +kernel)
  | bool x => exact kit_ty (show kitB "bool" "int" = some true by decide +kernel)
  | int x => exact kit_ty (show kitB "int" "int" = some true by decide +kernel)
  | str x => exact kit_ty (show kitB "str" "int" = some false by decide +kernel)
  | list x => exact kit_ty (show kitB "list" "int" = some false by decide +kernel)
  | tuple x => exact kit_ty (show kitB "tuple" "int" = some false by decide +kernel)
  | dict x => exact kit_ty (show kitB "dict" "int" = some false by decide +kernel)
theorem kd_bool {K : PySem.W.Frag} (d : PyData) : PySem.W.kitOne K (.type (tyD d)) (.type "bool") = some (match d with | .bool _ => true | _ => false) := by
  cases d with
  | none => exact kit_ty (show kitB "NoneType" "bool" = some false by decide +kernel)
  | bool x => exact kit_ty (show kitB "bool" "bool" = some true by decide +kernel)
  | int x => exact kit_ty (show kitB "int" "bool" = some false by decide +kernel)
  | str x => exact kit_ty (show kitB "str" "bool" = some false by decide +kernel)
  | list x => exact kit_ty (show kitB "list" "bool" = some false by decide +kernel)
  | tuple x => exact kit_ty (show kitB "tuple" "bool" = some false by decide +kernel)
  | dict x => exact kit_ty (show kitB "dict" "bool" = some false by decide +kernel)
theorem kd_tuple {K : PySem.W.Frag} (d : PyData) : PySem.W.kitOne K (.type (tyD d)) (.type "tuple") = some (match d with | .tuple _ => true | _ => false) := by
  cases d with
  | none => exact kit_ty (show kitB "NoneType" "tuple" = some false by decide +kernel)
  | bool x => exact kit_ty (show kitB "bool" "tuple" = some false by decide +kernel)
  | int x => exact kit_ty (show kitB "int" "tuple" = some false by decide +kernel)
  | str x => exact kit_ty (show kitB "str" "tuple" = some false by decide +kernel)
  | list x => exact kit_ty (show kitB "list" "tuple" = some false by decide +kernel)
  | tuple x => exact kit_ty (show kitB "tuple" "tuple" = some true by decide +kernel)
  | dict x => exact kit_ty (show kitB "dict" "tuple" = some false by decide +kernel)
theorem kd_list {K : PySem.W.Frag} (d : PyData) : PySem.W.kitOne K (.type (tyD d)) (.type "list") = some (match d with | .list _ => true | _ => false) := by
  cases d with
  | none => exact kit_ty (show kitB "NoneType" "list" = some false by decide +kernel)
  | bool x => exact kit_ty (show kitB "bool" "list" = some false by decide +kernel)
  | int x => exact kit_ty (show kitB "int" "list" = some false by decide +kernel)
  | str x => exact kit_ty (show kitB "str" "list" = some false by decide +kernel)
  | list x => exact kit_ty (show kitB "list" "list" = some true by decide +kernel)
  | tuple x => exact kit_ty (show kitB "tuple" "list" = some false by decide +kernel)
  | dict x => exact kit_ty (show kitB "dict" "list" = some false by decide +kernel)
theorem kd_str {K : PySem.W.Frag} (d : PyData) : PySem.W.kitOne K (.type (tyD d)) (.type "str") = some (match d with | .str _ => true | _ => false) := by
  cases d with
  | none => exact kit_ty (show kitB "NoneType" "str" = some false by decide +kernel)
  | bool x => exact kit_ty (show kitB "bool" "str" = some false by decide +kernel)
  | int x => exact kit_ty (show kitB "int" "str" = some false by decide +kernel)
  | str x => exact kit_ty (show kitB "str" "str" = some true by decide +kernel)
  | list x => exact kit_ty (show kitB "list" "str" = some false by decide +kernel)
  | tuple x => exact kit_ty (show kitB "tuple" "str" = some false by decide +kernel)
  | dict x => exact kit_ty (show kitB "dict" "str" = some false by decide +kernel)
/-- a part of a tuple, the whole or a new one -/
theorem slK {K : PySem.W.Frag} {H : Hp} {a : Addr} {xs : List V} {lo hi : Option Int} {Q : V → Hp → Prop} (ha : SqT K H a xs) (hw : HT.sIx xs.length 0 lo = 0 ∧ HT.sIx xs.length xs.length hi = xs.length → cutV xs lo hi = xs)
    (k : ∀ (b : Addr) (H' : Hp), Same H H' → SqT K H' b (cutV xs lo hi) → Q (.ref b) H') : rSlA K (.ref a) lo hi H Q :=
  ⟨a, xs, rfl, ha, fun c => k a H (Same.refl _) (by rw [hw c]; exact ha), fun _ p hp => k p _ (same_new hp) (.inl (.inl upd_same))⟩
end Gd

set_option Elab.async false
set_option linter.all false
set_option maxRecDepth 100000
set_option maxHeartbeats 4000000
/-! Defs that raise: what a name promises, errors of two fields. -/
namespace Gd
open PySem PySem.Spec PyProof.Rows L2
structure CalX (P : Program) (w : World) (K : PySem.W.Frag) (mg : Str → Option Value) (base : Heap) (k : Nat) (x : Str) (sp : Sp) : Prop where
  ex : ∃ f fd ps, mg x = some (.ref f) ∧ PySem.W.keepIn K (.ref f) = true ∧ Binds K fd ps [] ∧ FnOk P w K mg base (L2.CX P w) k f fd ps sp
section
variable {P : Program} {w : World} {K : PySem.W.Frag} {mg : Str → Option Value} {base : Heap}
theorem okCX {x : String} {st : Stmt} {N ps : List Str} {k : Nat} {sp : Sp} (D : At K mg x st ps) (S : FnScope N ps (defScope st)) (len : ∀ vs H Q E, sp vs H Q E → vs.length = ps.length)
    (body : ∀ (f : Addr) (cdv : Value) (A : Around) (outer : List Env) (s : Shared) (H : Hp) (vs : List V) (Q : VK) (E : XK), Room k (A.deeper (envOfC x (defScope st) s.heap.objs.size f cdv)) → sp vs H Q E →
      ∃ t, PSs (cxOf (L2.CX P w) P w K mg base N x (defScope st) f cdv A outer s H E) (defBody st) t ∧ t { nx := fun _ H' => Q .non H', rt := Q } (start N vs) H) : CalX P w K mg base (k + 1) x sp := by
  obtain ⟨f, fd, hm, F, hb⟩ := D.ex
  exact ⟨f, fd, ps, hm, F.kp, hb, F.okX S len fun cdv A outer s H vs Q E hr h => body f cdv A outer s H vs Q E hr h⟩
end
section
variable {X : Cx} {j k : Nat} {sp : Sp} {x : Str} {p pos : Pos} {e : Expr} {es : List Expr} {t : TA} {W : WX}
theorem pe_kX (c : CalX X.prog X.w X.K X.mg X.base k x sp) (tk : Takes X W) (hr : Room j X.A) (hk : k ≤ j) (hg : Gl X x) (ha : PA X (e :: es) t) (hdb : (x == ("__debug__" : Str)) = false := by decide)
    (he : starEach (e :: es) X.env = (false, eval e X.env) :: starEach es X.env := by rfl) (hpl : (backTo pos (starEach es X.env)).any (·.1) = false := by rfl) :
    PE X (.Call (.Name x p) (e :: es) [] pos) (tCallS sp (WE W) t) := by
  obtain ⟨f, fd, ps, hm, hkp, hb, F⟩ := c.ex
  exact pe_callS F (hr.mono hk) hg hm hkp hb (fun σ => passAt tk σ) ha hdb he hpl
end
/-- an error of the class at C with two fields, new -/
def XdAt (H : Hp) (d : Addr) (f1 f2 : Str) (v1 v2 : V) : Prop := ∃ fs, H d = some (.xd fs) ∧ fs.lookup f1 = some v1 ∧ fs.lookup f2 = some v2
/-- what such a class's __init__ does -/
def spInit2 (f1 f2 : Str) (C : Addr) : Sp := fun vs H Q _ => ∃ (a : Addr) (v1 v2 : V), vs = [.ref a, v1, v2] ∧ H a = some (exo a C none) ∧
  ∀ d, H d = none → d ≠ a → Q .non (upd (upd (upd H d (exd d [(f1, v1)])) a (exo a C (some d))) d (exd d [(f2, v2), (f1, v1)]))
/-- what the text says of such a class: its __init__ stores two fields -/
structure Err2 (K : PySem.W.Frag) (mg : Str → Option Value) (x : Str) (f1 f2 : Str) (C : Addr) : Prop where
  mgC : mg x = some (.ref C)
  oex : OexC K C
  ne : f1 ≠ f2
  init : ∃ fI, PySem.W.findIn K (.ref C) "__init__" = some (some (.ref fI)) ∧ PySem.W.typeIn K (.ref fI) = some (.type "function") ∧ ∀ (P : Program) (w : World) (base : Heap), ∃ fd ps, Binds K fd ps [] ∧ FnOk P w K mg base CX0 1 fI fd ps (spInit2 f1 f2 C)
section
variable {X : Cx} {W : WX} {e1 e2 : Expr} {t : TA} {p pos pos2 : Pos} {j : Nat} {x f1 f2 : Str} {C : Addr}
theorem ps_raise2 (hc : X.calm = true) (tk : Takes X W) (T : Err2 X.K X.mg x f1 f2 C) (hr : Room j X.A) (hj : 2 ≤ j) (hg : Gl X x) (ha : PA X [e1, e2] t) (hx : Passes CX0 X (fun _ _ _ => False)) (hdb : (x == ("__debug__" : Str)) = false := by decide)
    (he : starEach [e1, e2] X.env = (false, eval e1 X.env) :: starEach [e2] X.env := by rfl) (hpl : (backTo pos (starEach [e2] X.env)).any (·.1) = false := by rfl) :
    PS X (.Raise (some (.Call (.Name x p) [e1, e2] [] pos)) none pos2) (fun _ σ H => tMkO C (spInit2 f1 f2 C) [] t σ H fun cls d H' => W cls d σ H') := by
  obtain ⟨fI, iC, tI, hF⟩ := T.init
  obtain ⟨fd, ps, hb, F⟩ := hF X.prog X.w X.base
  exact ps_raise (pos := pos2) hc tk (pmk_oex (p := p) (dvs := []) T.oex iC tI F (hr.mono hj) hb .nil hx hg T.mgC ha hdb he hpl)
end
/-- its reading, behind the two values -/
theorem made2 {K : PySem.W.Frag} {mg : Str → Option Value} {x f1 f2 : Str} {C : Addr} {H : Hp} {v1 v2 : V} {Q : XK} (T : Err2 K mg x f1 f2 C) (k : ∀ (d : Addr) (H' : Hp), Same H H' → XdAt H' d f1 f2 v1 v2 → Q (.ref C) (some d) H') :
    [v1, v2].length ≤ 1000 ∧ ∀ a, H a = none → spInit2 f1 f2 C (.ref a :: ([v1, v2] ++ [])) (upd H a (exo a C none))
      (fun v H2 => v = .non ∧ ∃ (d : Addr) (fs : List (Str × V)), H2 a = some (exo a C (some d)) ∧ H2 d = some (exd d fs) ∧ H d = none ∧ Q (.ref C) (some d) (upd (del H2 a) d (.xd fs))) (fun _ _ _ => False) := by
  refine ⟨(by show 2 ≤ 1000; decide), fun a ha => ⟨a, v1, v2, rfl, upd_same, fun d hd hne => ⟨rfl, d, [(f2, v2), (f1, v1)], ?_, upd_same, ?_, k d _ ?_ ?_⟩⟩⟩
  · rw [upd_ne hne.symm, upd_same]
  · rwa [upd_ne hne] at hd
  · have hd2 : H d = none := by rwa [upd_ne hne] at hd
    intro b o e
    have n1 : b ≠ d := fun z => by rw [z, hd2] at e; cases e
    have n2 : b ≠ a := fun z => by rw [z, ha] at e; cases e
    rw [upd_ne n1, del_ne n2, upd_ne n1, upd_ne n2, upd_ne n1, upd_ne n2]
    exact e
  · refine ⟨_, upd_same, ?_, ?_⟩
    · show List.lookup f1 [(f2, v2), (f1, v1)] = _
      rw [List.lookup_cons]
      rw [show (f1 == f2) = false from beq_false_of_ne T.ne]
      simp
    · simp
end Gd

set_option Elab.async false
set_option linter.all false
set_option maxRecDepth 100000
set_option maxHeartbeats 4000000
/-! isinstance of a caught error that has fields. -/
namespace Gd
open PySem PySem.Spec PyProof.Rows L2
/-- isinstance(e, c), e the caught error: its class C, its fields at d -/
def rIsX (K : PySem.W.Frag) (C a : Addr) (cls : Value) (d : Option Addr) : List V → Hp → VK → Prop := fun xs H Q => cls = .ref C ∧ (∃ (dd : Addr) (fs : List (Str × V)), d = some dd ∧ H dd = some (.xd fs)) ∧
  ∃ (c : Addr) (b : Bool), xs = [.ref a, .ref c] ∧ PySem.W.kitOne K (.ref C) (.ref c) = some b ∧ Q (.bl b) H
theorem call_isX {X : Cx} {a C : Addr} {oe : Obj} {cls : Value} {d : Option Addr} {pn : List (Addr × Obj)} (T : ExcC X.K C) (hz : Zc cls d oe) (hf : ∃ vs, oe.data = .fields vs) : CallR (X.suite a ((a, oe) :: pn)) (.builtin "isinstance") (rIsX X.K C a cls d) := by
  intro pins s σ H xs us Q I r h
  obtain ⟨ec, ⟨dd, fs, ed, eH⟩, c, b, rfl, e, q⟩ := h
  subst ec
  subst ed
  obtain ⟨u1, u2, rfl, r1, r2⟩ := vals2 r
  cases r1
  cases r2
  obtain ⟨hget, _⟩ := I.pin (a, oe) (List.mem_append_left _ List.mem_cons_self)
  obtain ⟨vs, hv⟩ := hf
  have ok : ObjOk X.prog X.w H s.heap dd (.xd fs) := I.hok dd _ eH
  obtain ⟨mA, hns, _⟩ := ok
  obtain ⟨od, ho, _⟩ := lookIn_ns hns
  have J : PySem.W.InstAt s.heap a oe C (some od) := ⟨hget, hz.1, by unfold PySem.W.notCls; rw [hv] <;> rfl, by rw [hz.2]; exact ho⟩
  obtain ⟨cd, hcd, _⟩ := PySem.W.any_some T.hd
  exact PySem.W.kia_one (PySem.W.kitx_exc (by rw [hcd]; rfl) T.hg T.hk T.hs T.ha T.hn T.ht T.hm) I.kIn J e (fun z => nomatch z) fun tk => ⟨.bl b, H, I.kept (t' := tk) fun _ _ z => z, rfl, q⟩
end Gd

set_option Elab.async false
set_option linter.all false
set_option maxRecDepth 100000
set_option maxHeartbeats 4000000
/-! Defs read without the heap: data (D), what slots hold (Sl), the state (En); how they stand for values and heaps (Rp, RepE). -/
namespace Pu
open PySem PySem.Spec PyProof.Rows L2 Gd

inductive D where
  | non | bl (b : Bool) | int (i : Int) | str (x : Str) | tup (ds : List D) | lst (ds : List D) | ins (C : Addr) (fs : List Str) (ds : List D) | raw (v : V) | scr (ns : List Int) | dcT (ks : List (List L2.Key)) (ds : List D) | dcK (ks : List L2.Key) (ds : List D)

mutual
inductive Rp (K : PySem.W.Frag) (H : Hp) : V → D → Prop
  | non : Rp K H .non .non
  | bl (b : Bool) : Rp K H (.bl b) (.bl b)
  | int (i : Int) : Rp K H (.int i) (.int i)
  | str (x : Str) : Rp K H (.str x) (.str x)
  | raw (v : V) : Rp K H v (.raw v)
  | scr {a : Addr} {ns : List Int} : SqL K H a (ns.map V.int) → Rp K H (.ref a) (.scr ns)
  | lst {a : Addr} {vs : List V} {ds : List D} : Rd H a (.lst vs) → RpA K H vs ds → Rp K H (.ref a) (.lst ds)
  | tup {a : Addr} {vs : List V} {ds : List D} : SqT K H a vs → RpA K H vs ds → Rp K H (.ref a) (.tup ds)
  | ins {a C dx : Addr} {fs : List (Str × V)} {gs : List Str} {ds : List D} : H a = some (.ins C dx fs) → H dx = some (.own a) → fs.map (·.1) = gs → RpA K H (fs.map (·.2)) ds → Rp K H (.ref a) (.ins C gs ds)
  | dcT {a : Addr} {kvs : List (List L2.Key × V)} {ks : List (List L2.Key)} {ds : List D} : H a = some (.dT kvs) → kvs.map (·.1) = ks → RpA K H (kvs.map (·.2)) ds → Rp K H (.ref a) (.dcT ks ds)
  | dcK {a : Addr} {kvs : List (L2.Key × V)} {ks : List L2.Key} {ds : List D} : H a = some (.dK kvs) → kvs.map (·.1) = ks → RpA K H (kvs.map (·.2)) ds → Rp K H (.ref a) (.dcK ks ds)
inductive RpA (K : PySem.W.Frag) (H : Hp) : List V → List D → Prop
  | nil : RpA K H [] []
  | cons {v : V} {vs : List V} {d : D} {ds : List D} : Rp K H v d → RpA K H vs ds → RpA K H (v :: vs) (d :: ds)
end
theorem rd_same {H H' : Hp} {a : Addr} {u : HO} (s : Same H H') (h : Rd H a u) : Rd H' a u := by
  rcases h with h | ⟨o, h⟩
  · exact .inl (s _ _ h)
  · exact .inr ⟨o, s _ _ h⟩
mutual
theorem rp_same {K : PySem.W.Frag} {H H' : Hp} (s : Same H H') : ∀ {v : V} {d : D}, Rp K H v d → Rp K H' v d
  | _, _, .non => .non
  | _, _, .bl b => .bl b
  | _, _, .int i => .int i
  | _, _, .str x => .str x
  | _, _, .raw v => .raw v
  | _, _, .scr h => .scr (s.seq h)
  | _, _, .lst h t => .lst (rd_same s h) (rpa_same s t)
  | _, _, .tup h t => .tup (Same.sqT s h) (rpa_same s t)
  | _, _, .ins h1 h2 h3 t => .ins (s _ _ h1) (s _ _ h2) h3 (rpa_same s t)
  | _, _, .dcT h1 h2 t => .dcT (s _ _ h1) h2 (rpa_same s t)
  | _, _, .dcK h1 h2 t => .dcK (s _ _ h1) h2 (rpa_same s t)
theorem rpa_same {K : PySem.W.Frag} {H H' : Hp} (s : Same H H') : ∀ {vs : List V} {ds : List D}, RpA K H vs ds → RpA K H' vs ds
  | _, _, .nil => .nil
  | _, _, .cons h t => .cons (rp_same s h) (rpa_same s t)
end
theorem Rp.same {K : PySem.W.Frag} {H H' : Hp} {v : V} {d : D} (h : Rp K H v d) (s : Same H H') : Rp K H' v d := rp_same s h
theorem RpA.same {K : PySem.W.Frag} {H H' : Hp} {vs : List V} {ds : List D} (h : RpA K H vs ds) (s : Same H H') : RpA K H' vs ds := rpa_same s h
section
variable {K : PySem.W.Frag} {H : Hp}
theorem RpA.len : ∀ {vs : List V} {ds : List D}, RpA K H vs ds → vs.length = ds.length
  | _, _, .nil => rfl
  | _, _, .cons _ t => by rw [List.length_cons, List.length_cons, t.len]
theorem RpA.get : ∀ {vs : List V} {ds : List D} {i : Nat} {d : D}, RpA K H vs ds → ds[i]? = some d → ∃ v, vs[i]? = some v ∧ Rp K H v d
  | _, _, 0, d, .cons h t, e => ⟨_, rfl, by cases e; exact h⟩
  | _, _, i + 1, d, .cons h t, e => t.get (i := i) e
theorem RpA.getV : ∀ {vs : List V} {ds : List D} {i : Nat} {v : V}, RpA K H vs ds → vs[i]? = some v → ∃ d, ds[i]? = some d ∧ Rp K H v d
  | _, _, 0, d, .cons h t, e => ⟨_, rfl, by cases e; exact h⟩
  | _, _, i + 1, d, .cons h t, e => t.getV (i := i) e
theorem RpA.append : ∀ {vs us : List V} {ds es : List D}, RpA K H vs ds → RpA K H us es → RpA K H (vs ++ us) (ds ++ es)
  | _, _, _, _, .nil, h => h
  | _, _, _, _, .cons h t, u => .cons h (t.append u)
theorem RpA.set {v : V} {d : D} (h : Rp K H v d) : ∀ {vs : List V} {ds : List D} (i : Nat), RpA K H vs ds → RpA K H (vs.set i v) (ds.set i d)
  | _, _, _, .nil => .nil
  | _, _, 0, .cons _ t => .cons h t
  | _, _, i + 1, .cons q t => .cons q (RpA.set h i t)
theorem RpA.take : ∀ {vs : List V} {ds : List D} (n : Nat), RpA K H vs ds → RpA K H (vs.take n) (ds.take n)
  | _, _, 0, _ => .nil
  | _, _, _ + 1, .nil => .nil
  | _, _, n + 1, .cons r t => .cons r (RpA.take n t)
theorem RpA.drop : ∀ {vs : List V} {ds : List D} (n : Nat), RpA K H vs ds → RpA K H (vs.drop n) (ds.drop n)
  | _, _, 0, r => r
  | _, _, _ + 1, .nil => .nil
  | _, _, n + 1, .cons _ t => RpA.drop n t
theorem RpA.reverse : ∀ {vs : List V} {ds : List D}, RpA K H vs ds → RpA K H vs.reverse ds.reverse
  | _, _, .nil => .nil
  | _, _, .cons r t => by
    rw [List.reverse_cons, List.reverse_cons]
    exact (RpA.reverse t).append (.cons r .nil)
theorem RpA.rep {vs : List V} {ds : List D} (h : RpA K H vs ds) : ∀ n : Nat, RpA K H (List.replicate n vs).flatten (List.replicate n ds).flatten
  | 0 => .nil
  | n + 1 => by
    rw [List.replicate_succ, List.replicate_succ, List.flatten_cons, List.flatten_cons]
    exact h.append (h.rep n)
theorem RpA.dropLast {vs : List V} {ds : List D} (h : RpA K H vs ds) : RpA K H vs.dropLast ds.dropLast := by
  rw [List.dropLast_eq_take, List.dropLast_eq_take, h.len]
  exact h.take _
theorem RpA.mem {vs : List V} {ds : List D} (h : RpA K H vs ds) {v : V} (hv : v ∈ vs) : ∃ d, d ∈ ds ∧ Rp K H v d := by
  obtain ⟨i, hi, e⟩ := List.getElem_of_mem hv
  obtain ⟨d, e2, r⟩ := h.getV (i := i) (v := v) (by rw [List.getElem?_eq_getElem hi, e])
  exact ⟨d, List.mem_of_getElem? e2, r⟩
theorem RpA.ints {vs : List V} {ns : List Int} (h : RpA K H vs (ns.map D.int)) : vs = ns.map V.int := by
  induction ns generalizing vs with
  | nil => cases h; rfl
  | cons n ns ih =>
    cases h with
    | cons h t =>
      rw [ih t]
      cases h
      rfl
theorem RpA.bls {vs : List V} {ns : List Bool} (h : RpA K H vs (ns.map D.bl)) : vs = ns.map V.bl := by
  induction ns generalizing vs with
  | nil => cases h; rfl
  | cons n ns ih =>
    cases h with
    | cons h t =>
      rw [ih t]
      cases h
      rfl
theorem rpa_ints : ∀ ns : List Int, RpA K H (ns.map V.int) (ns.map D.int)
  | [] => .nil
  | n :: ns => .cons (.int n) (rpa_ints ns)
end

/-- what a slot holds: nothing that is known, data that nobody changes, a list of the def's own, the feed -/
inductive Sl where
  | un | sh (d : D) | ow (o : Option Addr) (ds : List D) | fd
/-- the state: slots, how many draws there were at most -/
structure En where
  sl : List Sl
  fs : Nat := 0
/-- what a feed is: its object, read over a heap, after at most so many draws -/
structure Fd where
  ok : Hp → HO → Nat → Prop
  mono : ∀ {H H' : Hp} {o : HO} {B : Nat}, Same H H' → ok H o B → ok H' o B

/-- Hs: what nobody changes; G: what others hold; fa: where the feed stands -/
structure RepE (K : PySem.W.Frag) (F : Fd) (fa : Option Addr) (G Hs H : Hp) (σ : L2.St) (ε : En) : Prop where
  sub : Same Hs H
  grd : ∀ b o, G b = some o → H b = some o ∧ Hs b = none
  fd : ∀ d, fa = some d → Hs d = none ∧ G d = none ∧ ∃ o, H d = some o ∧ F.ok Hs o ε.fs
  len : σ.length = ε.sl.length
  sh : ∀ (i : Nat) (d : D), ε.sl[i]? = some (.sh d) → ∃ v, σ[i]? = some (some v) ∧ Rp K Hs v d
  ow : ∀ (i : Nat) (o : Option Addr) (ds : List D), ε.sl[i]? = some (.ow o ds) → ∃ a vs, σ[i]? = some (some (.ref a)) ∧ Hs a = none ∧ G a = none ∧ fa ≠ some a ∧ H a = some (.lst vs) ∧ RpA K Hs vs ds ∧ ∀ b, o = some b → b = a
  fdS : ∀ i : Nat, ε.sl[i]? = some .fd → ∃ d, fa = some d ∧ σ[i]? = some (some (.ref d))
  inj : ∀ (i j : Nat) (a : Addr) (oi oj : Option Addr) (di dj : List D), i ≠ j → ε.sl[i]? = some (.ow oi di) → ε.sl[j]? = some (.ow oj dj) → σ[i]? = some (some (.ref a)) → σ[j]? = some (some (.ref a)) → False

section
variable {K : PySem.W.Frag} {F : Fd} {fa : Option Addr} {G Hs H Hs' H' : Hp} {σ : L2.St} {ε : En}
theorem none_of_same {H H' : Hp} {a : Addr} (s : Same H H') (h : H' a = none) : H a = none := by
  cases z : H a with
  | none => rfl
  | some o =>
    have := s a o z
    rw [h] at this
    cases this
theorem same_updL {Hs H : Hp} {p : Addr} {o : HO} (s : Same Hs H) : Same (upd Hs p o) (upd H p o) := fun b u e => by
  by_cases hb : b = p
  · subst hb
    rw [upd_same] at e ⊢
    exact e
  · rw [upd_ne hb] at e ⊢
    exact s b u e
/-- the heap has grown, the feed may have changed -/
theorem RepE.move (R : RepE K F fa G Hs H σ ε) (s1 : Same Hs Hs') (s2 : Same Hs' H') (kp : ∀ b o, H b = some o → fa ≠ some b → H' b = some o) (gr : ∀ b, Hs' b ≠ none → Hs b ≠ none ∨ H b = none) {B : Nat}
    (hf : ∀ d, fa = some d → ∃ o, H' d = some o ∧ F.ok Hs' o B) : RepE K F fa G Hs' H' σ { ε with fs := B } := by
  have nn : ∀ b o, Hs b = none → H b = some o → Hs' b = none := fun b o h1 h2 => Classical.byContradiction fun z => by
    rcases gr b z with z | z
    · exact z h1
    · rw [h2] at z
      cases z
  refine ⟨s2, fun b o e => ?_, fun d e => ?_, R.len, fun i d e => ?_, fun i oo ds e => ?_, R.fdS, R.inj⟩
  · obtain ⟨h1, h2⟩ := R.grd b o e
    refine ⟨kp b o h1 fun z => ?_, nn b o h2 h1⟩
    rw [(R.fd b z).2.1] at e
    cases e
  · obtain ⟨h1, h2, o, h3, _⟩ := R.fd d e
    exact ⟨nn d o h1 h3, h2, hf d e⟩
  · obtain ⟨v, h1, h2⟩ := R.sh i d e
    exact ⟨v, h1, h2.same s1⟩
  · obtain ⟨a, vs, h1, h2, h3, h4, h5, h6, h7⟩ := R.ow i oo ds e
    exact ⟨a, vs, h1, nn a _ h2 h5, h3, h4, kp a _ h5 h4, h6.same s1, h7⟩
/-- a new object that nobody changes -/
theorem RepE.new (R : RepE K F fa G Hs H σ ε) {p : Addr} {o : HO} (hp : H p = none) : RepE K F fa G (upd Hs p o) (upd H p o) σ ε := by
  have hs : Hs p = none := none_of_same R.sub hp
  refine R.move (B := ε.fs) (same_new hs) (same_updL R.sub) (fun b u e _ => ?_) (fun b z => ?_) fun d e => ?_
  · rw [upd_ne (ne_of_none e hp)]
    exact e
  · by_cases hb : b = p
    · exact .inr (hb ▸ hp)
    · rw [upd_ne hb] at z
      exact .inl z
  · obtain ⟨h1, h2, u, h3, h4⟩ := R.fd d e
    refine ⟨u, ?_, F.mono (same_new hs) h4⟩
    rw [upd_ne (ne_of_none h3 hp)]
    exact h3
/-- some new objects that nobody changes -/
theorem RepE.grown (R : RepE K F fa G Hs H σ ε) (s : Same H H') : RepE K F fa G (fun b => if H b = none then H' b else Hs b) H' σ ε ∧ Same Hs (fun b => if H b = none then H' b else Hs b) := by
  have s1 : Same Hs (fun b => if H b = none then H' b else Hs b) := fun b o e => by
    show (if H b = none then _ else _) = _
    rw [if_neg (by rw [R.sub b o e]; exact Option.some_ne_none o)]
    exact e
  refine ⟨R.move (B := ε.fs) s1 (fun b o e => ?_) (fun b o e _ => s b o e) (fun b z => ?_) (fun d e => ?_), s1⟩
  · have e : (if H b = none then H' b else Hs b) = some o := e
    by_cases hb : H b = none
    · rw [if_pos hb] at e
      exact e
    · rw [if_neg hb] at e
      exact s b o (R.sub b o e)
  · have z : (if H b = none then H' b else Hs b) ≠ none := z
    by_cases hb : H b = none
    · exact .inr hb
    · rw [if_neg hb] at z
      exact .inl z
  · obtain ⟨h1, h2, u, h3, h4⟩ := R.fd d e
    exact ⟨u, s d u h3, F.mono s1 h4⟩
theorem set_len {α : Type} {xs : List α} {i : Nat} {x y : α} (h : xs[i]? = some y) : (xs.set i x)[i]? = some x := by
  have := (List.getElem?_eq_some_iff.mp h).1
  rw [List.getElem?_set_self this]
theorem lt_of_get {α : Type} {xs : List α} {i : Nat} {y : α} (h : xs[i]? = some y) : i < xs.length := (List.getElem?_eq_some_iff.mp h).1
/-- a slot's content changed, what it holds being said -/
theorem RepE.put (R : RepE K F fa G Hs H σ ε) {i : Nat} (hi : i < ε.sl.length) {ov : Option V} {s : Sl}
    (h1 : ∀ d, s = .sh d → ∃ v, ov = some v ∧ Rp K Hs v d)
    (h2 : ∀ oo ds, s = .ow oo ds → ∃ a vs, ov = some (.ref a) ∧ Hs a = none ∧ G a = none ∧ fa ≠ some a ∧ H a = some (.lst vs) ∧ (RpA K Hs vs ds ∧ ∀ b, oo = some b → b = a) ∧ ∀ (j : Nat) (oj : Option Addr) (dj : List D), j ≠ i → ε.sl[j]? = some (.ow oj dj) → σ[j]? ≠ some (some (.ref a)))
    (h3 : s = .fd → ∃ d, fa = some d ∧ ov = some (.ref d)) : RepE K F fa G Hs H (σ.set i ov) { ε with sl := ε.sl.set i s } := by
  have hσ : i < σ.length := by rw [R.len]; exact hi
  have at1 : (σ.set i ov)[i]? = some ov := List.getElem?_set_self hσ
  have at2 : (ε.sl.set i s)[i]? = some s := List.getElem?_set_self hi
  have ne1 : ∀ {j : Nat}, j ≠ i → (σ.set i ov)[j]? = σ[j]? := fun h => List.getElem?_set_ne (Ne.symm h)
  have ne2 : ∀ {j : Nat}, j ≠ i → (ε.sl.set i s)[j]? = ε.sl[j]? := fun h => List.getElem?_set_ne (Ne.symm h)
  refine ⟨R.sub, R.grd, R.fd, by simp [R.len], fun j d e => ?_, fun j oo ds e => ?_, fun j e => ?_, fun j k a oj ok dj dk hjk e1 e2 f1 f2 => ?_⟩
  · by_cases hj : j = i
    · subst hj
      have e : (ε.sl.set j s)[j]? = _ := e
      rw [at2] at e
      obtain ⟨v, q1, q2⟩ := h1 d (Option.some.inj e)
      exact ⟨v, by rw [at1, q1], q2⟩
    · have e : (ε.sl.set i s)[j]? = _ := e
      rw [ne2 hj] at e
      rw [ne1 hj]
      exact R.sh j d e
  · by_cases hj : j = i
    · subst hj
      have e : (ε.sl.set j s)[j]? = _ := e
      rw [at2] at e
      obtain ⟨a, vs, q1, q2, q3, q4, q5, ⟨q6, q8⟩, _⟩ := h2 oo ds (Option.some.inj e)
      exact ⟨a, vs, by rw [at1, q1], q2, q3, q4, q5, q6, q8⟩
    · have e : (ε.sl.set i s)[j]? = _ := e
      rw [ne2 hj] at e
      rw [ne1 hj]
      exact R.ow j oo ds e
  · by_cases hj : j = i
    · subst hj
      have e : (ε.sl.set j s)[j]? = _ := e
      rw [at2] at e
      obtain ⟨d, q1, q2⟩ := h3 (Option.some.inj e)
      exact ⟨d, q1, by rw [at1, q2]⟩
    · have e : (ε.sl.set i s)[j]? = _ := e
      rw [ne2 hj] at e
      rw [ne1 hj]
      exact R.fdS j e
  · have g1 : (ε.sl.set i s)[j]? = some (.ow oj dj) := e1
    have g2 : (ε.sl.set i s)[k]? = some (.ow ok dk) := e2
    clear e1 e2
    by_cases hj : j = i
    · subst hj
      have hk : k ≠ j := Ne.symm hjk
      rw [at2] at g1
      rw [ne2 hk] at g2
      rw [at1] at f1
      rw [ne1 hk] at f2
      obtain ⟨a', vs, q1, _, _, _, _, _, q7⟩ := h2 oj dj (Option.some.inj g1)
      have f1 := Option.some.inj f1
      rw [q1] at f1
      cases f1
      exact q7 k ok dk hk g2 f2
    · rw [ne2 hj] at g1
      rw [ne1 hj] at f1
      by_cases hk : k = i
      · subst hk
        rw [at2] at g2
        rw [at1] at f2
        obtain ⟨a', vs, q1, _, _, _, _, _, q7⟩ := h2 ok dk (Option.some.inj g2)
        have f2 := Option.some.inj f2
        rw [q1] at f2
        cases f2
        exact q7 j oj dj hj g1 f1
      · rw [ne2 hk] at g2
        rw [ne1 hk] at f2
        exact R.inj j k a oj ok dj dk hjk g1 g2 f1 f2
theorem RepE.putSh (R : RepE K F fa G Hs H σ ε) {i : Nat} (hi : i < ε.sl.length) {v : V} {d : D} (h : Rp K Hs v d) : RepE K F fa G Hs H (σ.set i (some v)) { ε with sl := ε.sl.set i (.sh d) } :=
  R.put hi (fun d' e => by cases e; exact ⟨v, rfl, h⟩) (fun _ _ e => nomatch e) fun e => nomatch e
theorem RepE.putUn (R : RepE K F fa G Hs H σ ε) {i : Nat} (hi : i < ε.sl.length) {ov : Option V} : RepE K F fa G Hs H (σ.set i ov) { ε with sl := ε.sl.set i .un } :=
  R.put hi (fun d' e => nomatch e) (fun _ _ e => nomatch e) fun e => nomatch e
theorem set_same {α : Type} : ∀ {xs : List α} {i : Nat} {x : α}, xs[i]? = some x → xs.set i x = xs
  | [], _, _, h => by simp at h
  | y :: ys, 0, x, h => by
    have : y = x := Option.some.inj h
    rw [this]
    rfl
  | y :: ys, i + 1, x, h => by
    show y :: ys.set i x = _
    rw [set_same (xs := ys) h]
/-- a slot forgotten -/
theorem RepE.forget (R : RepE K F fa G Hs H σ ε) (i : Nat) : RepE K F fa G Hs H σ { ε with sl := ε.sl.set i .un } := by
  by_cases hi : i < ε.sl.length
  · have hσ : i < σ.length := by rw [R.len]; exact hi
    have := R.putUn hi (ov := σ[i])
    rwa [set_same (List.getElem?_eq_getElem hσ)] at this
  · rw [List.set_eq_of_length_le (by omega)]
    exact R
/-- a list of one's own that is given away -/
theorem RepE.freeze (R : RepE K F fa G Hs H σ ε) {i : Nat} {o : Option Addr} {ds : List D} (e : ε.sl[i]? = some (.ow o ds)) :
    ∃ (a : Addr) (Hs' : Hp), σ[i]? = some (some (.ref a)) ∧ Same Hs Hs' ∧ Rp K Hs' (.ref a) (.lst ds) ∧ RepE K F fa G Hs' H σ { ε with sl := ε.sl.set i (.sh (.lst ds)) } := by
  obtain ⟨a, vs, h1, h2, h3, h4, h5, h6, _⟩ := R.ow i o ds e
  have s1 : Same Hs (upd Hs a (.lst vs)) := same_new h2
  have s2 : Same (upd Hs a (.lst vs)) H := fun b o q => by
    by_cases hb : b = a
    · subst hb
      rw [upd_same] at q
      rw [h5, q]
    · rw [upd_ne hb] at q
      exact R.sub b o q
  have rp : Rp K (upd Hs a (.lst vs)) (.ref a) (.lst ds) := .lst (.of upd_same) (h6.same s1)
  refine ⟨a, upd Hs a (.lst vs), h1, s1, rp, ?_⟩
  have hi := lt_of_get e
  have hσ : i < σ.length := by rw [R.len]; exact hi
  have R1 := R.forget i
  have at2 : (ε.sl.set i Sl.un)[i]? = some .un := List.getElem?_set_self hi
  have R2 : RepE K F fa G (upd Hs a (.lst vs)) H σ { ε with sl := ε.sl.set i .un } := by
    refine ⟨s2, fun b o q => ?_, fun d q => ?_, R1.len, fun j d q => ?_, fun j oj dj q => ?_, R1.fdS, R1.inj⟩
    · obtain ⟨q1, q2⟩ := R.grd b o q
      refine ⟨q1, ?_⟩
      rw [upd_ne (fun z => by subst z; rw [h3] at q; cases q)]
      exact q2
    · obtain ⟨q1, q2, o, q3, q4⟩ := R.fd d q
      refine ⟨?_, q2, o, q3, F.mono s1 q4⟩
      rw [upd_ne (fun z => by subst z; exact h4 q)]
      exact q1
    · obtain ⟨v, q1, q2⟩ := R1.sh j d q
      exact ⟨v, q1, q2.same s1⟩
    · obtain ⟨b, us, q1, q2, q3, q4, q5, q6, q8⟩ := R1.ow j oj dj q
      have hj : j ≠ i := fun z => by
        subst z
        have q : (ε.sl.set j Sl.un)[j]? = _ := q
        rw [at2] at q
        cases q
      have q' : (ε.sl.set i Sl.un)[j]? = _ := q
      rw [List.getElem?_set_ne (Ne.symm hj)] at q'
      have hb : b ≠ a := fun z => by
        subst z
        exact R.inj i j b o oj ds dj (Ne.symm hj) e q' h1 q1
      refine ⟨b, us, q1, ?_, q3, q4, q5, q6.same s1, q8⟩
      rw [upd_ne hb]
      exact q2
  have R3 := R2.put (i := i) (s := .sh (.lst ds)) (ov := some (.ref a)) (by simpa using hi) (fun d q => by cases q; exact ⟨_, rfl, rp⟩) (fun _ _ q => nomatch q) fun q => nomatch q
  rw [set_same h1] at R3
  simpa using R3
/-- a store to a list of one's own -/
theorem RepE.store (R : RepE K F fa G Hs H σ ε) {i : Nat} {o : Option Addr} {ds es : List D} {a : Addr} {us : List V} (e : ε.sl[i]? = some (.ow o ds)) (ha : σ[i]? = some (some (.ref a))) (hu : RpA K Hs us es) :
    RepE K F fa G Hs (upd H a (.lst us)) σ { ε with sl := ε.sl.set i (.ow o es) } := by
  obtain ⟨a', vs, h1, h2, h3, h4, h5, h6, h8⟩ := R.ow i o ds e
  rw [ha] at h1
  cases h1
  have hi := lt_of_get e
  have R1 := R.forget i
  have at2 : (ε.sl.set i Sl.un)[i]? = some .un := List.getElem?_set_self hi
  have nb : ∀ {b : Addr}, Hs b ≠ none → b ≠ a := fun z q => by subst q; exact z h2
  have R2 : RepE K F fa G Hs (upd H a (.lst us)) σ { ε with sl := ε.sl.set i .un } := by
    refine ⟨fun b o q => ?_, fun b o q => ?_, fun d q => ?_, R1.len, R1.sh, fun j oj dj q => ?_, R1.fdS, R1.inj⟩
    · rw [upd_ne (nb (by rw [q]; exact Option.some_ne_none o))]
      exact R.sub b o q
    · obtain ⟨q1, q2⟩ := R.grd b o q
      refine ⟨?_, q2⟩
      rw [upd_ne (fun z => by subst z; rw [h3] at q; cases q)]
      exact q1
    · obtain ⟨q1, q2, o, q3, q4⟩ := R.fd d q
      refine ⟨q1, q2, o, ?_, q4⟩
      rw [upd_ne (fun z => by subst z; exact h4 q)]
      exact q3
    · obtain ⟨b, ws, q1, q2, q3, q4, q5, q6, q8⟩ := R1.ow j oj dj q
      have hj : j ≠ i := fun z => by
        subst z
        have q : (ε.sl.set j Sl.un)[j]? = _ := q
        rw [at2] at q
        cases q
      have q' : (ε.sl.set i Sl.un)[j]? = _ := q
      rw [List.getElem?_set_ne (Ne.symm hj)] at q'
      have hb : b ≠ a := fun z => by
        subst z
        exact R.inj i j b o oj ds dj (Ne.symm hj) e q' ha q1
      refine ⟨b, ws, q1, q2, q3, q4, ?_, q6, q8⟩
      rw [upd_ne hb]
      exact q5
  have R3 := R2.put (i := i) (s := .ow o es) (ov := some (.ref a)) (by simpa using hi) (fun d q => nomatch q) (fun oo ds' q => by
    cases q
    refine ⟨a, us, rfl, h2, h3, h4, upd_same, ⟨hu, h8⟩, fun j oj dj hj q z => ?_⟩
    have q' : (ε.sl.set i Sl.un)[j]? = _ := q
    rw [List.getElem?_set_ne (Ne.symm hj)] at q'
    exact R.inj i j a o oj ds dj (Ne.symm hj) e q' ha z) fun q => nomatch q
  rw [set_same ha] at R3
  simpa using R3
end
end Pu

set_option Elab.async false
set_option linter.all false
set_option maxRecDepth 100000
set_option maxHeartbeats 4000000
/-! Expressions read without the heap. -/
namespace Pu
open PySem PySem.Spec PyProof.Rows L2 Gd

/-- an expression's value: data, or the list of one's own (the feed) that stands in a slot -/
inductive PV where
  | d (x : D) | s (i : Nat)
def RpV (K : PySem.W.Frag) (Hs : Hp) (σ : L2.St) (v : V) : PV → Prop
  | .d x => Rp K Hs v x
  | .s i => σ[i]? = some (some v)
theorem RpV.same {K : PySem.W.Frag} {H H' : Hp} {σ : L2.St} {v : V} {p : PV} (h : RpV K H σ v p) (s : Same H H') : RpV K H' σ v p := by
  cases p with
  | d x => exact Rp.same h s
  | s i => exact h
abbrev UE := En → (PV → En → Prop) → Prop
abbrev UT := En → (Bool → En → Prop) → Prop
abbrev UA := En → (List D → En → Prop) → Prop
section
variable (K : PySem.W.Frag) (F : Fd) (fa : Option Addr) (G Hs : Hp) (σ : L2.St)
/-- what is wanted of the plain reading's end gives what is wanted -/
def Ck (A : PV → En → Prop) (Q : VK) : Prop := ∀ p ε v H Hs', A p ε → RepE K F fa G Hs' H σ ε → Same Hs Hs' → RpV K Hs' σ v p → Q v H
def Cb (A : Bool → En → Prop) (Q : Bool → Hp → Prop) : Prop := ∀ b ε H Hs', A b ε → RepE K F fa G Hs' H σ ε → Same Hs Hs' → Q b H
def Ca (n : Nat) (A : List D → En → Prop) (Q : List V → Hp → Prop) : Prop := ∀ ds ε vs H Hs', A ds ε → ds.length = n → RepE K F fa G Hs' H σ ε → Same Hs Hs' → RpA K Hs' vs ds → Q vs H
end
structure QE (X : Cx) (F : Fd) (e : Expr) (u : UE) : Prop where
  ex : ∃ t : TE, PE X e t ∧ ∀ {fa : Option Addr} {G Hs H : Hp} {σ : L2.St} {ε : En} {A : PV → En → Prop} {Q : VK}, RepE X.K F fa G Hs H σ ε → u ε A → Ck X.K F fa G Hs σ A Q → t σ H Q
structure QT (X : Cx) (F : Fd) (e : Expr) (u : UT) : Prop where
  ex : ∃ t : TT, PT X e t ∧ ∀ {fa : Option Addr} {G Hs H : Hp} {σ : L2.St} {ε : En} {A : Bool → En → Prop} {Q : Bool → Hp → Prop}, RepE X.K F fa G Hs H σ ε → u ε A → Cb X.K F fa G Hs σ A Q → t σ H Q
structure QW (X : Cx) (F : Fd) (e : Expr) (u : UT) : Prop where
  ex : ∃ t : TT, PW X e t ∧ ∀ {fa : Option Addr} {G Hs H : Hp} {σ : L2.St} {ε : En} {A : Bool → En → Prop} {Q : Bool → Hp → Prop}, RepE X.K F fa G Hs H σ ε → u ε A → Cb X.K F fa G Hs σ A Q → t σ H Q
structure QA (X : Cx) (F : Fd) (es : List Expr) (u : UA) : Prop where
  ex : ∃ t : TA, PA X es t ∧ ∀ {fa : Option Addr} {G Hs H : Hp} {σ : L2.St} {ε : En} {A : List D → En → Prop} {Q : List V → Hp → Prop}, RepE X.K F fa G Hs H σ ε → u ε A → Ca X.K F fa G Hs σ es.length A Q → t σ H Q

section
variable {K : PySem.W.Frag} {F : Fd} {fa : Option Addr} {G Hs H Hs' H' : Hp} {σ : L2.St} {ε : En}
theorem Ck.after {A : PV → En → Prop} {Q : VK} (c : Ck K F fa G Hs σ A Q) (s : Same Hs Hs') : Ck K F fa G Hs' σ A Q := fun p ε v H Hs2 a R s2 r => c p ε v H Hs2 a R (s.trans s2) r
theorem Cb.after {A : Bool → En → Prop} {Q : Bool → Hp → Prop} (c : Cb K F fa G Hs σ A Q) (s : Same Hs Hs') : Cb K F fa G Hs' σ A Q := fun p ε H Hs2 a R s2 => c p ε H Hs2 a R (s.trans s2)
theorem Ca.after {n : Nat} {A : List D → En → Prop} {Q : List V → Hp → Prop} (c : Ca K F fa G Hs σ n A Q) (s : Same Hs Hs') : Ca K F fa G Hs' σ n A Q := fun p ε v H Hs2 a e R s2 r => c p ε v H Hs2 a e R (s.trans s2) r
/-- the end at once -/
theorem Ck.now {A : PV → En → Prop} {Q : VK} (c : Ck K F fa G Hs σ A Q) {p : PV} {v : V} (a : A p ε) (R : RepE K F fa G Hs H σ ε) (r : RpV K Hs σ v p) : Q v H := c p ε v H Hs a R (Same.refl _) r
theorem Ck.new {A : PV → En → Prop} {Q : VK} (c : Ck K F fa G Hs σ A Q) {x : D} {a : Addr} {o : HO} (h : A (.d x) ε) (R : RepE K F fa G Hs H σ ε) (ha : H a = none) (r : Rp K (upd Hs a o) (.ref a) x) : Q (.ref a) (upd H a o) :=
  c (.d x) ε _ _ _ h (R.new ha) (same_new (none_of_same R.sub ha)) r
end

/-! ### values as data, as sequences -/
/-- a value as data: a list of one's own is given away -/
def asD (p : PV) (ε : En) (k : D → En → Prop) : Prop :=
  match p with
  | .d x => k x ε
  | .s i => match ε.sl[i]? with
    | some (.ow _ ds) => k (.lst ds) { ε with sl := ε.sl.set i (.sh (.lst ds)) }
    | some (.sh d) => k d ε
    | _ => False
/-- its items: (a list?, the items) -/
def seqOf (p : PV) (ε : En) : Option (Bool × List D) :=
  match p with
  | .d (.lst ds) => some (true, ds)
  | .d (.tup ds) => some (false, ds)
  | .s i => match ε.sl[i]? with
    | some (.ow _ ds) => some (true, ds)
    | some (.sh (.lst ds)) => some (true, ds)
    | some (.sh (.tup ds)) => some (false, ds)
    | _ => none
  | _ => none
section
variable {K : PySem.W.Frag} {F : Fd} {fa : Option Addr} {G Hs H Hs' H' : Hp} {σ : L2.St} {ε : En}
theorem asD_ok {p : PV} {v : V} {k : D → En → Prop} (R : RepE K F fa G Hs H σ ε) (r : RpV K Hs σ v p) (h : asD p ε k) : ∃ Hs' ε' x, Same Hs Hs' ∧ RepE K F fa G Hs' H σ ε' ∧ Rp K Hs' v x ∧ k x ε' := by
  cases p with
  | d x => exact ⟨Hs, ε, x, Same.refl _, R, r, h⟩
  | s i =>
    unfold asD at h
    simp only at h
    split at h
    · rename_i ds e
      obtain ⟨a, Hs', h1, h2, h3, h4⟩ := R.freeze e
      have r : σ[i]? = some (some v) := r
      rw [h1] at r
      cases r
      exact ⟨Hs', _, _, h2, h4, h3, h⟩
    · rename_i d e
      obtain ⟨w, h1, h2⟩ := R.sh i d e
      have r : σ[i]? = some (some v) := r
      rw [h1] at r
      cases r
      exact ⟨Hs, ε, d, Same.refl _, R, h2, h⟩
    · exact h.elim
theorem seqOf_ok {p : PV} {v : V} {b : Bool} {ds : List D} (R : RepE K F fa G Hs H σ ε) (r : RpV K Hs σ v p) (h : seqOf p ε = some (b, ds)) :
    ∃ a vs, v = .ref a ∧ RpA K Hs vs ds ∧ (if b = true then Rd H a (.lst vs) else SqT K H a vs) := by
  have hD : ∀ {x : D}, Rp K Hs v x → seqOf (.d x) ε = some (b, ds) → ∃ a vs, v = .ref a ∧ RpA K Hs vs ds ∧ (if b = true then Rd H a (.lst vs) else SqT K H a vs) := by
    intro x r h
    cases r with
    | lst h1 h2 =>
      cases h
      exact ⟨_, _, rfl, h2, rd_same R.sub h1⟩
    | tup h1 h2 =>
      cases h
      exact ⟨_, _, rfl, h2, Same.sqT R.sub h1⟩
    | _ => cases h
  cases p with
  | d x => exact hD r h
  | s i =>
    unfold seqOf at h
    simp only at h
    have r : σ[i]? = some (some v) := r
    split at h
    · rename_i ds' e
      cases h
      obtain ⟨a, vs, h1, h2, h3, h4, h5, h6, _⟩ := R.ow i _ _ e
      rw [h1] at r
      cases r
      exact ⟨a, vs, rfl, h6, .inl h5⟩
    · rename_i ds' e
      cases h
      obtain ⟨w, h1, h2⟩ := R.sh i _ e
      rw [h1] at r
      cases r
      exact hD h2 rfl
    · rename_i ds' e
      cases h
      obtain ⟨w, h1, h2⟩ := R.sh i _ e
      rw [h1] at r
      cases r
      exact hD h2 rfl
    · cases h
theorem tupOf_ok {p : PV} {v : V} {ds : List D} (R : RepE K F fa G Hs H σ ε) (r : RpV K Hs σ v p) (h : seqOf p ε = some (false, ds)) : Rp K Hs v (.tup ds) := by
  cases p with
  | d x =>
    cases x with
    | tup xs => cases h; exact r
    | _ => cases h
  | s i =>
    unfold seqOf at h
    simp only at h
    have r : σ[i]? = some (some v) := r
    split at h
    · cases h
    · cases h
    · rename_i ds' e
      cases h
      obtain ⟨w, h1, h2⟩ := R.sh i _ e
      rw [h1] at r
      cases r
      exact h2
    · cases h
end

/-! ### names, constants -/
def uV (i : Nat) : UE := fun ε A =>
  match ε.sl[i]? with
  | some (.sh d) => A (.d d) ε
  | some (.ow _ _) => A (.s i) ε
  | some .fd => A (.s i) ε
  | _ => False
def uC (x : D) : UE := fun ε A => A (.d x) ε
section
variable {X : Cx} {F : Fd}
theorem qv (i : Nat) {x : Str} {pos : Pos} (hN : X.N[i]? = some x := by rfl) (hv : Vis X.env.scope x := by first | exact Or.inl rfl | exact Or.inr (Or.inl rfl) | exact Or.inr (Or.inr rfl)) (hd : (x == ("__debug__" : Str)) = false := by decide)
    (hcd : (x == ("__classdict__" : Str)) = false := by decide) : QE X F (.Name x pos) (uV i) := by
  refine ⟨tVar i, pe_var hN hv hd hcd, fun {fa G Hs H σ ε A Q} R h c => ?_⟩
  unfold uV at h
  split at h
  · rename_i d e
    obtain ⟨v, h1, h2⟩ := R.sh i d e
    exact ⟨v, h1, c.now h R h2⟩
  · rename_i ds e
    obtain ⟨a, vs, h1, _⟩ := R.ow i _ _ e
    exact ⟨_, h1, c.now h R h1⟩
  · rename_i e
    obtain ⟨d, _, h1⟩ := R.fdS i e
    exact ⟨_, h1, c.now h R h1⟩
  · exact h.elim
theorem q_int {i j pos} : QE X F (.Constant (.int i) j pos) (uC (.int i)) := ⟨_, pe_int, fun R h c => c.now h R (.int i)⟩
theorem q_bl {b j pos} : QE X F (.Constant (.bool b) j pos) (uC (.bl b)) := ⟨_, pe_bl, fun R h c => c.now h R (.bl b)⟩
theorem q_non {j pos} : QE X F (.Constant .none j pos) (uC .non) := ⟨_, pe_non, fun R h c => c.now h R .non⟩
theorem q_str {x j pos} : QE X F (.Constant (.str x) j pos) (uC (.str x)) := ⟨_, pe_str, fun R h c => c.now h R (.str x)⟩
theorem q_glob {x : Str} {v : V} {u : Value} {pos : Pos} (hg : Gl X x) (hm : X.mg x = some u) (r : RelV v u) (hd : (x == ("__debug__" : Str)) = false := by decide) : QE X F (.Name x pos) (uC (.raw v)) := ⟨_, pe_glob hg hm r hd, fun R h c => c.now h R (.raw v)⟩
theorem q_bltn {x : Str} {v : V} {u : Value} {pos : Pos} (hg : Gl X x) (hm : X.mg x = none) (hv : bootBuiltins x = some u) (r : RelV v u) (hn : x ≠ "__name__" := by decide) (hd : (x == ("__debug__" : Str)) = false := by decide) : QE X F (.Name x pos) (uC (.raw v)) :=
  ⟨_, pe_bltn hg hm hv r hn hd, fun R h c => c.now h R (.raw v)⟩
end

/-! ### operators -/
abbrev U2 := PV → PV → En → (PV → En → Prop) → Prop
structure LOp (K : PySem.W.Frag) (F : Fd) (r : R2) (u2 : U2) : Prop where
  go : ∀ {fa : Option Addr} {G Hs H : Hp} {σ : L2.St} {ε : En} {v1 v2 : V} {p1 p2 : PV} {A : PV → En → Prop} {Q : VK}, RepE K F fa G Hs H σ ε → RpV K Hs σ v1 p1 → RpV K Hs σ v2 p2 → u2 p1 p2 ε A → Ck K F fa G Hs σ A Q → r v1 v2 H Q
def uOp (u2 : U2) (ua ub : UE) : UE := fun ε A => ua ε fun p ε1 => ub ε1 fun q ε2 => u2 p q ε2 A
section
variable {X : Cx} {F : Fd} {a b c : Expr} {ua ub uc : UE} {pos : Pos} {r : R2} {u2 : U2}
theorem opT (L : LOp X.K F r u2) {ta tb : TE} (sa : ∀ {fa : Option Addr} {G Hs H : Hp} {σ : L2.St} {ε : En} {A : PV → En → Prop} {Q : VK}, RepE X.K F fa G Hs H σ ε → ua ε A → Ck X.K F fa G Hs σ A Q → ta σ H Q)
    (sb : ∀ {fa : Option Addr} {G Hs H : Hp} {σ : L2.St} {ε : En} {A : PV → En → Prop} {Q : VK}, RepE X.K F fa G Hs H σ ε → ub ε A → Ck X.K F fa G Hs σ A Q → tb σ H Q)
    {fa : Option Addr} {G Hs H : Hp} {σ : L2.St} {ε : En} {A : PV → En → Prop} {Q : VK} (R : RepE X.K F fa G Hs H σ ε) (h : uOp u2 ua ub ε A) (c : Ck X.K F fa G Hs σ A Q) : tOp r ta tb σ H Q := by
  refine sa R h fun p ε1 x H1 Hs1 h1 R1 s1 r1 => ?_
  refine sb R1 h1 fun q ε2 y H2 Hs2 h2 R2 s2 r2 => ?_
  exact L.go R2 (r1.same s2) r2 h2 (c.after (s1.trans s2))
theorem q_op {op : Operator} (ho : OpR X (binaryOp op) r) (L : LOp X.K F r u2) (ha : QE X F a ua) (hb : QE X F b ub) : QE X F (.BinOp a op b pos) (uOp u2 ua ub) := by
  obtain ⟨ta, pa, sa⟩ := ha.ex
  obtain ⟨tb, pb, sb⟩ := hb.ex
  exact ⟨_, pe_op ho pa pb, fun R h c => opT L sa sb R h c⟩
theorem q_cmp {op : CmpOp} (ho : OpR X (compareOp op) r) (L : LOp X.K F r u2) (ha : QE X F a ua) (hb : QE X F b ub) (hm : behindInMarks op b = false) : QE X F (.Compare a [op] [b] pos) (uOp u2 ua ub) := by
  obtain ⟨ta, pa, sa⟩ := ha.ex
  obtain ⟨tb, pb, sb⟩ := hb.ex
  exact ⟨_, pe_cmpR ho pa pb hm, fun R h c => opT L sa sb R h c⟩
/-- a value as a test -/
def uB (u : UE) : UT := fun ε A => u ε fun p ε1 => match p with | .d (.bl k) => A k ε1 | _ => False
theorem cb_of {K : PySem.W.Frag} {fa : Option Addr} {G Hs : Hp} {σ : L2.St} {A : Bool → En → Prop} {Q : Bool → Hp → Prop} (c : Cb K F fa G Hs σ A Q) :
    Ck K F fa G Hs σ (fun p ε1 => match p with | .d (.bl k) => A k ε1 | _ => False) fun x H' => ∃ k, x = .bl k ∧ Q k H' := by
  intro p ε v H Hs' h R s r
  cases p with
  | s i => exact h.elim
  | d x =>
    cases x with
    | bl k =>
      cases r
      exact ⟨k, rfl, c k ε H Hs' h R s⟩
    | _ => exact h.elim
theorem qt_cmp {op : CmpOp} (ho : OpR X (compareOp op) r) (L : LOp X.K F r u2) (ha : QE X F a ua) (hb : QE X F b ub) (hm : behindInMarks op b = false) : QT X F (.Compare a [op] [b] pos) (uB (uOp u2 ua ub)) := by
  obtain ⟨ta, pa, sa⟩ := ha.ex
  obtain ⟨tb, pb, sb⟩ := hb.ex
  exact ⟨_, pt_cmpR ho pa pb hm, fun R h c => opT L sa sb R h (cb_of c)⟩
theorem qt_val {e : Expr} {u : UE} (h : QE X F e u) (he : ∀ whole, isTrue e X.env whole = (do let v ← whole; standAt e.pos; holding [v] (truthy v)) := by intro _; rfl) : QT X F e (uB u) := by
  obtain ⟨t, p, s⟩ := h.ex
  exact ⟨_, pt_val p he, fun R h c => s R h (cb_of c)⟩
def uChain (u2 u3 : U2) (ua ub uc : UE) : UE := fun ε A => ua ε fun p ε1 => ub ε1 fun q ε2 => u2 p q ε2 fun z ε3 => match z with | .d (.bl k) => if k = true then uc ε3 fun w ε4 => u3 q w ε4 A else A (.d (.bl false)) ε3 | _ => False
theorem chT {r' : R2} {u3 : U2} (L : LOp X.K F r u2) (L' : LOp X.K F r' u3) {ta tb tc : TE} (sa : ∀ {fa : Option Addr} {G Hs H : Hp} {σ : L2.St} {ε : En} {A : PV → En → Prop} {Q : VK}, RepE X.K F fa G Hs H σ ε → ua ε A → Ck X.K F fa G Hs σ A Q → ta σ H Q)
    (sb : ∀ {fa : Option Addr} {G Hs H : Hp} {σ : L2.St} {ε : En} {A : PV → En → Prop} {Q : VK}, RepE X.K F fa G Hs H σ ε → ub ε A → Ck X.K F fa G Hs σ A Q → tb σ H Q)
    (sc : ∀ {fa : Option Addr} {G Hs H : Hp} {σ : L2.St} {ε : En} {A : PV → En → Prop} {Q : VK}, RepE X.K F fa G Hs H σ ε → uc ε A → Ck X.K F fa G Hs σ A Q → tc σ H Q)
    {fa : Option Addr} {G Hs H : Hp} {σ : L2.St} {ε : En} {A : PV → En → Prop} {Q : VK} (R : RepE X.K F fa G Hs H σ ε) (h : uChain u2 u3 ua ub uc ε A) (c : Ck X.K F fa G Hs σ A Q) : tChain r r' ta tb tc σ H Q := by
  refine sa R h fun p ε1 x H1 Hs1 h1 R1 s1 r1 => ?_
  refine sb R1 h1 fun q ε2 y H2 Hs2 h2 R2 s2 r2 => ?_
  refine L.go R2 (r1.same s2) r2 h2 fun z ε3 w H3 Hs3 h3 R3 s3 r3 => ?_
  cases z with
  | s i => exact h3.elim
  | d z =>
    cases z with
    | bl k =>
      cases r3
      refine ⟨k, rfl, ?_⟩
      cases k with
      | true => exact sc R3 h3 fun w ε4 y4 H4 Hs4 h4 R4 s4 r4 => L'.go R4 (r2.same (s3.trans s4)) r4 h4 (c.after (((s1.trans s2).trans s3).trans s4))
      | false => exact (c.after ((s1.trans s2).trans s3)).now h3 R3 (.bl false)
    | _ => exact h3.elim
theorem q_chain {op op' : CmpOp} {r' : R2} {u3 : U2} (ho : OpR X (compareOp op) r) (ho' : OpR X (compareOp op') r') (L : LOp X.K F r u2) (L' : LOp X.K F r' u3) (ha : QE X F a ua) (hb : QE X F b ub) (hc : QE X F c uc)
    (hm : lastMarks [op, op'] [b, c] = false := by with_unfolding_all rfl) : QE X F (.Compare a [op, op'] [b, c] pos) (uChain u2 u3 ua ub uc) := by
  obtain ⟨ta, pa, sa⟩ := ha.ex
  obtain ⟨tb, pb, sb⟩ := hb.ex
  obtain ⟨tc, pc, sc⟩ := hc.ex
  exact ⟨_, pe_chain ho ho' pa pb pc hm, fun R h c => chT L L' sa sb sc R h c⟩
theorem qt_chain {op op' : CmpOp} {r' : R2} {u3 : U2} (ho : OpR X (compareOp op) r) (ho' : OpR X (compareOp op') r') (L : LOp X.K F r u2) (L' : LOp X.K F r' u3) (ha : QE X F a ua) (hb : QE X F b ub) (hc : QE X F c uc)
    (hm : lastMarks [op, op'] [b, c] = false := by with_unfolding_all rfl) : QT X F (.Compare a [op, op'] [b, c] pos) (uB (uChain u2 u3 ua ub uc)) := by
  obtain ⟨ta, pa, sa⟩ := ha.ex
  obtain ⟨tb, pb, sb⟩ := hb.ex
  obtain ⟨tc, pc, sc⟩ := hc.ex
  exact ⟨_, pt_chain ho ho' pa pb pc hm, fun R h c => chT L L' sa sb sc R h (cb_of c)⟩
/-! ### and, or, not, if -/
variable {va vb : UT} {rest : List Expr}
def uAnd (t u : UT) : UT := fun ε A => t ε fun c ε1 => if c = true then u ε1 A else A false ε1
def uOr (t u : UT) : UT := fun ε A => t ε fun c ε1 => if c = true then A true ε1 else u ε1 A
def uNot (t : UT) : UT := fun ε A => t ε fun c ε1 => A (!c) ε1
theorem QW.qt {e : Expr} {u : UT} (h : QW X F e u) : QT X F e u := by
  obtain ⟨t, p, s⟩ := h.ex
  exact ⟨t, p.pt, s⟩
theorem qw_and1 (ha : QT X F a va) : QW X F (.BoolOp .And [a] pos) va := by
  obtain ⟨t, p, s⟩ := ha.ex
  exact ⟨t, pw_and1 p, s⟩
theorem qw_or1 (ha : QT X F a va) : QW X F (.BoolOp .Or [a] pos) va := by
  obtain ⟨t, p, s⟩ := ha.ex
  exact ⟨t, pw_or1 p, s⟩
theorem qw_and (ha : QT X F a va) (hb : QW X F (.BoolOp .And (b :: rest) pos) vb) : QW X F (.BoolOp .And (a :: b :: rest) pos) (uAnd va vb) := by
  obtain ⟨t, p, s⟩ := ha.ex
  obtain ⟨t2, p2, s2⟩ := hb.ex
  refine ⟨_, pw_and p p2, fun R h c => s R h fun k ε1 H1 Hs1 h1 R1 s1 => ?_⟩
  cases k with
  | true => exact s2 R1 h1 (c.after s1)
  | false => exact c false ε1 H1 Hs1 h1 R1 s1
theorem qw_or (ha : QT X F a va) (hb : QW X F (.BoolOp .Or (b :: rest) pos) vb) : QW X F (.BoolOp .Or (a :: b :: rest) pos) (uOr va vb) := by
  obtain ⟨t, p, s⟩ := ha.ex
  obtain ⟨t2, p2, s2⟩ := hb.ex
  refine ⟨_, pw_or p p2, fun R h c => s R h fun k ε1 H1 Hs1 h1 R1 s1 => ?_⟩
  cases k with
  | true => exact c true ε1 H1 Hs1 h1 R1 s1
  | false => exact s2 R1 h1 (c.after s1)
theorem qt_not (ha : QT X F a va) : QT X F (.UnaryOp .Not a pos) (uNot va) := by
  obtain ⟨t, p, s⟩ := ha.ex
  exact ⟨_, pt_not p, fun R h c => s R h fun k ε1 H1 Hs1 h1 R1 s1 => c (!k) ε1 H1 Hs1 h1 R1 s1⟩
/-- .. as values -/
def uAndV (ua ub : UE) : UE := fun ε A => ua ε fun p ε1 => match p with | .d (.bl c) => if c = true then ub ε1 A else A (.d (.bl false)) ε1 | _ => False
def uOrV (ua ub : UE) : UE := fun ε A => ua ε fun p ε1 => match p with | .d (.bl c) => if c = true then A (.d (.bl true)) ε1 else ub ε1 A | _ => False
def uNotV (ua : UE) : UE := fun ε A => ua ε fun p ε1 => match p with | .d (.bl c) => A (.d (.bl (!c))) ε1 | _ => False
theorem q_one {op} {u : UE} (h : QE X F a u) : QE X F (.BoolOp op [a] pos) u := by
  obtain ⟨t, p, s⟩ := h.ex
  exact ⟨t, pe_one p, s⟩
theorem q_and (ha : QE X F a ua) (hb : QE X F (.BoolOp .And (b :: rest) pos) ub) : QE X F (.BoolOp .And (a :: b :: rest) pos) (uAndV ua ub) := by
  obtain ⟨t, p, s⟩ := ha.ex
  obtain ⟨t2, p2, s2⟩ := hb.ex
  refine ⟨_, pe_and p p2, fun R h c => s R h fun p ε1 v H1 Hs1 h1 R1 s1 r1 => ?_⟩
  cases p with
  | s i => exact h1.elim
  | d x =>
    cases x with
    | bl k =>
      cases r1
      refine ⟨k, rfl, ?_⟩
      cases k with
      | true => exact s2 R1 h1 (c.after s1)
      | false => exact (c.after s1).now h1 R1 (.bl false)
    | _ => exact h1.elim
theorem q_or (ha : QE X F a ua) (hb : QE X F (.BoolOp .Or (b :: rest) pos) ub) : QE X F (.BoolOp .Or (a :: b :: rest) pos) (uOrV ua ub) := by
  obtain ⟨t, p, s⟩ := ha.ex
  obtain ⟨t2, p2, s2⟩ := hb.ex
  refine ⟨_, pe_or p p2, fun R h c => s R h fun p ε1 v H1 Hs1 h1 R1 s1 r1 => ?_⟩
  cases p with
  | s i => exact h1.elim
  | d x =>
    cases x with
    | bl k =>
      cases r1
      refine ⟨k, rfl, ?_⟩
      cases k with
      | true => exact (c.after s1).now h1 R1 (.bl true)
      | false => exact s2 R1 h1 (c.after s1)
    | _ => exact h1.elim
theorem q_not (ha : QE X F a ua) : QE X F (.UnaryOp .Not a pos) (uNotV ua) := by
  obtain ⟨t, p, s⟩ := ha.ex
  refine ⟨_, pe_not p, fun R h c => s R h fun p ε1 v H1 Hs1 h1 R1 s1 r1 => ?_⟩
  cases p with
  | s i => exact h1.elim
  | d x =>
    cases x with
    | bl k =>
      cases r1
      exact ⟨k, rfl, (c.after s1).now h1 R1 (.bl (!k))⟩
    | _ => exact h1.elim
def uIf (t : UT) (ua ub : UE) : UE := fun ε A => t ε fun c ε1 => if c = true then ua ε1 A else ub ε1 A
theorem q_if {e : Expr} {vt : UT} (ht : QT X F e vt) (ha : QE X F a ua) (hb : QE X F b ub) : QE X F (.IfExp e a b pos) (uIf vt ua ub) := by
  obtain ⟨t, p, s⟩ := ht.ex
  obtain ⟨t1, p1, s1⟩ := ha.ex
  obtain ⟨t2, p2, s2⟩ := hb.ex
  refine ⟨_, pe_ifExp p p1 p2, fun R h c => s R h fun k ε1 H1 Hs1 h1 R1 e1 => ?_⟩
  cases k with
  | true => exact s1 R1 h1 (c.after e1)
  | false => exact s2 R1 h1 (c.after e1)
/-- one-place operators on whole numbers -/
def uUn (g : Int → Int) (ua : UE) : UE := fun ε A => ua ε fun p ε1 => match p with | .d (.int i) => A (.d (.int (g i))) ε1 | _ => False
theorem q_neg (ha : QE X F a ua) : QE X F (.UnaryOp .USub a pos) (uUn (fun i => -i) ua) := by
  obtain ⟨t, p, s⟩ := ha.ex
  refine ⟨_, pe_un un_neg p, fun R h c => s R h fun p ε1 v H1 Hs1 h1 R1 s1 r1 => ?_⟩
  cases p with
  | s i => exact h1.elim
  | d x =>
    cases x with
    | int i =>
      cases r1
      exact ⟨i, rfl, (c.after s1).now h1 R1 (.int (-i))⟩
    | _ => exact h1.elim
end
end Pu

set_option Elab.async false
set_option linter.all false
set_option maxRecDepth 100000
/-! Data that repr shows within the line. -/
namespace Gd
open PySem PySem.Spec PyProof.Rows L2
mutual
def cost : PyData → Nat
  | .none => 4
  | .bool _ => 5
  | .int _ => 1921
  | .str x => (reprText x).length
  | .list xs => costAll xs + 3
  | .tuple xs => costAll xs + 3
  | .dict _ => 0
def costAll : List PyData → Nat
  | [] => 0
  | x :: xs => cost x + 2 + costAll xs
end
theorem lensAll : ∀ xs : List PyData, (PyData.shownAll xs).length = xs.length
  | [] => by simp [PyData.shownAll]
  | x :: xs => by simp [PyData.shownAll, lensAll xs]
mutual
theorem shown_cost : ∀ d : PyData, d.showable = true → d.hasDict = false → d.shown.length ≤ cost d
  | .none, _, _ => by simp only [PyData.shown, cost]; decide +kernel
  | .bool b, _, _ => by
    simp only [PyData.shown, cost]
    cases b <;> decide +kernel
  | .int i, h, _ => by
    have h1 : i.natAbs.log2 < 1920 := by simpa [PyData.showable] using h
    simp only [PyData.shown, cost]
    have h2 := int_text_length_le (a := i) (by decide) h1
    show (Str.ofString (toString i)).length ≤ 1921
    rw [PySem.ofString_length]
    exact h2
  | .str x, _, _ => by simp only [PyData.shown, cost]; exact Nat.le_refl _
  | .list xs, h, g => by
    have e := shownAll_cost xs (by simpa [PyData.showable] using h) (by simpa [PyData.hasDict] using g)
    have e2 := listText_len_le (PyData.shownAll xs)
    rw [lensAll] at e2
    simp only [PyData.shown, cost]
    omega
  | .tuple xs, h, g => by
    have e := shownAll_cost xs (by simpa [PyData.showable] using h) (by simpa [PyData.hasDict] using g)
    have e2 := tupleText_len_le (PyData.shownAll xs)
    rw [lensAll] at e2
    simp only [PyData.shown, cost]
    omega
  | .dict _, _, g => by simp [PyData.hasDict] at g
theorem shownAll_cost : ∀ xs : List PyData, PyData.showableAll xs = true → PyData.hasDictAll xs = false → ((PyData.shownAll xs).map (·.length)).sum + 2 * xs.length ≤ costAll xs
  | [], _, _ => by simp [PyData.shownAll, costAll]
  | x :: xs, h, g => by
    have h' : x.showable = true ∧ PyData.showableAll xs = true := by simpa [PyData.showableAll] using h
    have g' : x.hasDict = false ∧ PyData.hasDictAll xs = false := by simpa [PyData.hasDictAll] using g
    have e1 := shown_cost x h'.1 g'.1
    have e2 := shownAll_cost xs h'.2 g'.2
    simp only [PyData.shownAll, costAll, List.map_cons, List.sum_cons, List.length_cons]
    omega
end
/-- what repr takes -/
structure OkD (d : PyData) (n : Nat) : Prop where
  sh : d.showable = true
  nd : d.hasDict = false
  dp : d.depth ≤ 20
  co : cost d ≤ n
theorem OkD.len {d : PyData} {n : Nat} (h : OkD d n) (hn : n ≤ sizeLine) : d.shown.length ≤ sizeLine := Nat.le_trans (shown_cost d h.sh h.nd) (Nat.le_trans h.co hn)
/-- items of depth k at most, n in all -/
structure OkA (ds : List PyData) (k n : Nat) : Prop where
  sh : PyData.showableAll ds = true
  nd : PyData.hasDictAll ds = false
  dp : PyData.depthAll ds ≤ k
  co : costAll ds ≤ n
theorem okA_nil (k : Nat) : OkA [] k 0 := ⟨by simp [PyData.showableAll], by simp [PyData.hasDictAll], by simp [PyData.depthAll], by simp [costAll]⟩
theorem okA_cons {d : PyData} {ds : List PyData} {k n m : Nat} (h : OkA [d] k n) (t : OkA ds k m) : OkA (d :: ds) k (n + m) := by
  have h1 : d.showable = true := by simpa [PyData.showableAll] using h.sh
  have h2 : d.hasDict = false := by simpa [PyData.hasDictAll] using h.nd
  have h3 : d.depth ≤ k := by simpa [PyData.depthAll] using h.dp
  have h4 : cost d + 2 ≤ n := by simpa [costAll] using h.co
  have t3 := t.dp
  have t4 := t.co
  refine ⟨by simp [PyData.showableAll, h1, t.sh], by simp [PyData.hasDictAll, h2, t.nd], ?_, ?_⟩
  · simp only [PyData.depthAll]
    omega
  · simp only [costAll]
    omega
theorem okA_int {i : Int} {k b : Nat} (h : i.natAbs < 2 ^ b) (h0 : 0 < b) (hb : b ≤ 1920) : OkA [.int i] k 1923 := by
  have h1 : i.natAbs.log2 < 1920 := Nat.lt_of_lt_of_le (PySem.Flt.log2_lt_of h0 h) hb
  refine ⟨?_, by simp [PyData.hasDictAll, PyData.hasDict], by simp [PyData.depthAll, PyData.depth], by simp [costAll, cost]⟩
  simp only [PyData.showableAll, PyData.showable, Bool.and_true]
  exact decide_eq_true h1
theorem okA_bool {b : Bool} {k : Nat} : OkA [.bool b] k 7 := ⟨by simp [PyData.showableAll, PyData.showable], by simp [PyData.hasDictAll, PyData.hasDict], by simp [PyData.depthAll, PyData.depth], by simp [costAll, cost]⟩
theorem okA_tup {ds : List PyData} {k n : Nat} (h : OkA ds k n) : OkA [.tuple ds] (k + 1) (n + 5) := by
  have h3 := h.dp
  have h4 := h.co
  refine ⟨by simp [PyData.showableAll, PyData.showable, h.sh], by simp [PyData.hasDictAll, PyData.hasDict, h.nd], ?_, ?_⟩
  · simp only [PyData.depthAll, PyData.depth]
    omega
  · simp only [costAll, cost]
    omega
theorem okD_list {ds : List PyData} {k n m : Nat} (h : OkA ds k n) (hk : k ≤ 19) (hm : n + 3 ≤ m) : OkD (.list ds) m := by
  have h3 := h.dp
  have h4 := h.co
  refine ⟨by simp [PyData.showable, h.sh], by simp [PyData.hasDict, h.nd], ?_, ?_⟩
  · simp only [PyData.depth]
    omega
  · simp only [cost]
    omega
theorem OkA.mono {ds : List PyData} {k n k' n' : Nat} (h : OkA ds k n) (hk : k ≤ k') (hn : n ≤ n') : OkA ds k' n' := ⟨h.sh, h.nd, Nat.le_trans h.dp hk, Nat.le_trans h.co hn⟩
theorem okA_ints {b : Nat} (h0 : 0 < b) (hb : b ≤ 1920) : ∀ {ns : List Int}, (∀ i ∈ ns, i.natAbs < 2 ^ b) → OkA (ns.map PyData.int) 0 (1923 * ns.length)
  | [], _ => okA_nil 0
  | i :: ns, h => by
    have e := okA_cons (okA_int (k := 0) (h i List.mem_cons_self) h0 hb) (okA_ints h0 hb fun j hj => h j (List.mem_cons_of_mem _ hj))
    refine e.mono (Nat.le_refl _) ?_
    rw [List.length_cons]
    omega
end Gd

set_option Elab.async false
set_option linter.all false
set_option maxRecDepth 100000
/-! repr of lists and tuples of whole numbers below ten to the 4300, where the digits' limit stands as it was. -/
namespace Gd
open PySem PySem.Spec PyProof.Rows L2
section
variable {prog : Program} {w : World} {h₀ : Heap}
/-- text of one whole number -/
theorem call_wide {A : Around} {E : Value → Shared → Prop} {s : Shared} {i : Int} {t : Tok} {Q : Value → Shared → Prop} (hn : s.heap.NoDigits) (hi : i.natAbs < 10 ^ 4300)
    (q : Q (.str (toString i) s.toks) { s with toks := s.toks + 1 }) : wpAny (model prog w) A (call (.builtin "int.__repr__") [.int i t]) Q E s := by
  refine wpAny_call_entry F.slot_int_repr (typeIs_int s i t) F.entry_int_repr ?_ (F.args_int_repr_1 _)
  show wpAny _ _ (do
    let r ← Builtin.overDigitLimit? i
    _) _ _ s
  exact wpAny_bind (overDigitLimit_any hn (fun z => wpAny_bind (wpAny_mkStr (wpAny_pure ⟨_, rfl, q⟩) (int_text_fits10 z))) fun z => absurd hi (Nat.not_lt.mpr z))
theorem rk_int (hN : h₀.NoDigits) {i : Int} (t : Tok) (hi : i.natAbs < 10 ^ 4300) (as : List Addr) (d : Nat) : ReprK prog w as h₀ d (.int i t) (toString i) := by
  intro base hb A g E s Q _ _ hu hk hQ
  have hb' : base ≤ sizeLine := Nat.le_trans (Nat.le_add_right _ _) hb
  rw [pyReprUnder_leaf (v := .int i t) hb' (fun _ e => nomatch e)]
  unfold pyRepr
  refine wpAny_bind (wpAny_pyReprObj_slot (by omega) (typeIs_int s i t) F.slot_int_repr.toG (call_wide (hN.keeps hk) hi ?_))
  exact ⟨_, _, rfl, wpAny_pure (hQ s.heap _ fun _ _ e => e)⟩
end
mutual
/-- whole numbers below the limit, lists and tuples of such -/
def wideB : PyData → Bool
  | .int i => decide (i.natAbs < 10 ^ 4300)
  | .list xs => wideAll xs
  | .tuple xs => wideAll xs
  | .bool _ => true
  | .none => true
  | _ => false
def wideAll : List PyData → Bool
  | [] => true
  | x :: xs => wideB x && wideAll xs
end
section
variable {prog : Program} {w : World} {h₀ : Heap}
mutual
theorem rk_of (hN : h₀.NoDigits) : ∀ (d : PyData) {v : Value} {as : List Addr}, wideB d = true → Reads h₀ v d as → d.shown.length ≤ sizeLine → ∃ bs, ReadAtMost h₀ d.depth bs ∧ ReprK prog w bs h₀ d.depth v d.shown
  | .none, _, _, _, r, _ => by
    cases r
    refine ⟨[], fun b z => (List.not_mem_nil z).elim, ?_⟩
    simp only [PyData.shown]
    exact .of_is ReprIs.none _ _ _
  | .bool b, _, _, _, r, _ => by
    cases r
    refine ⟨[], fun b z => (List.not_mem_nil z).elim, ?_⟩
    simp only [PyData.shown]
    exact .of_is (ReprIs.bool b) _ _ _
  | .int i, _, _, hw, r, _ => by
    cases r with
    | int i t =>
      refine ⟨[], fun b z => (List.not_mem_nil z).elim, ?_⟩
      simp only [PyData.shown]
      exact rk_int hN t (by simpa [wideB] using hw) _ _
  | .str _, _, _, hw, _, _ => by simp [wideB] at hw
  | .dict _, _, _, hw, _, _ => by simp [wideB] at hw
  | .list xs, _, _, hw, r, hz => by
    have hz1 : (listText (PyData.shownAll xs)).length ≤ sizeLine := by simpa only [PyData.shown] using hz
    have r0 := r
    cases r with
    | list h1 h2 h3 h4 =>
      obtain ⟨bs, hb, hk⟩ := rkAll hN xs (by simpa [wideB] using hw) h4 fun t z => Nat.le_trans (listText_mem_le z) hz1
      have fresh := not_mem_of_deeper r0 (by simp only [PyData.depth]; omega) hb
      refine ⟨_, ReadAtMost.cons r0 (by simp only [PyData.depth]; omega) hb, ?_⟩
      simp only [PyData.depth, PyData.shown]
      rename_i o vs n la
      obtain ⟨l⟩ := vs
      cases l with
      | nil =>
        have e : xs = [] := by
          cases xs with
          | nil => rfl
          | cons x xs =>
            have z : ReadsAll h₀ [] (x :: xs) _ := h4
            cases z
        subst e
        simp only [PyData.shownAll, listText_nil]
        exact .listEmpty h1 h2 h3
      | cons x l =>
        have hl := hk.length_eq
        exact .list h1 h2 h3 fresh (by rw [hl]; simp) fun i y e => hk.item i y (by rw [← e]; simp)
  | .tuple xs, _, _, hw, r, hz => by
    have hz1 : (tupleText (PyData.shownAll xs)).length ≤ sizeLine := by simpa only [PyData.shown] using hz
    have r0 := r
    cases r with
    | tuple h1 h2 h3 h4 =>
      obtain ⟨bs, hb, hk⟩ := rkAll hN xs (by simpa [wideB] using hw) h4 fun t z => Nat.le_trans (tupleText_mem_le z) hz1
      have fresh := not_mem_of_deeper r0 (by simp only [PyData.depth]; omega) hb
      refine ⟨_, ReadAtMost.cons r0 (by simp only [PyData.depth]; omega) hb, ?_⟩
      simp only [PyData.depth, PyData.shown]
      exact .tuple h1 h2 h3 fresh hk
theorem rkAll (hN : h₀.NoDigits) : ∀ (ds : List PyData) {vs : List Value} {as : List Addr}, wideAll ds = true → ReadsAll h₀ vs ds as → (∀ t ∈ PyData.shownAll ds, t.length ≤ sizeLine) →
    ∃ bs, ReadAtMost h₀ (PyData.depthAll ds) bs ∧ ReprAllK prog w bs h₀ (PyData.depthAll ds) vs (PyData.shownAll ds)
  | [], _, _, _, r, _ => by
    cases r
    refine ⟨[], fun b z => (List.not_mem_nil z).elim, ?_⟩
    simp only [PyData.shownAll]
    exact .nil
  | d :: ds, _, _, hw, r, hz => by
    have hw2 : wideB d = true ∧ wideAll ds = true := by simpa [wideAll] using hw
    simp only [PyData.shownAll] at hz
    cases r with
    | cons r1 r2 =>
      obtain ⟨b1, m1, k1⟩ := rk_of hN d hw2.1 r1 (hz _ List.mem_cons_self)
      obtain ⟨b2, m2, k2⟩ := rkAll hN ds hw2.2 r2 fun t z => hz t (List.mem_cons_of_mem _ z)
      simp only [PyData.depthAll, PyData.shownAll]
      refine ⟨b1 ++ b2, (m1.mono (Nat.le_max_left _ _)).append (m2.mono (Nat.le_max_right _ _)), .cons ?_ ?_⟩
      · exact (k1.more fun b z => List.mem_append_left _ z).level_le (Nat.le_max_left _ _)
      · exact k2.more_le (fun b z => List.mem_append_right _ z) (Nat.le_max_right _ _)
end
end
section
variable {X : Cx} {k : Nat}
/-- repr of a list that isn't empty, of wide data -/
def rReprW (K : PySem.W.Frag) : List V → Hp → VK → Prop := fun xs H Q => ∃ (a : Addr) (d : PyData) (ds : List PyData), xs = [.ref a] ∧ Dp K H (.ref a) (.list (d :: ds)) ∧ wideAll (d :: ds) = true ∧ (PyData.list (d :: ds)).depth ≤ 20 ∧
  (PyData.list (d :: ds)).shown.length ≤ sizeLine ∧ Q (.str (PyData.list (d :: ds)).shown) H
theorem call_reprW (hr : Room k X.A) (hG : X.A.guards = some []) (hN : X.base.NoDigits) : CallR X (.builtin "repr") (rReprW X.K) := by
  intro pins s σ H xs us Q I r h
  obtain ⟨a, d, ds, rfl, hd, hw, hdep, hz, q⟩ := h
  obtain ⟨u, rfl, ru⟩ := vals1 r
  cases ru
  obtain ⟨as, r0⟩ := Dp.reads I _ (.ref a) (.ref a) hd rfl
  have hN2 : s.heap.NoDigits := hN.keeps fun b o e => (I.env0.bs b o e).1
  have hz1 : (listText (PyData.shownAll (d :: ds))).length ≤ sizeLine := by simpa only [PyData.shown] using hz
  have hu := hr.units
  cases r0 with
  | list h1 h2 h3 h4 =>
    obtain ⟨bs, hb, hk⟩ := rkAll (prog := X.prog) (w := X.w) hN2 (d :: ds) hw h4 fun t z => Nat.le_trans (listText_mem_le z) hz1
    have fresh : a ∉ bs := not_mem_of_deeper (.list h1 h2 h3 h4) (by simp only [PyData.depth]; omega) hb
    rename_i o vs n la
    obtain ⟨l⟩ := vs
    simp only [PyData.depth] at hdep
    cases l with
    | nil =>
      have z : ReadsAll s.heap [] (d :: ds) _ := h4
      cases z
    | cons x l =>
      have hl := hk.length_eq
      refine call_repr_slot (T := "list") (idr := "list.__repr__") (by omega) ⟨o, h1, h2⟩ F.slot_list_repr.toG ?_
      refine call_list_reprK h1 h2 h3 fresh (by rw [hl]; simp) (fun i y e => hk.item i y (by rw [← e]; simp)) hG (fun b _ => Clear.nil b) (by show X.A.units + 1 + _ < cLine; omega) (fun _ _ e => e) (fun h' u tk hk2 => ?_) hz1
      refine ⟨_, _, rfl, .str _, H, I.kept hk2, ⟨u, ?_⟩, q⟩
      simp only [PyData.shown]
end
end Gd

set_option Elab.async false
set_option linter.all false
set_option maxRecDepth 100000
set_option maxHeartbeats 4000000
/-! Operators, subscripts, built-ins, displays read without the heap. -/
namespace Pu
open PySem PySem.Spec PyProof.Rows L2 Gd

/-! ### data as the library has it -/
mutual
def D.py : D → PyData
  | .non => .none
  | .bl b => .bool b
  | .int i => .int i
  | .str x => .str x
  | .tup ds => .tuple (pyA ds)
  | .lst ds => .list (pyA ds)
  | .ins _ _ _ => .none
  | .raw _ => .none
  | .scr _ => .none
  | .dcT _ _ => .none
  | .dcK _ _ => .none
def pyA : List D → List PyData
  | [] => []
  | d :: ds => d.py :: pyA ds
end
mutual
def D.plain : D → Bool
  | .non => true
  | .bl _ => true
  | .int _ => true
  | .str _ => true
  | .tup ds => plainA ds
  | .lst ds => plainA ds
  | .ins _ _ _ => false
  | .raw _ => false
  | .scr _ => false
  | .dcT _ _ => false
  | .dcK _ _ => false
def plainA : List D → Bool
  | [] => true
  | d :: ds => d.plain && plainA ds
end
theorem pyA_map (ds : List D) : pyA ds = ds.map D.py := by
  induction ds with
  | nil => simp [pyA]
  | cons d ds ih => simp [pyA, ih]
theorem plainA_all (ds : List D) : plainA ds = ds.all D.plain := by
  induction ds with
  | nil => simp [plainA]
  | cons d ds ih => simp [plainA, ih]
mutual
theorem rp_dp {K : PySem.W.Frag} {H : Hp} : ∀ {v : V} {d : D}, Rp K H v d → d.plain = true → Dp K H v d.py
  | _, _, .non, _ => by simp only [D.py]; exact .non
  | _, _, .bl b, _ => by simp only [D.py]; exact .bl b
  | _, _, .int i, _ => by simp only [D.py]; exact .int i
  | _, _, .str x, _ => by simp only [D.py]; exact .str x
  | _, _, .raw v, h => by simp [D.plain] at h
  | _, _, .scr _, h => by simp [D.plain] at h
  | _, _, .ins _ _ _ _, h => by simp [D.plain] at h
  | _, _, .dcT _ _ _, h => by simp [D.plain] at h
  | _, _, .dcK _ _ _, h => by simp [D.plain] at h
  | _, _, .lst h t, p => by
    simp only [D.py]
    exact .lst (.inl h) (rpa_dp t (by simpa [D.plain] using p))
  | _, _, .tup h t, p => by
    simp only [D.py]
    exact .tup h (rpa_dp t (by simpa [D.plain] using p))
theorem rpa_dp {K : PySem.W.Frag} {H : Hp} : ∀ {vs : List V} {ds : List D}, RpA K H vs ds → plainA ds = true → DpAll K H vs (pyA ds)
  | _, _, .nil, _ => by simp only [pyA]; exact .nil
  | _, d :: ds, .cons h t, p => by
    have p : d.plain = true ∧ plainA ds = true := by simpa [plainA] using p
    simp only [pyA]
    exact .cons (rp_dp h p.1) (rpa_dp t p.2)
end
/-- data that == takes: of depth k at most -/
def okC : Nat → D → Bool
  | _, .non => true
  | _, .bl _ => true
  | _, .int _ => true
  | _, .str x => PyData.strOk x
  | k + 1, .tup ds => ds.all (okC k)
  | k + 1, .lst ds => ds.all (okC k)
  | 0, .tup ds => ds.isEmpty
  | 0, .lst ds => ds.isEmpty
  | _, _ => false
theorem okC_all {k : Nat} (ih : ∀ d : D, okC k d = true → d.plain = true ∧ d.py.canLay0 = true ∧ d.py.depth ≤ k + 1) : ∀ ds : List D, ds.all (okC k) = true → plainA ds = true ∧ PyData.canLayAll0 (pyA ds) = true ∧ PyData.depthAll (pyA ds) ≤ k + 1
  | [], _ => by simp [plainA, pyA, PyData.canLayAll0, PyData.depthAll]
  | d :: ds, h => by
    have h : okC k d = true ∧ ds.all (okC k) = true := by simpa using h
    obtain ⟨a1, a2, a3⟩ := ih d h.1
    obtain ⟨b1, b2, b3⟩ := okC_all ih ds h.2
    refine ⟨by simp [plainA, a1, b1], by simp [pyA, PyData.canLayAll0, a2, b2], ?_⟩
    simp only [pyA, PyData.depthAll]
    omega
theorem okC_ok : ∀ (k : Nat) (d : D), okC k d = true → d.plain = true ∧ d.py.canLay0 = true ∧ d.py.depth ≤ k + 1
  | k, .non, _ => by simp [D.plain, D.py, PyData.canLay0, PyData.depth]
  | k, .bl _, _ => by simp [D.plain, D.py, PyData.canLay0, PyData.depth]
  | k, .int _, _ => by simp [D.plain, D.py, PyData.canLay0, PyData.depth]
  | k, .str x, h => by
    have h : PyData.strOk x = true := by cases k <;> simpa [okC] using h
    simp [D.plain, D.py, PyData.canLay0, PyData.depth, h]
  | 0, .tup ds, h => by
    have h : ds = [] := by simpa [okC] using h
    subst h
    simp [D.plain, plainA, D.py, pyA, PyData.canLay0, PyData.canLayAll0, PyData.depth, PyData.depthAll]
  | 0, .lst ds, h => by
    have h : ds = [] := by simpa [okC] using h
    subst h
    simp [D.plain, plainA, D.py, pyA, PyData.canLay0, PyData.canLayAll0, PyData.depth, PyData.depthAll]
  | k + 1, .tup ds, h => by
    obtain ⟨a1, a2, a3⟩ := okC_all (okC_ok k) ds (by simpa [okC] using h)
    refine ⟨by simp [D.plain, a1], by simp [D.py, PyData.canLay0, a2], ?_⟩
    simp only [D.py, PyData.depth]
    omega
  | k + 1, .lst ds, h => by
    obtain ⟨a1, a2, a3⟩ := okC_all (okC_ok k) ds (by simpa [okC] using h)
    refine ⟨by simp [D.plain, a1], by simp [D.py, PyData.canLay0, a2], ?_⟩
    simp only [D.py, PyData.depth]
    omega
  | 0, .ins _ _ _, h => by simp [okC] at h
  | 0, .raw _, h => by simp [okC] at h
  | 0, .scr _, h => by simp [okC] at h
  | 0, .dcT _ _, h => by simp [okC] at h
  | 0, .dcK _ _, h => by simp [okC] at h
  | k + 1, .dcT _ _, h => by simp [okC] at h
  | k + 1, .dcK _ _, h => by simp [okC] at h
  | k + 1, .ins _ _ _, h => by simp [okC] at h
  | k + 1, .raw _, h => by simp [okC] at h
  | k + 1, .scr _, h => by simp [okC] at h
theorem okC_shaped {d : D} (h : okC 20 d = true) : SeqAt.shaped d.py = true := by
  obtain ⟨_, a2, a3⟩ := okC_ok 20 d h
  unfold SeqAt.shaped
  rw [a2, decide_eq_true (by omega : d.py.depth ≤ 64)]
  rfl
theorem okC_ints (k : Nat) (ns : List Int) : (ns.map D.int).all (okC k) = true := by
  rw [List.all_eq_true]
  intro d hd
  obtain ⟨i, _, rfl⟩ := List.mem_map.mp hd
  cases k <;> rfl
/-- == of data -/
def eqD (a b : D) : Bool := PyData.eqv a.py b.py
theorem eqvAll_ints : ∀ xs ys : List Int, PyData.eqvAll (pyA (xs.map D.int)) (pyA (ys.map D.int)) = decide (xs = ys)
  | [], [] => by simp [pyA, PyData.eqvAll]
  | [], y :: ys => by simp [pyA, PyData.eqvAll]
  | x :: xs, [] => by simp [pyA, PyData.eqvAll]
  | x :: xs, y :: ys => by
    simp only [List.map_cons, pyA, PyData.eqvAll, D.py, PyData.eqv, eqvAll_ints xs ys]
    rw [Bool.eq_iff_iff]
    simp
theorem eqD_int (i j : Int) : eqD (.int i) (.int j) = decide (i = j) := by
  show (i == j) = _
  rw [Bool.eq_iff_iff]
  simp
theorem eqD_tups (xs ys : List Int) : eqD (.tup (xs.map D.int)) (.tup (ys.map D.int)) = decide (xs = ys) := by
  show PyData.eqv (D.tup _).py (D.tup _).py = _
  simp only [D.py, PyData.eqv]
  exact eqvAll_ints xs ys
theorem eqD_lsts (xs ys : List Int) : eqD (.lst (xs.map D.int)) (.lst (ys.map D.int)) = decide (xs = ys) := by
  show PyData.eqv (D.lst _).py (D.lst _).py = _
  simp only [D.py, PyData.eqv]
  exact eqvAll_ints xs ys
theorem eqD_bl (i j : Bool) : eqD (.bl i) (.bl j) = decide (i = j) := by
  show (i == j) = _
  rw [Bool.eq_iff_iff]
  simp
theorem eqD_str (i j : Str) : eqD (.str i) (.str j) = decide (i = j) := by
  show (i == j) = _
  rw [Bool.eq_iff_iff]
  simp
/-- a value as data, to be looked at only -/
def dataOf (p : PV) (ε : En) : Option D :=
  match p with
  | .d x => some x
  | .s i => match ε.sl[i]? with
    | some (.ow _ ds) => some (.lst ds)
    | some (.sh d) => some d
    | _ => none
section
variable {K : PySem.W.Frag} {F : Fd} {fa : Option Addr} {G Hs H Hs' H' : Hp} {σ : L2.St} {ε : En}
theorem dataOf_ok {p : PV} {v : V} {d : D} (R : RepE K F fa G Hs H σ ε) (r : RpV K Hs σ v p) (h : dataOf p ε = some d) : Rp K H v d := by
  cases p with
  | d x =>
    cases h
    exact Rp.same r R.sub
  | s i =>
    unfold dataOf at h
    simp only at h
    have r : σ[i]? = some (some v) := r
    split at h
    · rename_i ds e
      cases h
      obtain ⟨a, vs, h1, h2, h3, h4, h5, h6, _⟩ := R.ow i _ _ e
      rw [h1] at r
      cases r
      exact .lst (.inl h5) (h6.same R.sub)
    · rename_i d' e
      cases h
      obtain ⟨w, h1, h2⟩ := R.sh i _ e
      rw [h1] at r
      cases r
      exact h2.same R.sub
    · cases h
end

/-! ### operators -/
theorem OpR.or {X : Cx} {f : Value → Value → Sem Value} {r r' : R2} (h : OpR X f r) (h' : OpR X f r') : OpR X f (fun x y H Q => r x y H Q ∨ r' x y H Q) := by
  intro pins s σ H x y v u Q I rx ry q
  rcases q with q | q
  · exact h pins s σ H x y v u Q I rx ry q
  · exact h' pins s σ H x y v u Q I rx ry q
section
variable {X : Cx}
def rCatR : R2 := fun x y H Q => ∃ l b xs zs, x = .ref l ∧ y = .ref b ∧ Rd H l (.lst xs) ∧ Rd H b (.lst zs) ∧ xs.length + zs.length ≤ sizeLine ∧ ∀ p, H p = none → Q (.ref p) (upd H p (.lst (xs ++ zs)))
theorem lstR {pins : List (Addr × Obj)} {σ : L2.St} {H : Hp} {s : Shared} {p : Addr} {xs : List V} (I : Inv X pins σ H s) (h : Rd H p (.lst xs)) :
    ∃ (its : List Value) (n : Nat), Vals xs its ∧ s.heap.get? p = some { cls := .type "list", data := .seq its.toArray n } ∧ xs.length ≤ sizeLine := by
  obtain ⟨z, its, n, r, e⟩ := h.ok I.hok
  exact ⟨its, n, r, e, z⟩
theorem op_catR : OpR X (binaryOp .Add) rCatR := by
  intro pins s σ H x y v u Q I rx ry h
  obtain ⟨l, b, xs, zs, rfl, rfl, hH, hB, hz, q⟩ := h
  cases rx
  cases ry
  obtain ⟨its, n, r, e, hl⟩ := lstR I hH
  obtain ⟨its2, n2, r2, e2, hl2⟩ := lstR I hB
  refine PySem.P.add_list e e2 ?_ (by rw [List.size_toArray, List.size_toArray, ← r.length, ← r2.length]; exact hz)
  have ea : its.toArray ++ its2.toArray = (its ++ its2).toArray := by simp
  rw [ea]
  exact ⟨.ref _, _, I.lnew (t' := s.toks) (r.append r2) (by rw [List.length_append]; omega), rfl, q _ I.fresh⟩
def rRepR : R2 := fun x y H Q => ∃ l k xs, x = .ref l ∧ y = .int k ∧ Rd H l (.lst xs) ∧ -(2 ^ 63) ≤ k ∧ k < 2 ^ 63 ∧ xs.length * k.toNat ≤ sizeLine ∧
  ∀ p, H p = none → Q (.ref p) (upd H p (.lst (List.replicate k.toNat xs).flatten))
theorem op_repR : OpR X (binaryOp .Mult) rRepR := by
  intro pins s σ H x y v u Q I rx ry h
  obtain ⟨l, k, xs, rfl, rfl, hH, h1, h2, hz, q⟩ := h
  cases rx
  obtain ⟨t, rfl⟩ := ry
  obtain ⟨its, n, r, e, z⟩ := lstR I hH
  have hl := r.length
  have hlen : its.toArray.size * k.toNat ≤ sizeLine := by rw [List.size_toArray, ← hl]; exact hz
  have hcap : ¬ its.toArray.size * k.toNat > (2 ^ 63 - 1) / 8 := by
    have : (sizeLine : Nat) ≤ (2 ^ 63 - 1) / 8 := by decide
    omega
  have hfit : ¬ (!Builtin.List.listFitsIndex k) = true := by
    rw [fitsIndex_both h1 h2]
    exact Bool.false_ne_true
  have hlong : ¬ Builtin.List.listTooLong (its.toArray.size * k.toNat) = true := by
    rw [notLongL hlen]
    exact Bool.false_ne_true
  have hnew : List.foldl (fun x1 x2 => x1 ++ x2) #[] (List.replicate (if its.toArray.isEmpty = true then 0 else k.toNat) its.toArray) = (List.replicate k.toNat its).flatten.toArray := by
    have f0 : ∀ m : Nat, List.foldl (fun x1 x2 => x1 ++ x2) #[] (List.replicate m its.toArray) = (List.replicate m its).flatten.toArray := fun m => by
      have := foldl_rep its m []
      rw [List.nil_append] at this
      exact this
    rw [f0]
    cases its with
    | nil => simp
    | cons a r' => rw [if_neg (by simp)]
  refine wpAny_binaryOp_repeat_ref (T := "list") (U := "int") (by decide) ⟨_, e, rfl⟩ (fun s' => typeIs_int s' k t) noFill_list_mul F.fills_int_mul F.slot_int_rmul repeat_list F.slot_int_index.lookup
    (call_meets F.slot_int_rmul (typeIs_int s k t) F.entry_int_rmul (F.args_int_rmul_2 _ _) (int___rmul___int_list k t l its.toArray n)
      ⟨e, rfl, ⟨_, e, rfl⟩, call_meets F.slot_list_mul ⟨_, e, rfl⟩ F.entry_list_mul (F.args_list_mul_2 _ _) (AutoListH.list___mul___list_int_3 l its.toArray n k t hfit hcap hlong) ⟨e, ?_⟩⟩)
  rw [hnew]
  exact ⟨.ref _, _, I.lnew (t' := s.toks) (r.rep k.toNat) (by rw [PyProof.Rows.lm_len_rep_flat, Nat.mul_comm]; exact hz), rfl, q _ I.fresh⟩
/-- tuple * k -/
def rRepA (K : PySem.W.Frag) : R2 := fun x y H Q => ∃ l xs, ∃ k : Nat, x = .ref l ∧ y = .int (k : Nat) ∧ SqT K H l xs ∧ xs ≠ [] ∧ k ≤ 1000 ∧ xs.length ≤ 1000 ∧ (k = 1 → Q (.ref l) H) ∧ (k ≠ 1 → ∀ p, H p = none → Q (.ref p) (upd H p (.tup (List.replicate k xs).flatten)))
theorem op_repA : OpR X (binaryOp .Mult) (rRepA X.K) := by
  intro pins s σ H x y v u Q I rx ry h
  obtain ⟨l, xs, k, rfl, rfl, hT, hne, h2, hz, q1, q⟩ := h
  by_cases hk : k = 0
  · subst hk
    cases rx
    obtain ⟨t, rfl⟩ := ry
    obtain ⟨its, r, ⟨⟨cls, dd, data, sl⟩, ho, hc, n, hd⟩, hs⟩ := I.tuple hT
    simp only at hc hd
    subst hc hd
    have hie : its.toArray.isEmpty = false := by
      cases its with
      | nil =>
        cases r
        exact absurd rfl hne
      | cons a b => rfl
    refine wpAny_binaryOp_repeat_ref (T := "tuple") (U := "int") (by decide) ⟨_, ho, rfl⟩ (fun s' => typeIs_int s' 0 t) noFill_tuple_mul F.fills_int_mul F.slot_int_rmul repeat_tuple F.slot_int_index.lookup
      (call_meets F.slot_int_rmul (typeIs_int s 0 t) F.entry_int_rmul (F.args_int_rmul_2 _ _) (int_rmul_tuple 0 t l its.toArray n dd sl)
        ⟨ho, rfl, ⟨_, ho, rfl⟩, call_meets F.slot_tuple_mul ⟨_, ho, rfl⟩ F.entry_tuple_mul (F.args_tuple_mul_2 _ _) (tuple_mul0 l its.toArray n dd sl t) ⟨ho, hie, ?_⟩⟩)
    refine ⟨.ref _, upd H _ (.tup []), I.laid (fun b o e => Heap.get?_push_of_some _ e) (Nat.le_refl _) (show ObjOk X.prog X.w _ _ _ (.tup _) from ?_), rfl, q (by decide) _ (I.hok.fresh (Nat.le_refl _))⟩
    exact ⟨Nat.zero_le _, [], .nil, ⟨_, Heap.get?_push_size _ rfl, rfl, _, rfl⟩⟩
  · by_cases hk1 : k = 1
    · subst hk1
      cases rx
      obtain ⟨t, rfl⟩ := ry
      obtain ⟨its, r, ⟨⟨cls, dd, data, sl⟩, ho, hc, n, hd⟩, hs⟩ := I.tuple hT
      simp only at hc hd
      subst hc hd
      refine wpAny_binaryOp_repeat_ref (T := "tuple") (U := "int") (by decide) ⟨_, ho, rfl⟩ (fun s' => typeIs_int s' 1 t) noFill_tuple_mul F.fills_int_mul F.slot_int_rmul repeat_tuple F.slot_int_index.lookup
        (call_meets F.slot_int_rmul (typeIs_int s 1 t) F.entry_int_rmul (F.args_int_rmul_2 _ _) (int_rmul_tuple 1 t l its.toArray n dd sl)
          ⟨ho, rfl, ⟨_, ho, rfl⟩, call_meets F.slot_tuple_mul ⟨_, ho, rfl⟩ F.entry_tuple_mul (F.args_tuple_mul_2 _ _) (tuple_mul1 l its.toArray n dd sl t) ⟨ho, ?_⟩⟩)
      exact ⟨.ref l, H, I, rfl, q1 rfl⟩
    · refine op_repT pins s σ H _ _ v u Q I rx ry ⟨l, k, xs, rfl, rfl, hT, hne, by omega, by omega, hz, fun p hp => ?_⟩
      have := q hk1 p hp
      rwa [Int.toNat_natCast]
end
def uAdd : U2 := fun p q ε A =>
  match p, q with
  | .d (.int i), .d (.int j) => A (.d (.int (i + j))) ε
  | .d (.str x), .d (.str y) => x.length + y.length ≤ 1000000 ∧ A (.d (.str (x ++ y))) ε
  | p, q => match seqOf p ε, seqOf q ε with
    | some (true, xs), some (true, ys) => xs.length + ys.length ≤ 1000000 ∧ A (.d (.lst (xs ++ ys))) ε
    | some (false, xs), some (false, ys) => xs.length + ys.length ≤ 1000000 ∧ A (.d (.tup (xs ++ ys))) ε
    | _, _ => False
theorem le_line {n : Nat} (h : n ≤ 1000000) : n ≤ sizeLine := by rw [sizeLine_eq]; omega
theorem op_addA {X : Cx} : OpR X (binaryOp .Add) (fun x y H Q => ((rI0 fun i j => .int (i + j)) x y H Q ∨ (∃ i j, x = .str i ∧ y = .str j ∧ i.length + j.length ≤ sizeLine ∧ Q (.str (i ++ j)) H)) ∨ (rCatR x y H Q ∨ rCatA X.K x y H Q)) :=
  OpR.or (OpR.or op_add op_add_str) (OpR.or op_catR op_catA)
section
variable {K : PySem.W.Frag} {F : Fd}
theorem l_add : LOp K F (fun x y H Q => ((rI0 fun i j => .int (i + j)) x y H Q ∨ (∃ i j, x = .str i ∧ y = .str j ∧ i.length + j.length ≤ sizeLine ∧ Q (.str (i ++ j)) H)) ∨ (rCatR x y H Q ∨ rCatA K x y H Q)) uAdd := by
  refine ⟨fun {fa G Hs H σ ε v1 v2 p1 p2 A Q} R r1 r2 h c => ?_⟩
  unfold uAdd at h
  split at h
  · cases r1
    cases r2
    exact .inl (.inl ⟨_, _, rfl, rfl, c.now h R (.int _)⟩)
  · cases r1
    cases r2
    exact .inl (.inr ⟨_, _, rfl, rfl, le_line h.1, c.now h.2 R (.str _)⟩)
  · split at h
    · rename_i _ _ xs ys e1 e2
      obtain ⟨a, vs, rfl, t1, q1⟩ := seqOf_ok R r1 e1
      obtain ⟨b, us, rfl, t2, q2⟩ := seqOf_ok R r2 e2
      refine .inr (.inl ⟨a, b, vs, us, rfl, rfl, q1, q2, ?_, fun p hp => ?_⟩)
      · rw [t1.len, t2.len]
        exact le_line h.1
      · exact c.new h.2 R hp (.lst (.of upd_same) ((t1.append t2).same (same_new (none_of_same R.sub hp))))
    · rename_i _ _ xs ys e1 e2
      obtain ⟨a, vs, rfl, t1, q1⟩ := seqOf_ok R r1 e1
      obtain ⟨b, us, rfl, t2, q2⟩ := seqOf_ok R r2 e2
      have e0 : ∀ {us : List V} {ds : List D}, RpA K Hs us ds → us = [] → ds = [] := fun t z => by subst z; cases t; rfl
      refine .inr (.inr ⟨a, b, vs, us, rfl, rfl, q1, q2, ?_, fun z => ?_, fun _ z => ?_, fun _ _ p hp => ?_⟩)
      · rw [t1.len, t2.len]
        exact le_line h.1
      · have := e0 t1 z
        subst this
        exact c.now h.2 R (tupOf_ok R r2 e2)
      · have := e0 t2 z
        subst this
        refine c.now h.2 R (?_ : Rp K Hs _ _)
        rw [List.append_nil]
        exact tupOf_ok R r1 e1
      · exact c.new h.2 R hp (.tup (.of upd_same) ((t1.append t2).same (same_new (none_of_same R.sub hp))))
    · exact h.elim
end
end Pu

set_option Elab.async false
set_option linter.all false
set_option maxRecDepth 100000
/-! How long the text of wide data is. -/
namespace Gd
open PySem PySem.Spec PyProof.Rows L2
mutual
def costW : PyData → Nat
  | .none => 4
  | .bool _ => 5
  | .int _ => 4301
  | .list xs => costWs xs + 3
  | .tuple xs => costWs xs + 3
  | _ => 0
def costWs : List PyData → Nat
  | [] => 0
  | x :: xs => costW x + 2 + costWs xs
end
theorem wide_text {i : Int} (h : i.natAbs < 10 ^ 4300) : (Str.ofString (toString i)).length ≤ 4301 := by
  rw [PySem.ofString_length]
  exact int_text_length_le10 (by decide) h
mutual
theorem shown_W : ∀ d : PyData, wideB d = true → d.shown.length ≤ costW d
  | .none, _ => by simp only [PyData.shown, costW]; decide +kernel
  | .bool b, _ => by
    simp only [PyData.shown, costW]
    cases b <;> decide +kernel
  | .int i, h => by
    have h1 : i.natAbs < 10 ^ 4300 := by simpa [wideB] using h
    simp only [PyData.shown, costW]
    exact wide_text h1
  | .list xs, h => by
    have e := shown_Ws xs (by simpa [wideB] using h)
    have e2 := listText_len_le (PyData.shownAll xs)
    rw [lensAll] at e2
    simp only [PyData.shown, costW]
    omega
  | .tuple xs, h => by
    have e := shown_Ws xs (by simpa [wideB] using h)
    have e2 := tupleText_len_le (PyData.shownAll xs)
    rw [lensAll] at e2
    simp only [PyData.shown, costW]
    omega
  | .str _, h => by simp [wideB] at h
  | .dict _, h => by simp [wideB] at h
theorem shown_Ws : ∀ xs : List PyData, wideAll xs = true → ((PyData.shownAll xs).map (·.length)).sum + 2 * xs.length ≤ costWs xs
  | [], _ => by simp [PyData.shownAll, costWs]
  | x :: xs, h => by
    have h2 : wideB x = true ∧ wideAll xs = true := by simpa [wideAll] using h
    have e1 := shown_W x h2.1
    have e2 := shown_Ws xs h2.2
    simp only [PyData.shownAll, costWs, List.map_cons, List.sum_cons, List.length_cons]
    omega
end
/-- wide items of depth k at most, n in all -/
structure OkW (ds : List PyData) (k n : Nat) : Prop where
  wi : wideAll ds = true
  dp : PyData.depthAll ds ≤ k
  co : costWs ds ≤ n
theorem okW_nil (k : Nat) : OkW [] k 0 := ⟨by simp [wideAll], by simp [PyData.depthAll], by simp [costWs]⟩
theorem okW_cons {d : PyData} {ds : List PyData} {k n m : Nat} (h : OkW [d] k n) (t : OkW ds k m) : OkW (d :: ds) k (n + m) := by
  have h1 : wideB d = true := by simpa [wideAll] using h.wi
  have h3 : d.depth ≤ k := by simpa [PyData.depthAll] using h.dp
  have h4 : costW d + 2 ≤ n := by simpa [costWs] using h.co
  have t3 := t.dp
  have t4 := t.co
  refine ⟨by simp [wideAll, h1, t.wi], ?_, ?_⟩
  · simp only [PyData.depthAll]
    omega
  · simp only [costWs]
    omega
theorem okW_int {i : Int} {k : Nat} (h : i.natAbs < 10 ^ 4300) : OkW [.int i] k 4303 := by
  refine ⟨?_, by simp [PyData.depthAll, PyData.depth], by simp [costWs, costW]⟩
  simp only [wideAll, wideB, Bool.and_true]
  exact decide_eq_true h
theorem okW_tup {ds : List PyData} {k n : Nat} (h : OkW ds k n) : OkW [.tuple ds] (k + 1) (n + 5) := by
  have h3 := h.dp
  have h4 := h.co
  refine ⟨by simp [wideAll, wideB, h.wi], ?_, ?_⟩
  · simp only [PyData.depthAll, PyData.depth]
    omega
  · simp only [costWs, costW]
    omega
theorem ten_two : 2 ^ 14000 ≤ 10 ^ 4300 := by decide +kernel
theorem okW_ints {xs : List Int} {b : Nat} (h : ∀ x ∈ xs, x.natAbs < 2 ^ b) (hb : b ≤ 14000) : OkW (xs.map PyData.int) 1 (4303 * xs.length) := by
  induction xs with
  | nil => exact ⟨by simp [wideAll], by simp [PyData.depthAll], by simp [costWs]⟩
  | cons x xs ih =>
    have h1 := Nat.lt_of_lt_of_le (h x List.mem_cons_self) (Nat.le_trans (Nat.pow_le_pow_right (by decide) hb) ten_two)
    have e := okW_cons (okW_int (k := 1) h1) (ih fun y hy => h y (List.mem_cons_of_mem _ hy))
    rw [List.length_cons, Nat.mul_succ, Nat.add_comm]
    exact e
/-- the whole list is within the line -/
theorem OkW.list {ds : List PyData} {k n : Nat} (h : OkW ds k n) (hn : n + 3 ≤ 16000000) : (PyData.list ds).shown.length ≤ sizeLine := by
  have e := shown_W (.list ds) (by simpa [wideB] using h.wi)
  have h4 := h.co
  simp only [costW] at e
  rw [sizeLine_eq]
  omega
end Gd

set_option Elab.async false
set_option linter.all false
set_option maxRecDepth 100000
set_option maxHeartbeats 4000000
namespace Pu
open PySem PySem.Spec PyProof.Rows L2 Gd
section
variable {K : PySem.W.Frag} {F : Fd}
/-! ### whole numbers -/
def uI (C : Int → Int → Prop) (g : Int → Int → D) : U2 := fun p q ε A =>
  match p, q with
  | .d (.int i), .d (.int j) => C i j ∧ A (.d (g i j)) ε
  | _, _ => False
def uI0 (g : Int → Int → D) : U2 := fun p q ε A =>
  match p, q with
  | .d (.int i), .d (.int j) => A (.d (g i j)) ε
  | _, _ => False
theorem l_I {C : Int → Int → Prop} {g : Int → Int → V} {g' : Int → Int → D} (hg : ∀ Hs i j, Rp K Hs (g i j) (g' i j)) : LOp K F (rI C g) (uI C g') := by
  refine ⟨fun {fa G Hs H σ ε v1 v2 p1 p2 A Q} R r1 r2 h c => ?_⟩
  unfold uI at h
  split at h
  · cases r1
    cases r2
    exact ⟨_, _, rfl, rfl, h.1, c.now h.2 R (hg Hs _ _)⟩
  · exact h.elim
theorem l_I0 {g : Int → Int → V} {g' : Int → Int → D} (hg : ∀ Hs i j, Rp K Hs (g i j) (g' i j)) : LOp K F (rI0 g) (uI0 g') := by
  refine ⟨fun {fa G Hs H σ ε v1 v2 p1 p2 A Q} R r1 r2 h c => ?_⟩
  unfold uI0 at h
  split at h
  · cases r1
    cases r2
    exact ⟨_, _, rfl, rfl, c.now h R (hg Hs _ _)⟩
  · exact h.elim
theorem l_sub : LOp K F (rI0 fun i j => .int (i - j)) (uI0 fun i j => .int (i - j)) := l_I0 fun _ i j => .int (i - j)
theorem l_fdiv : LOp K F (rI CDivW fun i j => .int (i / j)) (uI CDivW fun i j => .int (i / j)) := l_I fun _ i j => .int (i / j)
theorem l_mod : LOp K F (rI (fun _ j => 0 < j) fun i j => .int (i % j)) (uI (fun _ j => 0 < j) fun i j => .int (i % j)) := l_I fun _ i j => .int (i % j)
theorem l_pow : LOp K F (rI CPow fun i j => .int (i ^ j.toNat)) (uI CPow fun i j => .int (i ^ j.toNat)) := l_I fun _ i j => .int (i ^ j.toNat)
theorem l_lt : LOp K F (rI0 fun i j => .bl (decide (i < j))) (uI0 fun i j => .bl (decide (i < j))) := l_I0 fun _ i j => .bl _
theorem l_le : LOp K F (rI0 fun i j => .bl (decide (i ≤ j))) (uI0 fun i j => .bl (decide (i ≤ j))) := l_I0 fun _ i j => .bl _
theorem l_gt : LOp K F (rI0 fun i j => .bl (decide (j < i))) (uI0 fun i j => .bl (decide (j < i))) := l_I0 fun _ i j => .bl _
theorem l_ge : LOp K F (rI0 fun i j => .bl (decide (j ≤ i))) (uI0 fun i j => .bl (decide (j ≤ i))) := l_I0 fun _ i j => .bl _
/-! ### * -/
def uMul : U2 := fun p q ε A =>
  match p, q with
  | .d (.int i), .d (.int j) => CMulW i j ∧ A (.d (.int (i * j))) ε
  | p, .d (.int j) => match seqOf p ε with
    | some (true, xs) => (0 ≤ j ∧ j ≤ 1000 ∧ xs.length ≤ 1000) ∧ A (.d (.lst (List.replicate j.toNat xs).flatten)) ε
    | some (false, xs) => (0 ≤ j ∧ j ≤ 1000 ∧ xs.length ≤ 1000 ∧ xs ≠ []) ∧ A (.d (.tup (List.replicate j.toNat xs).flatten)) ε
    | none => False
  | _, _ => False
theorem op_mulA {X : Cx} : OpR X (binaryOp .Mult) (fun x y H Q => (rI CMulW fun i j => .int (i * j)) x y H Q ∨ (rRepR x y H Q ∨ rRepA X.K x y H Q)) := OpR.or op_mulW (OpR.or op_repR op_repA)
theorem flat1 {α : Type} (xs : List α) : (List.replicate 1 xs).flatten = xs := by
  rw [List.replicate_one, List.flatten_singleton]
theorem ne_nil {Hs : Hp} {us : List V} {ds : List D} (t : RpA K Hs us ds) (h : ds ≠ []) : us ≠ [] := fun z => by
  subst z
  cases t
  exact h rfl
theorem l_mul : LOp K F (fun x y H Q => (rI CMulW fun i j => .int (i * j)) x y H Q ∨ (rRepR x y H Q ∨ rRepA K x y H Q)) uMul := by
  refine ⟨fun {fa G Hs H σ ε v1 v2 p1 p2 A Q} R r1 r2 h c => ?_⟩
  unfold uMul at h
  split at h
  · cases r1
    cases r2
    exact .inl ⟨_, _, rfl, rfl, h.1, c.now h.2 R (.int _)⟩
  · cases r2
    rename_i j _
    split at h
    · rename_i _ xs e1
      obtain ⟨⟨h0, h1, h2⟩, h⟩ := h
      obtain ⟨a, vs, rfl, t1, q1⟩ := seqOf_ok R r1 e1
      refine .inr (.inl ⟨a, j, vs, rfl, rfl, q1, by omega, by omega, ?_, fun p hp => ?_⟩)
      · rw [t1.len, sizeLine_eq]
        have : xs.length * j.toNat ≤ 1000 * 1000 := Nat.mul_le_mul h2 (by omega)
        omega
      · exact c.new h R hp (.lst (.of upd_same) ((t1.rep _).same (same_new (none_of_same R.sub hp))))
    · rename_i _ xs e1
      obtain ⟨⟨h0, h1, h2, h3⟩, h⟩ := h
      obtain ⟨a, vs, rfl, t1, q1⟩ := seqOf_ok R r1 e1
      obtain ⟨m, rfl⟩ := Int.eq_ofNat_of_zero_le h0
      refine .inr (.inr ⟨a, vs, m, rfl, rfl, q1, ne_nil t1 h3, by omega, by rw [t1.len]; exact h2, fun z => ?_, fun z p hp => ?_⟩)
      · subst z
        refine c.now h R (?_ : Rp K Hs _ _)
        rw [show ((1 : Nat) : Int).toNat = 1 from rfl, flat1]
        exact tupOf_ok R r1 e1
      · rw [Int.toNat_natCast] at h
        exact c.new h R hp (.tup (.of upd_same) ((t1.rep _).same (same_new (none_of_same R.sub hp))))
    · exact h.elim
  · exact h.elim
/-! ### == -/
def uEq (neg : Bool) : U2 := fun p q ε A =>
  match dataOf p ε, dataOf q ε with
  | some x, some y => (okC 20 x = true ∧ okC 20 y = true) ∧ A (.d (.bl (if neg = true then !eqD x y else eqD x y))) ε
  | _, _ => False
theorem l_eq : LOp K F (rEqD K) (uEq false) := by
  refine ⟨fun {fa G Hs H σ ε v1 v2 p1 p2 A Q} R r1 r2 h c => ?_⟩
  unfold uEq at h
  split at h
  · rename_i x y e1 e2
    obtain ⟨⟨h1, h2⟩, h⟩ := h
    exact ⟨_, _, rp_dp (dataOf_ok R r1 e1) (okC_ok _ _ h1).1, rp_dp (dataOf_ok R r2 e2) (okC_ok _ _ h2).1, okC_shaped h1, okC_shaped h2, c.now h R (.bl _)⟩
  · exact h.elim
theorem l_ne : LOp K F (rNeD K) (uEq true) := by
  refine ⟨fun {fa G Hs H σ ε v1 v2 p1 p2 A Q} R r1 r2 h c => ?_⟩
  unfold uEq at h
  split at h
  · rename_i x y e1 e2
    obtain ⟨⟨h1, h2⟩, h⟩ := h
    exact ⟨_, _, rp_dp (dataOf_ok R r1 e1) (okC_ok _ _ h1).1, rp_dp (dataOf_ok R r2 e2) (okC_ok _ _ h2).1, okC_shaped h1, okC_shaped h2, c.now h R (.bl _)⟩
  · exact h.elim
/-! ### is None -/
def isNon : D → Bool
  | .non => true
  | _ => false
def notRaw : D → Bool
  | .raw _ => false
  | _ => true
def uIs (neg : Bool) : U2 := fun p q ε A =>
  match p, q with
  | .d x, .d .non => notRaw x = true ∧ A (.d (.bl (if neg = true then !isNon x else isNon x))) ε
  | _, _ => False
theorem isNon_ok {Hs : Hp} {v : V} {x : D} (r : Rp K Hs v x) (h : notRaw x = true) : decide (v = .non) = isNon x := by
  cases r with
  | non => rfl
  | raw v => exact absurd h Bool.false_ne_true
  | _ => rfl
theorem l_is : LOp K F (fun x y H Q => y = .non ∧ Q (.bl (decide (x = .non))) H) (uIs false) := by
  refine ⟨fun {fa G Hs H σ ε v1 v2 p1 p2 A Q} R r1 r2 h c => ?_⟩
  unfold uIs at h
  split at h
  · cases r2
    refine ⟨rfl, ?_⟩
    rw [isNon_ok r1 h.1]
    exact c.now h.2 R (.bl _)
  · exact h.elim
theorem l_isnot : LOp K F (fun x y H Q => y = .non ∧ Q (.bl (!decide (x = .non))) H) (uIs true) := by
  refine ⟨fun {fa G Hs H σ ε v1 v2 p1 p2 A Q} R r1 r2 h c => ?_⟩
  unfold uIs at h
  split at h
  · cases r2
    refine ⟨rfl, ?_⟩
    rw [isNon_ok r1 h.1]
    exact c.now h.2 R (.bl _)
  · exact h.elim
end

/-! ### arguments, displays -/
def uNil : UA := fun ε A => A [] ε
def uCons (ue : UE) (us : UA) : UA := fun ε A => ue ε fun p ε1 => asD p ε1 fun x ε2 => us ε2 fun xs ε3 => A (x :: xs) ε3
section
variable {X : Cx} {F : Fd} {e : Expr} {es : List Expr} {ue : UE} {us : UA} {pos : Pos}
theorem qa_nil : QA X F [] uNil := ⟨tNil, pa_nil, fun R h c => c [] _ [] _ _ h rfl R (Same.refl _) .nil⟩
theorem qa_cons (he : QE X F e ue) (hs : QA X F es us) (hst : starEach (e :: es) X.env = (false, eval e X.env) :: starEach es X.env := by rfl) : QA X F (e :: es) (uCons ue us) := by
  obtain ⟨t, p, s⟩ := he.ex
  obtain ⟨t2, p2, s2⟩ := hs.ex
  refine ⟨_, pa_cons p p2 hst, fun R h c => s R h fun p ε1 v H1 Hs1 h1 R1 e1 r1 => ?_⟩
  obtain ⟨Hs2, ε2, x, e2, R2, rx, h2⟩ := asD_ok R1 r1 h1
  refine s2 R2 h2 fun xs ε3 vs H3 Hs3 h3 l3 R3 e3 r3 => ?_
  exact c (x :: xs) ε3 (v :: vs) H3 Hs3 h3 (by rw [List.length_cons, List.length_cons, l3]) R3 ((e1.trans e2).trans e3) (.cons (rx.same e3) r3)
def uTup (us : UA) : UE := fun ε A => us ε fun xs ε1 => A (.d (.tup xs)) ε1
theorem q_tup {k : Nat} (h : QA X F es us) (hl : es.length ≤ 1000 := by decide) : QE X F (.Tuple es k pos) (uTup us) := by
  obtain ⟨t, p, s⟩ := h.ex
  refine ⟨_, pe_tup p, fun R h c => s R h fun xs ε1 vs H1 Hs1 h1 l1 R1 e1 r1 => ⟨?_, fun q hq => ?_⟩⟩
  · rw [r1.len, l1]
    exact Nat.le_of_lt (small1000 hl)
  · exact (c.after e1).new h1 R1 hq (.tup (.of upd_same) (r1.same (same_new (none_of_same R1.sub hq))))
end

/-! ### new lists -/
section
variable (K : PySem.W.Frag) (F : Fd) (fa : Option Addr) (G Hs : Hp) (σ : L2.St)
def Cn (A : List D → En → Prop) (Q : VK) : Prop := ∀ ds ε a vs H Hs', A ds ε → RepE K F fa G Hs' H σ ε → Same Hs Hs' → Hs' a = none → G a = none → fa ≠ some a → (∀ (j : Nat) (oj : Option Addr) (dj : List D), ε.sl[j]? = some (.ow oj dj) → σ[j]? ≠ some (some (.ref a))) → H a = some (.lst vs) → RpA K Hs' vs ds → Q (.ref a) H
end
structure QN (X : Cx) (F : Fd) (e : Expr) (u : UA) : Prop where
  ex : ∃ t : TE, PE X e t ∧ ∀ {fa : Option Addr} {G Hs H : Hp} {σ : L2.St} {ε : En} {A : List D → En → Prop} {Q : VK}, RepE X.K F fa G Hs H σ ε → u ε A → Cn X.K F fa G Hs σ A Q → t σ H Q
section
variable {K : PySem.W.Frag} {F : Fd} {fa : Option Addr} {G Hs H Hs' H' : Hp} {σ : L2.St} {ε : En}
theorem Cn.after {A : List D → En → Prop} {Q : VK} (c : Cn K F fa G Hs σ A Q) (s : Same Hs Hs') : Cn K F fa G Hs' σ A Q := fun ds ε a vs H Hs2 h R s2 => c ds ε a vs H Hs2 h R (s.trans s2)
theorem Cn.new {A : List D → En → Prop} {Q : VK} (c : Cn K F fa G Hs σ A Q) {ds : List D} {a : Addr} {vs : List V} (h : A ds ε) (R : RepE K F fa G Hs H σ ε) (ha : H a = none) (r : RpA K Hs vs ds) : Q (.ref a) (upd H a (.lst vs)) := by
  have R1 := R.new (o := .lst vs) ha
  have hs : Hs a = none := none_of_same R.sub ha
  have hg : G a = none := by
    cases z : G a with
    | none => rfl
    | some o =>
      have := (R.grd a o z).1
      rw [ha] at this
      cases this
  have hf : fa ≠ some a := fun z => by
    obtain ⟨_, _, o, h3, _⟩ := R.fd a z
    rw [ha] at h3
    cases h3
  have ho : ∀ (j : Nat) (oj : Option Addr) (dj : List D), ε.sl[j]? = some (.ow oj dj) → σ[j]? ≠ some (some (.ref a)) := fun j oj dj e z => by
    obtain ⟨b, us, q1, _, _, _, q5, _⟩ := R.ow j oj dj e
    rw [z] at q1
    cases q1
    rw [ha] at q5
    cases q5
  refine c ds ε a vs _ Hs h ?_ (Same.refl _) hs hg hf ho upd_same r
  refine R.move (B := ε.fs) (Same.refl _) (R.sub.trans (same_new ha)) (fun b o e _ => ?_) (fun b z => .inl z) fun d e => ?_
  · rw [upd_ne (ne_of_none e ha)]
    exact e
  · obtain ⟨h1, h2, o, h3, h4⟩ := R.fd d e
    refine ⟨o, ?_, h4⟩
    rw [upd_ne (ne_of_none h3 ha)]
    exact h3
/-- an object that nobody holds, given to all -/
theorem RepE.adopt (R : RepE K F fa G Hs H σ ε) {a : Addr} {o : HO} (h1 : Hs a = none) (h2 : G a = none) (h3 : fa ≠ some a) (h4 : ∀ (j : Nat) (oj : Option Addr) (dj : List D), ε.sl[j]? = some (.ow oj dj) → σ[j]? ≠ some (some (.ref a))) (h5 : H a = some o) :
    RepE K F fa G (upd Hs a o) H σ ε := by
  have s1 : Same Hs (upd Hs a o) := same_new h1
  refine ⟨fun b u q => ?_, fun b u q => ?_, fun d q => ?_, R.len, fun j d q => ?_, fun j oj dj q => ?_, R.fdS, R.inj⟩
  · by_cases hb : b = a
    · subst hb
      rw [upd_same] at q
      rw [h5, q]
    · rw [upd_ne hb] at q
      exact R.sub b u q
  · obtain ⟨q1, q2⟩ := R.grd b u q
    refine ⟨q1, ?_⟩
    rw [upd_ne (fun z => by subst z; rw [h2] at q; cases q)]
    exact q2
  · obtain ⟨q1, q2, u, q3, q4⟩ := R.fd d q
    refine ⟨?_, q2, u, q3, F.mono s1 q4⟩
    rw [upd_ne (fun z => by subst z; exact h3 q)]
    exact q1
  · obtain ⟨v, q1, q2⟩ := R.sh j d q
    exact ⟨v, q1, q2.same s1⟩
  · obtain ⟨b, us, q1, q2, q3, q4, q5, q6, q8⟩ := R.ow j oj dj q
    refine ⟨b, us, q1, ?_, q3, q4, q5, q6.same s1, q8⟩
    rw [upd_ne (fun z => by subst z; exact h4 j oj dj q q1)]
    exact q2
end
def uN (u : UA) : UE := fun ε A => u ε fun ds ε1 => A (.d (.lst ds)) ε1
section
variable {X : Cx} {F : Fd} {e : Expr} {es : List Expr} {u us : UA} {ua ub : UE} {pos : Pos}
theorem q_n (h : QN X F e u) : QE X F e (uN u) := by
  obtain ⟨t, p, s⟩ := h.ex
  refine ⟨t, p, fun R h c => s R h fun ds ε1 a vs H1 Hs1 h1 R1 e1 g1 g2 g3 g4 g5 r1 => ?_⟩
  have s1 : Same Hs1 (upd Hs1 a (.lst vs)) := same_new g1
  exact c (.d (.lst ds)) ε1 _ _ _ h1 (R1.adopt g1 g2 g3 g4 g5) (e1.trans s1) (.lst (.of upd_same) (r1.same s1))
theorem qn_lst (h : QA X F es us) (hl : es.length ≤ 1000 := by decide) : QN X F (.List es pos) us := by
  obtain ⟨t, p, s⟩ := h.ex
  refine ⟨_, pe_lst p, fun R h c => s R h fun xs ε1 vs H1 Hs1 h1 l1 R1 e1 r1 => ⟨?_, fun q hq => ?_⟩⟩
  · rw [r1.len, l1]
    exact Nat.le_of_lt (small1000 hl)
  · exact (c.after e1).new h1 R1 hq r1
/-- list + list, list * n, as new lists -/
def uCatN (ua ub : UE) : UA := fun ε A => ua ε fun p ε1 => ub ε1 fun q ε2 => match seqOf p ε2, seqOf q ε2 with | some (true, xs), some (true, ys) => xs.length + ys.length ≤ 1000000 ∧ A (xs ++ ys) ε2 | _, _ => False
theorem qn_cat {a b : Expr} (ha : QE X F a ua) (hb : QE X F b ub) : QN X F (.BinOp a .Add b pos) (uCatN ua ub) := by
  obtain ⟨ta, pa, sa⟩ := ha.ex
  obtain ⟨tb, pb, sb⟩ := hb.ex
  refine ⟨_, pe_op op_catR pa pb, fun R h c => ?_⟩
  refine sa R h fun p ε1 x H1 Hs1 h1 R1 s1 r1 => ?_
  refine sb R1 h1 fun q ε2 y H2 Hs2 h2 R2 s2 r2 => ?_
  split at h2
  · rename_i _ _ xs ys e1 e2
    obtain ⟨a, vs, rfl, t1, q1⟩ := seqOf_ok R2 (r1.same s2) e1
    obtain ⟨b, us, rfl, t2, q2⟩ := seqOf_ok R2 r2 e2
    refine ⟨a, b, vs, us, rfl, rfl, q1, q2, ?_, fun p hp => (c.after (s1.trans s2)).new h2.2 R2 hp (t1.append t2)⟩
    rw [t1.len, t2.len]
    exact le_line h2.1
  · exact h2.elim
def uRepN (ua ub : UE) : UA := fun ε A => ua ε fun p ε1 => ub ε1 fun q ε2 => match seqOf p ε2, q with | some (true, xs), .d (.int j) => (0 ≤ j ∧ j ≤ 1000 ∧ xs.length ≤ 1000) ∧ A (List.replicate j.toNat xs).flatten ε2 | _, _ => False
theorem qn_rep {a b : Expr} (ha : QE X F a ua) (hb : QE X F b ub) : QN X F (.BinOp a .Mult b pos) (uRepN ua ub) := by
  obtain ⟨ta, pa, sa⟩ := ha.ex
  obtain ⟨tb, pb, sb⟩ := hb.ex
  refine ⟨_, pe_op op_repR pa pb, fun R h c => ?_⟩
  refine sa R h fun p ε1 x H1 Hs1 h1 R1 s1 r1 => ?_
  refine sb R1 h1 fun q ε2 y H2 Hs2 h2 R2 s2 r2 => ?_
  split at h2
  · rename_i _ xs j e1
    obtain ⟨⟨g0, g1, g2⟩, h2⟩ := h2
    obtain ⟨a, vs, rfl, t1, q1⟩ := seqOf_ok R2 (r1.same s2) e1
    cases r2
    refine ⟨a, j, vs, rfl, rfl, q1, by omega, by omega, ?_, fun p hp => (c.after (s1.trans s2)).new h2 R2 hp (t1.rep _)⟩
    rw [t1.len, sizeLine_eq]
    have : xs.length * j.toNat ≤ 1000 * 1000 := Nat.mul_le_mul g2 (by omega)
    omega
  · exact h2.elim
end

/-! ### subscripts -/
theorem atI_rp {K : PySem.W.Frag} {Hs : Hp} {vs : List V} {ds : List D} {k : Int} {x : D} (t : RpA K Hs vs ds) (h : atI ds k = some x) : ∃ v, atI vs k = some v ∧ Rp K Hs v x := by
  unfold atI at h ⊢
  rw [t.len]
  cases z : ixN ds.length k with
  | none => rw [z] at h; cases h
  | some j =>
    rw [z] at h
    exact t.get h
def uIx : U2 := fun p q ε A =>
  match q with
  | .d (.int k) => match p with
    | .d (.str z) => ∃ c, (z.length ≤ 1000000 ∧ atI z.cps.toList k = some c) ∧ A (.d (.str ⟨#[c]⟩)) ε
    | p => match seqOf p ε with
      | some (_, ds) => ∃ x, atI ds k = some x ∧ A (.d x) ε
      | none => False
  | _ => False
section
variable {X : Cx} {F : Fd} {a b : Expr} {ua ub : UE} {pos : Pos}
theorem l_ix {K : PySem.W.Frag} : LOp K F (rIx K) uIx := by
  refine ⟨fun {fa G Hs H σ ε v1 v2 p1 p2 A Q} R r1 r2 h c => ?_⟩
  unfold uIx at h
  split at h
  · cases r2
    rename_i k
    split at h
    · cases r1
      obtain ⟨ch, ⟨h1, h2⟩, h⟩ := h
      exact .inr (.inr ⟨_, k, ch, rfl, rfl, le_line h1, h2, c.now h R (.str _)⟩)
    · split at h
      · rename_i b ds e
        obtain ⟨x, hx, h⟩ := h
        obtain ⟨a, vs, rfl, t1, q1⟩ := seqOf_ok R r1 e
        obtain ⟨v, hv, rv⟩ := atI_rp t1 hx
        cases b with
        | true => exact .inl ⟨a, vs, k, v, rfl, rfl, .inl q1, hv, c.now h R rv⟩
        | false => exact .inr (.inl ⟨a, vs, k, v, rfl, rfl, q1, hv, c.now h R rv⟩)
      · exact h.elim
  · exact h.elim
theorem q_ix (ha : QE X F a ua) (hb : QE X F b ub) (hs : PlainIx b) : QE X F (.Subscript a b pos) (uOp uIx ua ub) := by
  obtain ⟨ta, pa, sa⟩ := ha.ex
  obtain ⟨tb, pb, sb⟩ := hb.ex
  exact ⟨_, pe_ix ix_seq pa pb hs, fun R h c => opT l_ix sa sb R h c⟩
/-! ### slices -/
abbrev UO := En → (Option Int → En → Prop) → Prop
structure QO (X : Cx) (F : Fd) (e : Option Expr) (u : UO) : Prop where
  ex : ∃ t : TO, PO X e t ∧ ∀ {fa : Option Addr} {G Hs H : Hp} {σ : L2.St} {ε : En} {A : Option Int → En → Prop} {Q : Option Int → Hp → Prop}, RepE X.K F fa G Hs H σ ε → u ε A → (∀ o ε' H' Hs', A o ε' → RepE X.K F fa G Hs' H' σ ε' → Same Hs Hs' → Q o H') → t σ H Q
def uNo : UO := fun ε A => A none ε
def uSo (u : UE) : UO := fun ε A => u ε fun p ε1 => match p with | .d (.int i) => A (some i) ε1 | _ => False
theorem qo_none : QO X F none uNo := ⟨_, po_none, fun R h c => c none _ _ _ h R (Same.refl _)⟩
theorem qo_some {e : Expr} {u : UE} (h : QE X F e u) : QO X F (some e) (uSo u) := by
  obtain ⟨t, p, s⟩ := h.ex
  refine ⟨_, po_some p, fun R h c => s R h fun p ε1 v H1 Hs1 h1 R1 e1 r1 => ?_⟩
  split at h1
  · cases r1
    exact ⟨_, rfl, c _ ε1 H1 Hs1 h1 R1 e1⟩
  · exact h1.elim
def cutA {α : Type} (xs : List α) (lo hi : Option Int) : List α := (xs.drop (HT.sIx xs.length 0 lo)).take (HT.sIx xs.length xs.length hi - HT.sIx xs.length 0 lo)
theorem cut_rp {K : PySem.W.Frag} {Hs : Hp} {vs : List V} {ds : List D} (t : RpA K Hs vs ds) (lo hi : Option Int) : RpA K Hs (cutV vs lo hi) (cutA ds lo hi) := by
  unfold cutV cutA
  rw [t.len]
  exact (t.drop _).take _
theorem cut_whole {α : Type} {xs : List α} {lo hi : Option Int} (h : HT.sIx xs.length 0 lo = 0 ∧ HT.sIx xs.length xs.length hi = xs.length) : cutA xs lo hi = xs := by
  unfold cutA
  rw [h.1, h.2, List.drop_zero, Nat.sub_zero, List.take_length]
def uSl (ue : UE) (ul uh : UO) : UE := fun ε A => ue ε fun p ε1 => ul ε1 fun l ε2 => uh ε2 fun h ε3 => match p with
  | .d (.scr ns) => A (.d (.lst ((cutA ns l h).map D.int))) ε3
  | p => match seqOf p ε3 with
    | some (true, ds) => A (.d (.lst (cutA ds l h))) ε3
    | some (false, ds) => A (.d (.tup (cutA ds l h))) ε3
    | none => False
theorem cutA_map {α β : Type} (f : α → β) (xs : List α) (l h : Option Int) : cutA (xs.map f) l h = (cutA xs l h).map f := by
  unfold cutA
  rw [List.length_map, List.map_take, List.map_drop]
theorem cutV_map (xs : List Int) (l h : Option Int) : cutV (xs.map V.int) l h = (cutA xs l h).map V.int := cutA_map V.int xs l h
theorem q_slice {e : Expr} {lo hi : Option Expr} {ue : UE} {ul uh : UO} {p2 : Pos} (he : QE X F e ue) (hl : QO X F lo ul) (hh : QO X F hi uh) : QE X F (.Subscript e (.Slice lo hi none p2) pos) (uSl ue ul uh) := by
  obtain ⟨t, p, s⟩ := he.ex
  obtain ⟨tl, pl, sl⟩ := hl.ex
  obtain ⟨th, ph, sh⟩ := hh.ex
  refine ⟨_, pe_slice (SlR.or sl_list sl_tupA) p pl ph, fun R h c => s R h fun p ε1 v H1 Hs1 h1 R1 s1 r1 => sl R1 h1 fun l ε2 H2 Hs2 h2 R2 s2 => sh R2 h2 fun u ε3 H3 Hs3 h3 R3 s3 => ?_⟩
  have r3 := (r1.same s2).same s3
  have c3 := c.after ((s1.trans s2).trans s3)
  split at h3
  · cases r3 with
    | scr hs =>
      rename_i ns _ a
      refine .inl ⟨a, _, rfl, R3.sub.seq hs, fun q hq => ?_⟩
      rw [cutV_map]
      exact c3.new h3 R3 hq (.lst (.of upd_same) (rpa_ints _))
  · split at h3
    · rename_i ds e1
      obtain ⟨a, vs, rfl, t1, q1⟩ := seqOf_ok R3 r3 e1
      exact .inl ⟨a, vs, rfl, .inl q1, fun q hq => c3.new h3 R3 hq (.lst (.of upd_same) ((cut_rp t1 l u).same (same_new (none_of_same R3.sub hq))))⟩
    · rename_i ds e1
      obtain ⟨a, vs, rfl, t1, q1⟩ := seqOf_ok R3 r3 e1
      refine .inr ⟨a, vs, rfl, q1, fun z => ?_, fun _ q hq => c3.new h3 R3 hq (.tup (.of upd_same) ((cut_rp t1 l u).same (same_new (none_of_same R3.sub hq))))⟩
      refine c3.now h3 R3 (?_ : Rp X.K Hs3 _ _)
      rw [t1.len] at z
      rw [cut_whole z]
      exact tupOf_ok R3 r3 e1
    · exact h3.elim
end
end Pu

set_option Elab.async false
set_option linter.all false
set_option maxRecDepth 100000
set_option maxHeartbeats 4000000
/-! Built-ins read without the heap. -/
namespace Pu
open PySem PySem.Spec PyProof.Rows L2 Gd
abbrev U1 := PV → En → (PV → En → Prop) → Prop
structure L1 (K : PySem.W.Frag) (F : Fd) (r : List V → Hp → VK → Prop) (u1 : U1) : Prop where
  go : ∀ {fa : Option Addr} {G Hs H : Hp} {σ : L2.St} {ε : En} {v : V} {p : PV} {A : PV → En → Prop} {Q : VK}, RepE K F fa G Hs H σ ε → RpV K Hs σ v p → u1 p ε A → Ck K F fa G Hs σ A Q → r [v] H Q
structure LT (K : PySem.W.Frag) (F : Fd) (r : List V → Hp → VK → Prop) (u2 : U2) : Prop where
  go : ∀ {fa : Option Addr} {G Hs H : Hp} {σ : L2.St} {ε : En} {v1 v2 : V} {p1 p2 : PV} {A : PV → En → Prop} {Q : VK}, RepE K F fa G Hs H σ ε → RpV K Hs σ v1 p1 → RpV K Hs σ v2 p2 → u2 p1 p2 ε A → Ck K F fa G Hs σ A Q → r [v1, v2] H Q
def uOne (u1 : U1) (ua : UE) : UE := fun ε A => ua ε fun p ε1 => u1 p ε1 A
section
variable {X : Cx} {F : Fd} {e a b : Expr} {ua ub : UE} {r : List V → Hp → VK → Prop} {u1 : U1} {u2 : U2}
theorem q_b1 (pe : ∀ {te : TE}, PE X a te → PE X e (tCB r (tCons te tNil))) (L : L1 X.K F r u1) (ha : QE X F a ua) : QE X F e (uOne u1 ua) := by
  obtain ⟨t, p, s⟩ := ha.ex
  exact ⟨_, pe p, fun R h c => s R h fun p ε1 v H1 Hs1 h1 R1 s1 r1 => L.go R1 r1 h1 (c.after s1)⟩
theorem q_b2 (pe : ∀ {ta tb : TE}, PE X a ta → PE X b tb → PE X e (tCB r (tCons ta (tCons tb tNil)))) (L : LT X.K F r u2) (ha : QE X F a ua) (hb : QE X F b ub) : QE X F e (uOp u2 ua ub) := by
  obtain ⟨ta, pa, sa⟩ := ha.ex
  obtain ⟨tb, pb, sb⟩ := hb.ex
  refine ⟨_, pe pa pb, fun R h c => sa R h fun p ε1 x H1 Hs1 h1 R1 s1 r1 => sb R1 h1 fun q ε2 y H2 Hs2 h2 R2 s2 r2 => ?_⟩
  exact L.go R2 (r1.same s2) r2 h2 (c.after (s1.trans s2))
end
section
variable {K : PySem.W.Frag} {F : Fd}
theorem b_or {X : Cx} {f : Value} {r r' : List V → Hp → VK → Prop} (h : CallR X f r) (h' : CallR X f r') : CallR X f (fun xs H Q => r xs H Q ∨ r' xs H Q) := by
  intro pins s σ H xs us Q I rx q
  rcases q with q | q
  · exact h pins s σ H xs us Q I rx q
  · exact h' pins s σ H xs us Q I rx q
def uLen : U1 := fun p ε A =>
  match p with
  | .d (.str z) => z.length ≤ 1000000 ∧ A (.d (.int z.length)) ε
  | p => match seqOf p ε with
    | some (_, ds) => A (.d (.int ds.length)) ε
    | none => False
theorem l_len : L1 K F (fun xs H Q => ∃ x n, xs = [x] ∧ LenV K x H n ∧ Q (.int n) H) uLen := by
  refine ⟨fun {fa G Hs H σ ε v p A Q} R r h c => ?_⟩
  unfold uLen at h
  split at h
  · cases r
    exact ⟨_, _, rfl, ⟨le_line h.1, rfl⟩, c.now h.2 R (.int _)⟩
  · split at h
    · rename_i b ds e
      obtain ⟨a, vs, rfl, t1, q1⟩ := seqOf_ok R r e
      refine ⟨.ref a, vs.length, rfl, ?_, ?_⟩
      · cases b with
        | true => exact .inl ⟨vs, .inl q1, rfl⟩
        | false => exact .inr ⟨vs, q1, rfl⟩
      · rw [t1.len]
        exact c.now h R (.int _)
    · exact h.elim
def uInt1 (g : Int → Int) : U1 := fun p ε A =>
  match p with
  | .d (.int i) => A (.d (.int (g i))) ε
  | _ => False
theorem l_abs : L1 K F (fun xs H Q => ∃ i, xs = [.int i] ∧ Q (.int (if i < 0 then -i else i)) H) (uInt1 fun i => if i < 0 then -i else i) := by
  refine ⟨fun {fa G Hs H σ ε v p A Q} R r h c => ?_⟩
  unfold uInt1 at h
  split at h
  · cases r
    exact ⟨_, rfl, c.now h R (.int _)⟩
  · exact h.elim
def b2n (k : Bool) : Int := if k then 1 else 0
def uInt : U1 := fun p ε A =>
  match p with
  | .d (.int i) => A (.d (.int i)) ε
  | .d (.bl k) => A (.d (.int (b2n k))) ε
  | _ => False
theorem l_int : L1 K F (fun xs H Q => (∃ i, xs = [.int i] ∧ Q (.int i) H) ∨ ∃ k, xs = [.bl k] ∧ Q (.int (if k then 1 else 0)) H) uInt := by
  refine ⟨fun {fa G Hs H σ ε v p A Q} R r h c => ?_⟩
  unfold uInt at h
  split at h
  · cases r
    exact .inl ⟨_, rfl, c.now h R (.int _)⟩
  · cases r
    exact .inr ⟨_, rfl, c.now h R (.int _)⟩
  · exact h.elim
def uSum : U1 := fun p ε A =>
  match seqOf p ε with
  | some (_, ds) => ∃ ns : List Int, ds = ns.map D.int ∧ A (.d (.int ns.sum)) ε
  | none => False
theorem l_sum : L1 K F (fun xs H Q => rSum K xs H Q ∨ rSumT K xs H Q) uSum := by
  refine ⟨fun {fa G Hs H σ ε v p A Q} R r h c => ?_⟩
  unfold uSum at h
  split at h
  · rename_i b ds e
    obtain ⟨ns, rfl, h⟩ := h
    obtain ⟨a, vs, rfl, t1, q1⟩ := seqOf_ok R r e
    have := t1.ints
    subst this
    cases b with
    | true => exact .inl ⟨a, ns, rfl, .inl q1, c.now h R (.int _)⟩
    | false => exact .inr ⟨a, ns, rfl, q1, c.now h R (.int _)⟩
  · exact h.elim
theorem b_sum {X : Cx} (hc : X.calm = true) : CallR X (.builtin "sum") (fun xs H Q => rSum X.K xs H Q ∨ rSumT X.K xs H Q) := b_or (cr_sum hc) (cr_sumT hc)
/-- max, min of a list of whole numbers -/
def uMax (up : Bool) : U1 := fun p ε A =>
  match seqOf p ε with
  | some (true, ds) => ∃ ns : List Int, (ds = ns.map D.int ∧ 0 < ns.length) ∧ ∀ m, m ∈ ns → (∀ y, y ∈ ns → if up = true then y ≤ m else m ≤ y) → A (.d (.int m)) ε
  | _ => False
theorem l_max : L1 K F (rMax K) (uMax true) := by
  refine ⟨fun {fa G Hs H σ ε v p A Q} R r h c => ?_⟩
  unfold uMax at h
  split at h
  · rename_i ds e
    obtain ⟨ns, ⟨rfl, hn⟩, h⟩ := h
    obtain ⟨a, vs, rfl, t1, q1⟩ := seqOf_ok R r e
    have := t1.ints
    subst this
    exact ⟨a, ns, rfl, .inl q1, hn, fun m hm hy => c.now (h m hm hy) R (.int _)⟩
  · exact h.elim
theorem l_min : L1 K F (rMin K) (uMax false) := by
  refine ⟨fun {fa G Hs H σ ε v p A Q} R r h c => ?_⟩
  unfold uMax at h
  split at h
  · rename_i ds e
    obtain ⟨ns, ⟨rfl, hn⟩, h⟩ := h
    obtain ⟨a, vs, rfl, t1, q1⟩ := seqOf_ok R r e
    have := t1.ints
    subst this
    exact ⟨a, ns, rfl, .inl q1, hn, fun m hm hy => c.now (h m hm (fun y z => by simpa using hy y z)) R (.int _)⟩
  · exact h.elim
def uAll (all : Bool) : U1 := fun p ε A =>
  match seqOf p ε with
  | some (true, ds) => ∃ bs : List Bool, ds = bs.map D.bl ∧ A (.d (.bl (if all = true then bs.all id else bs.any id))) ε
  | _ => False
theorem l_all : L1 K F (rAll K) (uAll true) := by
  refine ⟨fun {fa G Hs H σ ε v p A Q} R r h c => ?_⟩
  unfold uAll at h
  split at h
  · rename_i ds e
    obtain ⟨bs, rfl, h⟩ := h
    obtain ⟨a, vs, rfl, t1, q1⟩ := seqOf_ok R r e
    have := t1.bls
    subst this
    exact ⟨a, bs, rfl, .inl q1, c.now h R (.bl _)⟩
  · exact h.elim
theorem l_any : L1 K F (rAny K) (uAll false) := by
  refine ⟨fun {fa G Hs H σ ε v p A Q} R r h c => ?_⟩
  unfold uAll at h
  split at h
  · rename_i ds e
    obtain ⟨bs, rfl, h⟩ := h
    obtain ⟨a, vs, rfl, t1, q1⟩ := seqOf_ok R r e
    have := t1.bls
    subst this
    exact ⟨a, bs, rfl, .inl q1, c.now h R (.bl _)⟩
  · exact h.elim
def uMin2 (g : Int → Int → Int) : U2 := uI0 fun i j => .int (g i j)
theorem l_min2 : LT K F (fun xs H Q => ∃ i j, xs = [.int i, .int j] ∧ Q (.int (if j < i then j else i)) H) (uI0 fun i j => .int (if j < i then j else i)) := by
  refine ⟨fun {fa G Hs H σ ε v1 v2 p1 p2 A Q} R r1 r2 h c => ?_⟩
  unfold uI0 at h
  split at h
  · cases r1
    cases r2
    exact ⟨_, _, rfl, c.now h R (.int _)⟩
  · exact h.elim
theorem l_max2 : LT K F (fun xs H Q => ∃ i j, xs = [.int i, .int j] ∧ Q (.int (if j > i then j else i)) H) (uI0 fun i j => .int (if j > i then j else i)) := by
  refine ⟨fun {fa G Hs H σ ε v1 v2 p1 p2 A Q} R r1 r2 h c => ?_⟩
  unfold uI0 at h
  split at h
  · cases r1
    cases r2
    exact ⟨_, _, rfl, c.now h R (.int _)⟩
  · exact h.elim
/-! ### isinstance -/
def tyN : D → Option String
  | .non => some "NoneType"
  | .bl _ => some "bool"
  | .int _ => some "int"
  | .str _ => some "str"
  | .lst _ => some "list"
  | .tup _ => some "tuple"
  | _ => none
theorem tyN_ok {H : Hp} {v : V} {d : D} {n : String} (h : Rp K H v d) (e : tyN d = some n) : TyX K H v (.type n) := by
  cases h with
  | non => cases e; exact .base .non
  | bl b => cases e; exact .base (.bl b)
  | int i => cases e; exact .base (.int i)
  | str x => cases e; exact .base (.str x)
  | raw v => cases e
  | scr h => cases e
  | ins h1 h2 h3 t => cases e
  | dcT h1 h2 t => cases e
  | dcK h1 h2 t => cases e
  | lst h t =>
    cases e
    rcases h with h | ⟨o, h⟩
    · exact .base (.lst h)
    · exact .base (.frz h)
  | tup h t =>
    cases e
    rcases h with (h | ⟨o, h⟩) | ⟨o, its, n, l, c, _⟩
    · exact .base (.tup h)
    · exact .fTuple h
    · exact .kTuple l c
def isTy (d : D) (n : String) : Option Bool := match tyN d with
  | some m => kitB m n
  | none => none
def uIsi : U2 := fun p q ε A =>
  match dataOf p ε, q with
  | some d, .d (.raw (.ty n)) => match isTy d n with
    | some b => A (.d (.bl b)) ε
    | none => False
  | _, _ => False
theorem l_isi : LT K F (rIsi K) uIsi := by
  refine ⟨fun {fa G Hs H σ ε v1 v2 p1 p2 A Q} R r1 r2 h c => ?_⟩
  unfold uIsi at h
  split at h
  · rename_i d n e
    cases r2
    split at h
    · rename_i b hb
      unfold isTy at hb
      split at hb
      · rename_i m hm
        exact ⟨v1, .ty n, _, _, b, rfl, .ty n, tyN_ok (dataOf_ok R r1 e) hm, kit_ty hb, c.now h R (.bl _)⟩
      · cases hb
    · exact h.elim
  · exact h.elim
theorem isTy_int_int (i : Int) : isTy (.int i) "int" = some true := by show kitB "int" "int" = some true; decide +kernel
theorem isTy_int_bool (i : Int) : isTy (.int i) "bool" = some false := by show kitB "int" "bool" = some false; decide +kernel
theorem isTy_int_tuple (i : Int) : isTy (.int i) "tuple" = some false := by show kitB "int" "tuple" = some false; decide +kernel
theorem isTy_tup_tuple (ds : List D) : isTy (.tup ds) "tuple" = some true := by show kitB "tuple" "tuple" = some true; decide +kernel
theorem isTy_tup_int (ds : List D) : isTy (.tup ds) "int" = some false := by show kitB "tuple" "int" = some false; decide +kernel
theorem isTy_str_str (x : Str) : isTy (.str x) "str" = some true := by show kitB "str" "str" = some true; decide +kernel
theorem isTy_bl_int (b : Bool) : isTy (.bl b) "int" = some true := by show kitB "bool" "int" = some true; decide +kernel
theorem isTy_bl_bool (b : Bool) : isTy (.bl b) "bool" = some true := by show kitB "bool" "bool" = some true; decide +kernel
/-! ### repr -/
/-- what repr takes -/
structure OkRp (d : D) : Prop where
  pl : d.plain = true
  ok : ∃ n, n ≤ 16000000 ∧ OkD d.py n
def uRepr : U1 := fun p ε A =>
  match dataOf p ε with
  | some d => OkRp d ∧ A (.d (.str d.py.shown)) ε
  | none => False
def rReprV (K : PySem.W.Frag) : List V → Hp → VK → Prop := fun xs H Q => ∃ (v : V) (d : PyData), xs = [v] ∧ Dp K H v d ∧ d.showable = true ∧ d.hasDict = false ∧ d.depth ≤ 20 ∧ d.shown.length ≤ sizeLine ∧ Q (.str d.shown) H
theorem l_repr : L1 K F (rReprV K) uRepr := by
  refine ⟨fun {fa G Hs H σ ε v p A Q} R r h c => ?_⟩
  unfold uRepr at h
  split at h
  · rename_i d e
    obtain ⟨⟨h1, n, h2, h3⟩, h⟩ := h
    exact ⟨v, d.py, rfl, rp_dp (dataOf_ok R r e) h1, h3.sh, h3.nd, h3.dp, h3.len (by rw [sizeLine_eq]; omega), c.now h R (.str _)⟩
  · exact h.elim
end
theorem b_repr {X : Cx} {k : Nat} (hr : Room k X.A) (hG : X.A.guards = some []) : CallR X (.builtin "repr") (rReprV X.K) := by
  intro pins s σ H xs us Q I r h
  obtain ⟨v, d, rfl, hd, hs, hn, hdep, hz, q⟩ := h
  obtain ⟨u, rfl, ru⟩ := vals1 r
  cases hd with
  | non =>
    cases ru
    refine PySem.P.repr_of_none ⟨.str _, H, I.tok _, ⟨_, rfl⟩, ?_⟩
    simpa only [PyData.shown] using q
  | bl b =>
    cases ru
    refine PySem.P.repr_of_bool ⟨.str _, H, I.tok _, ⟨_, rfl⟩, ?_⟩
    simpa only [PyData.shown] using q
  | int i =>
    obtain ⟨t, rfl⟩ := ru
    refine PySem.P.repr_of_int (by simpa [PyData.showable] using hs) ⟨.str _, H, I.tok _, ⟨_, rfl⟩, ?_⟩
    simpa only [PyData.shown] using q
  | str x =>
    obtain ⟨t, rfl⟩ := ru
    refine PySem.P.repr_of_str ⟨.str _, H, I.tok _, ⟨_, rfl⟩, ?_⟩ ?_
    · simpa only [PyData.shown] using q
    · simpa only [PyData.shown] using hz
  | lst h1 h2 => exact call_repr hr hG pins s σ H _ _ Q I r ⟨_, _, rfl, .lst h1 h2, hs, hn, hdep, hz, q⟩
  | tup h1 h2 => exact call_repr hr hG pins s σ H _ _ Q I r ⟨_, _, rfl, .tup h1 h2, hs, hn, hdep, hz, q⟩
section
variable {X : Cx} {F : Fd} {e a : Expr} {ua ub : UE} {pos : Pos}
/-! ### tuple(x), list(x) -/
def uTupOf (ua : UE) : UE := fun ε A => ua ε fun p ε1 => match seqOf p ε1 with
  | some (_, ds) => A (.d (.tup ds)) ε1
  | none => False
theorem q_tupOf {p : Pos} (hg : Gl X "tuple") (hm : X.mg "tuple" = none) (ha : QE X F a ua) (na : starEach [a] X.env = (false, eval a X.env) :: starEach [] X.env := by rfl) : QE X F (.Call (.Name "tuple" p) [a] [] pos) (uTupOf ua) := by
  obtain ⟨t, pa, s⟩ := ha.ex
  refine ⟨_, pe_tupleOf hg hm pa na, fun R h c => s R h fun p ε1 v H1 Hs1 h1 R1 s1 r1 => ?_⟩
  split at h1
  · rename_i b ds e
    obtain ⟨q, vs, rfl, t1, q1⟩ := seqOf_ok R1 r1 e
    cases b with
    | true => exact .inl ⟨q, vs, rfl, .inl q1, fun z hz => (c.after s1).new h1 R1 hz (.tup (.of upd_same) (t1.same (same_new (none_of_same R1.sub hz))))⟩
    | false => exact .inr ⟨q, vs, rfl, q1, (c.after s1).now h1 R1 (tupOf_ok R1 r1 e)⟩
  · exact h1.elim
def uLstOf (ua : UE) : UA := fun ε A => ua ε fun p ε1 => match seqOf p ε1 with
  | some (_, ds) => A ds ε1
  | none => False
theorem qn_lstOf (pe : ∀ {te : TE}, PE X a te → PE X e (tCB (fun xs H Q => ∃ p ys, xs = [.ref p] ∧ (SqL X.K H p ys ∨ SqT X.K H p ys) ∧ ∀ l, H l = none → Q (.ref l) (upd H l (.lst ys))) (tCons te tNil))) (ha : QE X F a ua) : QN X F e (uLstOf ua) := by
  obtain ⟨t, pa, s⟩ := ha.ex
  refine ⟨_, pe pa, fun R h c => s R h fun p ε1 v H1 Hs1 h1 R1 s1 r1 => ?_⟩
  split at h1
  · rename_i b ds e
    obtain ⟨q, vs, rfl, t1, q1⟩ := seqOf_ok R1 r1 e
    refine ⟨q, vs, rfl, ?_, fun l hl => (c.after s1).new h1 R1 hl t1⟩
    cases b with
    | true => exact .inl (.inl q1)
    | false => exact .inr q1
  · exact h1.elim
end
end Pu

set_option Elab.async false
set_option linter.all false
set_option maxRecDepth 100000
set_option maxHeartbeats 4000000
/-! Statements read without the heap. -/
namespace Pu
open PySem PySem.Spec PyProof.Rows L2 Gd RZ

/-- the ends of a plain reading -/
structure PEn where
  nx : En → Prop
  rt : D → En → Prop
  bk : En → Prop
  ct : En → Prop
abbrev US := PEn → En → Prop
section
variable (K : PySem.W.Frag) (F : Fd) (fa : Option Addr) (G Hs : Hp)
def Nx (A : En → Prop) (N : L2.St → Hp → Prop) : Prop := ∀ ε σ H Hs', A ε → RepE K F fa G Hs' H σ ε → Same Hs Hs' → N σ H
structure Cs (P : PEn) (E : Ends) : Prop where
  nx : Nx K F fa G Hs P.nx E.nx
  rt : ∀ d ε v σ H Hs', P.rt d ε → RepE K F fa G Hs' H σ ε → Same Hs Hs' → Rp K Hs' v d → E.rt v H
  bk : Nx K F fa G Hs P.bk E.bk
  ct : Nx K F fa G Hs P.ct E.ct
end
structure QS (X : Cx) (F : Fd) (st : Stmt) (u : US) : Prop where
  ex : ∃ t : TS, PS X st t ∧ ∀ {fa : Option Addr} {G Hs H : Hp} {σ : L2.St} {ε : En} {P : PEn} {E : Ends}, RepE X.K F fa G Hs H σ ε → u P ε → Cs X.K F fa G Hs P E → t E σ H
structure QSs (X : Cx) (F : Fd) (sts : List Stmt) (u : US) : Prop where
  ex : ∃ t : TS, PSs X sts t ∧ ∀ {fa : Option Addr} {G Hs H : Hp} {σ : L2.St} {ε : En} {P : PEn} {E : Ends}, RepE X.K F fa G Hs H σ ε → u P ε → Cs X.K F fa G Hs P E → t E σ H
section
variable {K : PySem.W.Frag} {F : Fd} {fa : Option Addr} {G Hs H Hs' H' : Hp} {σ : L2.St} {ε : En}
theorem Nx.after {A : En → Prop} {N : L2.St → Hp → Prop} (c : Nx K F fa G Hs A N) (s : Same Hs Hs') : Nx K F fa G Hs' A N := fun ε σ H Hs2 a R s2 => c ε σ H Hs2 a R (s.trans s2)
theorem Cs.after {P : PEn} {E : Ends} (c : Cs K F fa G Hs P E) (s : Same Hs Hs') : Cs K F fa G Hs' P E := ⟨c.nx.after s, fun d ε v σ H Hs2 a R s2 r => c.rt d ε v σ H Hs2 a R (s.trans s2) r, c.bk.after s, c.ct.after s⟩
end

/-! ### right sides: data, or a new list -/
inductive RV where
  | d (x : D) | n (ds : List D)
def RV.sl : RV → Sl
  | .d x => .sh x
  | .n ds => .ow none ds
section
variable (K : PySem.W.Frag) (F : Fd) (fa : Option Addr) (G Hs : Hp) (σ : L2.St)
/-- a value that may stand in a slot -/
def RpR (H : Hp) (ε : En) (v : V) : RV → Prop
  | .d x => Rp K Hs v x
  | .n ds => ∃ a vs, v = .ref a ∧ Hs a = none ∧ G a = none ∧ fa ≠ some a ∧ (∀ (j : Nat) (oj : Option Addr) (dj : List D), ε.sl[j]? = some (.ow oj dj) → σ[j]? ≠ some (some (.ref a))) ∧ H a = some (.lst vs) ∧ RpA K Hs vs ds
end
abbrev UR := En → (RV → En → Prop) → Prop
structure QR (X : Cx) (F : Fd) (e : Expr) (u : UR) : Prop where
  ex : ∃ t : TE, PE X e t ∧ ∀ {fa : Option Addr} {G Hs H : Hp} {σ : L2.St} {ε : En} {A : RV → En → Prop} {Q : VK}, RepE X.K F fa G Hs H σ ε → u ε A →
    (∀ r ε' v H' Hs', A r ε' → RepE X.K F fa G Hs' H' σ ε' → Same Hs Hs' → RpR X.K fa G Hs' σ H' ε' v r → Q v H') → t σ H Q
def uRd (u : UE) : UR := fun ε A => u ε fun p ε1 => asD p ε1 fun x ε2 => A (.d x) ε2
def uRn (u : UA) : UR := fun ε A => u ε fun ds ε1 => A (.n ds) ε1
section
variable {X : Cx} {F : Fd} {e : Expr}
theorem qr_d {u : UE} (h : QE X F e u) : QR X F e (uRd u) := by
  obtain ⟨t, p, s⟩ := h.ex
  refine ⟨t, p, fun R h c => s R h fun p ε1 v H1 Hs1 h1 R1 e1 r1 => ?_⟩
  obtain ⟨Hs2, ε2, x, e2, R2, rx, h2⟩ := asD_ok R1 r1 h1
  exact c (.d x) ε2 v H1 Hs2 h2 R2 (e1.trans e2) rx
theorem qr_n {u : UA} (h : QN X F e u) : QR X F e (uRn u) := by
  obtain ⟨t, p, s⟩ := h.ex
  refine ⟨t, p, fun R h c => s R h fun ds ε1 a vs H1 Hs1 h1 R1 e1 g1 g2 g3 g4 g5 r1 => ?_⟩
  exact c (.n ds) ε1 _ H1 Hs1 h1 R1 e1 ⟨a, vs, rfl, g1, g2, g3, g4, g5, r1⟩
end
theorem RepE.putR {K : PySem.W.Frag} {F : Fd} {fa : Option Addr} {G Hs H : Hp} {σ : L2.St} {ε : En} (R : RepE K F fa G Hs H σ ε) {i : Nat} (hi : i < ε.sl.length) {v : V} {r : RV} (h : RpR K fa G Hs σ H ε v r) :
    RepE K F fa G Hs H (σ.set i (some v)) { ε with sl := ε.sl.set i r.sl } := by
  cases r with
  | d x => exact R.putSh hi h
  | n ds =>
    obtain ⟨a, vs, rfl, g1, g2, g3, g4, g5, r1⟩ := h
    refine R.put hi (fun _ e => nomatch e) (fun oo ds' e => ?_) fun e => nomatch e
    cases e
    exact ⟨a, vs, rfl, g1, g2, g3, g5, ⟨r1, fun _ z => nomatch z⟩, fun j oj dj _ q => g4 j oj dj q⟩

/-! ### targets -/
abbrev UG := D → En → (En → Prop) → Prop
abbrev UGs := List D → En → (En → Prop) → Prop
section
variable (K : PySem.W.Frag) (F : Fd) (fa : Option Addr) (G Hs : Hp) (σ : L2.St) (is : List Nat)
def Cg (A : En → Prop) (Q : L2.St → Hp → Prop) : Prop := ∀ ε' σ' H' Hs', A ε' → RepE K F fa G Hs' H' σ' ε' → Same Hs Hs' → σ'.length = σ.length → (∀ i, i ∉ is → σ'[i]? = σ[i]?) → Q σ' H'
end
structure QG (X : Cx) (F : Fd) (tg : Expr) (is : List Nat) (u : UG) : Prop where
  ex : ∃ t : TG, PG X tg t ∧ ∀ {fa : Option Addr} {G Hs H : Hp} {σ : L2.St} {ε : En} {v : V} {d : D} {A : En → Prop} {Q : L2.St → Hp → Prop}, RepE X.K F fa G Hs H σ ε → Rp X.K Hs v d → u d ε A →
    Cg X.K F fa G Hs σ is A Q → t v σ H Q
structure QGs (X : Cx) (F : Fd) (tgs : List Expr) (is : List Nat) (u : UGs) : Prop where
  ex : ∃ t : TGs, PGs X tgs t ∧ ∀ {fa : Option Addr} {G Hs H : Hp} {σ : L2.St} {ε : En} {vs : List V} {ds : List D} {A : En → Prop} {Q : L2.St → Hp → Prop}, RepE X.K F fa G Hs H σ ε → RpA X.K Hs vs ds → u ds ε A →
    Cg X.K F fa G Hs σ is A Q → t vs σ H Q
def uNm (i : Nat) : UG := fun d ε B => i < ε.sl.length ∧ B { ε with sl := ε.sl.set i (.sh d) }
def uGnil : UGs := fun ds ε B => ds = [] ∧ B ε
def uGcons (u : UG) (us : UGs) : UGs := fun ds ε B => match ds with | d :: r => u d ε fun ε1 => us r ε1 B | [] => False
def uGtup (n : Nat) (us : UGs) : UG := fun d ε B => match d with | .tup ds => ds.length = n ∧ us ds ε B | _ => False
def uGlst (n : Nat) (us : UGs) : UG := fun d ε B => match d with | .lst ds => ds.length = n ∧ us ds ε B | _ => False
section
variable {X : Cx} {F : Fd} {pos : Pos}
theorem qg_name {i : Nat} {x : Str} (hN : X.N.Nodup) (hi : X.N[i]? = some x) (hx : Loc X.env.scope x) (hf : X.fn x = true ∨ X.env.scope.names.lookup x = some .local := by first | exact .inl rfl | exact .inr rfl | assumption) : QG X F (.Name x pos) [i] (uNm i) := by
  refine ⟨gName i, pg_name hN hi hx hf, fun {fa G Hs H σ ε v d A Q} R r h c => ?_⟩
  refine c _ _ _ Hs h.2 (R.putSh h.1 r) (Same.refl _) (List.length_set ..) fun j hj => ?_
  exact List.getElem?_set_ne (fun z => hj (by rw [z]; exact List.mem_singleton.mpr rfl))
theorem qgs_nil : QGs X F [] [] uGnil := by
  refine ⟨gNil, pgs_nil, fun {fa G Hs H σ ε vs ds A Q} R r h c => ?_⟩
  obtain ⟨rfl, h⟩ := h
  cases r
  exact ⟨rfl, c ε σ H Hs h R (Same.refl _) rfl fun _ _ => rfl⟩
theorem qgs_cons {e : Expr} {es : List Expr} {is js : List Nat} {u : UG} {us : UGs} (h1 : QG X F e is u) (h2 : QGs X F es js us)
    (hs : (assignEach (e :: es) X.env).map (·.2) = assign e X.env :: (assignEach es X.env).map (·.2) := by rfl) : QGs X F (e :: es) (is ++ js) (uGcons u us) := by
  obtain ⟨t, p, s⟩ := h1.ex
  obtain ⟨t2, p2, s2⟩ := h2.ex
  refine ⟨_, pgs_cons p p2 hs, fun {fa G Hs H σ ε vs ds A Q} R r h c => ?_⟩
  cases r with
  | nil => exact h.elim
  | cons r rr =>
    refine ⟨_, _, rfl, s R r h fun ε1 σ1 H1 Hs1 a1 R1 e1 l1 g1 => ?_⟩
    refine s2 R1 (rr.same e1) a1 fun ε2 σ2 H2 Hs2 a2 R2 e2 l2 g2 => ?_
    refine c ε2 σ2 H2 Hs2 a2 R2 (e1.trans e2) (l2.trans l1) fun i hi => ?_
    rw [g2 i fun z => hi (List.mem_append_right _ z), g1 i fun z => hi (List.mem_append_left _ z)]
theorem qg_tup {es : List Expr} {k : Nat} {is : List Nat} {us : UGs} {n : Nat} (hc : X.calm = true) (h : QGs X F es is us)
    (hn : (assignEach es X.env).length = n := by rfl) (hst : (assignEach es X.env).findIdx? (·.1) = none := by rfl) : QG X F (.Tuple es k pos) is (uGtup n us) := by
  obtain ⟨t, p, s⟩ := h.ex
  refine ⟨_, pg_tup hc p hn hst, fun {fa G Hs H σ ε v d A Q} R r h c => ?_⟩
  cases r with
  | tup h1 h2 =>
    obtain ⟨hl, h⟩ := h
    exact ⟨_, _, rfl, Same.sqT R.sub h1, by rw [h2.len, hl], s R h2 h c⟩
  | _ => exact h.elim
theorem qg_lst {es : List Expr} {k : Nat} {is : List Nat} {us : UGs} {n : Nat} (hc : X.calm = true) (h : QGs X F es is us)
    (hn : (assignEach es X.env).length = n := by rfl) (hst : (assignEach es X.env).findIdx? (·.1) = none := by rfl) : QG X F (.Tuple es k pos) is (uGlst n us) := by
  obtain ⟨t, p, s⟩ := h.ex
  refine ⟨_, pg_unl hc p hn hst, fun {fa G Hs H σ ε v d A Q} R r h c => ?_⟩
  cases r with
  | lst h1 h2 =>
    obtain ⟨hl, h⟩ := h
    exact ⟨_, _, rfl, .inl (rd_same R.sub h1), by rw [h2.len, hl], s R h2 h c⟩
  | _ => exact h.elim
end
/-- the list of one's own in a slot -/
def isOw (ε : En) (i : Nat) : Option (Option Addr × List D) := match ε.sl[i]? with | some (.ow o ds) => some (o, ds) | _ => none
theorem isOw_ok {ε : En} {i : Nat} {o : Option Addr} {ds : List D} (h : isOw ε i = some (o, ds)) : ε.sl[i]? = some (.ow o ds) := by
  unfold isOw at h
  split at h
  · rename_i e
    cases h
    exact e
  · cases h
def uSub (i : Nat) (ui : UE) : UG := fun d ε B => (isOw ε i).isSome = true ∧ ui ε fun p ε1 => match isOw ε1 i with
  | some (o, ds) => match p with
    | .d (.int k) => ∃ j, ixN ds.length k = some j ∧ B { ε1 with sl := ε1.sl.set i (.ow o (ds.set j d)) }
    | _ => False
  | none => False
section
variable {X : Cx} {F : Fd} {pos p2 : Pos}
theorem qg_sub {i : Nat} {x : Str} {b : Expr} {ui : UE} (hb : QE X F b ui) (hN : X.N[i]? = some x := by rfl) (hv : Vis X.env.scope x := by first | exact Or.inl rfl | exact Or.inr (Or.inl rfl) | exact Or.inr (Or.inr rfl))
    (hd : (x == ("__debug__" : Str)) = false := by decide) (hcd : (x == ("__classdict__" : Str)) = false := by decide)
    (ha : ∀ v, assign (.Subscript (.Name x p2) b pos) X.env v = (do
      let ov ← holding [v] (eval (.Name x p2) X.env)
      let iv ← holding [v, ov] (eval b X.env)
      standAt pos
      holding [v, ov, iv] (setItem ov iv v)
      release [v, ov, iv] []) := by intro _; rfl) : QG X F (.Subscript (.Name x p2) b pos) [] (uSub i ui) := by
  obtain ⟨t, p, s⟩ := hb.ex
  refine ⟨_, pg_sub (pe_var hN hv hd hcd) p set_list ha, fun {fa G Hs H σ ε v d A Q} R r h c => ?_⟩
  obtain ⟨h0, h⟩ := h
  obtain ⟨⟨o0, ds0⟩, z0⟩ := Option.isSome_iff_exists.mp h0
  obtain ⟨a0, vs0, hw, _⟩ := R.ow i o0 ds0 (isOw_ok z0)
  refine ⟨_, hw, s R h fun p1 ε1 iv H1 Hs1 h1 R1 e1 r1 => ?_⟩
  split at h1
  · rename_i o ds e
    have e := isOw_ok e
    split at h1
    · rename_i k
      cases r1
      obtain ⟨j, hj, h1⟩ := h1
      obtain ⟨a, vs, q1, q2, q3, q4, q5, q6, q7⟩ := R1.ow i o ds e
      rw [hw] at q1
      cases q1
      refine ⟨a0, vs, k, j, rfl, rfl, q5, by rw [q6.len]; exact hj, ?_⟩
      exact c _ _ _ Hs1 h1 (R1.store e hw (q6.set (r.same e1) j)) e1 rfl fun _ _ => rfl
    · exact h1.elim
  · exact h1.elim
end
end Pu

set_option Elab.async false
set_option linter.all false
set_option maxRecDepth 100000
set_option maxHeartbeats 4000000
/-! Statements read without the heap, 2. -/
namespace Pu
open PySem PySem.Spec PyProof.Rows L2 Gd RZ
def uNext : US := fun P ε => P.nx ε
def uSeq (u1 u2 : US) : US := fun P ε => u1 { P with nx := fun ε' => u2 P ε' } ε
/-- a mark that its arguments are left alone -/
inductive Tg {α : Type} (a : α) : Type | mk
def CutX (u1 u2 : US) (P : PEn) (_t : Tg (u1, u2, P)) (ε : En) : Prop := ∃ Mid : En → Prop, u1 { P with nx := Mid } ε ∧ ∀ ε', Mid ε' → u2 P ε'
def uCut (u1 u2 : US) : US := fun P ε => CutX u1 u2 P .mk ε
def uNever : US := fun _ _ => False
section
variable {X : Cx} {F : Fd} {st : Stmt} {rest : List Stmt} {u u1 u2 : US} {pos : Pos}
theorem qss_nil : QSs X F [] uNext := ⟨_, pss_nil, fun R h c => c.nx _ _ _ _ h R (Same.refl _)⟩
theorem qss_cons (h1 : QS X F st u1) (h2 : QSs X F rest u2) : QSs X F (st :: rest) (uSeq u1 u2) := by
  obtain ⟨t, p, s⟩ := h1.ex
  obtain ⟨t2, p2, s2⟩ := h2.ex
  exact ⟨_, pss_cons p p2, fun R h c => s R h ⟨fun ε σ H Hs' a R1 e1 => s2 R1 a (c.after e1), c.rt, c.bk, c.ct⟩⟩
theorem qss_cut (h1 : QS X F st u1) (h2 : QSs X F rest u2) : QSs X F (st :: rest) (uCut u1 u2) := by
  obtain ⟨t, p, s⟩ := h1.ex
  obtain ⟨t2, p2, s2⟩ := h2.ex
  refine ⟨_, pss_cons p p2, fun R h c => ?_⟩
  obtain ⟨Mid, h, hm⟩ := h
  exact s R h ⟨fun ε σ H Hs' a R1 e1 => s2 R1 (hm _ a) (c.after e1), c.rt, c.bk, c.ct⟩
theorem qss_one (h1 : QS X F st u1) : QSs X F [st] u1 := by
  obtain ⟨t, p, s⟩ := h1.ex
  exact ⟨_, pss_one p, s⟩
theorem qss_never {sts : List Stmt} : QSs X F sts uNever := ⟨_, pss_never, fun R h c => h.elim⟩
theorem qs_never : QS X F st uNever := ⟨_, ps_never, fun R h c => h.elim⟩
def uBrk : US := fun P ε => P.bk ε
def uCnt : US := fun P ε => P.ct ε
theorem qs_pass : QS X F (.Pass pos) uNext := ⟨_, ps_pass, fun R h c => c.nx _ _ _ _ h R (Same.refl _)⟩
theorem qs_break : QS X F (.Break pos) uBrk := ⟨_, ps_break, fun R h c => c.bk _ _ _ _ h R (Same.refl _)⟩
theorem qs_continue : QS X F (.Continue pos) uCnt := ⟨_, ps_continue, fun R h c => c.ct _ _ _ _ h R (Same.refl _)⟩
theorem qs_doc {x j pos pos'} : QS X F (.Expr (.Constant (.str x) j pos) pos') uNext := ⟨_, ps_doc, fun R h c => c.nx _ _ _ _ h R (Same.refl _)⟩
def uDrop (u : UE) : US := fun P ε => u ε fun _ ε1 => P.nx ε1
theorem qs_expr {e : Expr} {u : UE} (h : QE X F e u) (hs : swapsWith e none pos.line X.env = pure false := by rfl) : QS X F (.Expr e pos) (uDrop u) := by
  obtain ⟨t, p, s⟩ := h.ex
  exact ⟨_, ps_expr p hs, fun R h c => s R h fun p1 ε1 v H1 Hs1 h1 R1 e1 r1 => c.nx _ _ _ _ h1 R1 e1⟩
def uRet (u : UE) : US := fun P ε => u ε fun p ε1 => asD p ε1 P.rt
theorem qs_ret {e : Expr} {u : UE} (h : QE X F e u) : QS X F (.Return (some e) pos) (uRet u) := by
  obtain ⟨t, p, s⟩ := h.ex
  refine ⟨_, ps_ret p, fun R h c => s R h fun p1 ε1 v H1 Hs1 h1 R1 e1 r1 => ?_⟩
  obtain ⟨Hs2, ε2, x, e2, R2, rx, h2⟩ := asD_ok R1 r1 h1
  exact c.rt x ε2 v _ H1 Hs2 h2 R2 (e1.trans e2) rx
def uRetN : US := fun P ε => P.rt .non ε
theorem qs_retN : QS X F (.Return none pos) uRetN := ⟨_, ps_retN, fun {fa G Hs H σ ε P E} R h c => c.rt .non ε .non σ H Hs h R (Same.refl _) .non⟩
def uIfS (t : UT) (a b : US) : US := fun P ε => t ε fun c ε1 => if c = true then a P ε1 else b P ε1
theorem qs_if {c : Expr} {a b : List Stmt} {vt : UT} {ua ub : US} (hc : QT X F c vt) (ha : QSs X F a ua) (hb : QSs X F b ub) : QS X F (.If c a b pos) (uIfS vt ua ub) := by
  obtain ⟨t, p, s⟩ := hc.ex
  obtain ⟨t1, p1, s1⟩ := ha.ex
  obtain ⟨t2, p2, s2⟩ := hb.ex
  refine ⟨_, ps_if p p1 p2, fun R h c => s R h fun k ε1 H1 Hs1 h1 R1 e1 => ?_⟩
  cases k with
  | true => exact s1 R1 h1 (c.after e1)
  | false => exact s2 R1 h1 (c.after e1)
/-! ### stores -/
def uSet (i : Nat) (u : UR) : US := fun P ε => u ε fun r ε1 => i < ε1.sl.length ∧ P.nx { ε1 with sl := ε1.sl.set i r.sl }
theorem setT {K : PySem.W.Frag} {fa : Option Addr} {G Hs : Hp} {σ : L2.St} {P : PEn} {E : Ends} {i : Nat} (c : Cs K F fa G Hs P E) : ∀ r ε' v H' Hs', (i < ε'.sl.length ∧ P.nx { ε' with sl := ε'.sl.set i r.sl }) → RepE K F fa G Hs' H' σ ε' → Same Hs Hs' →
    RpR K fa G Hs' σ H' ε' v r → E.nx (σ.set i (some v)) H' := fun r ε' v H' Hs' h R e q => c.nx _ _ _ _ h.2 (R.putR h.1 q) e
theorem qs_set {i : Nat} {x : Str} {e : Expr} {u : UR} {pos' : Pos} (hN : X.N.Nodup) (hi : X.N[i]? = some x) (hx : Loc X.env.scope x) (he : QR X F e u) (hs : swapsWith e (some (.Name x pos')) pos.line X.env = pure false := by rfl) (hf : X.fn x = true ∨ X.env.scope.names.lookup x = some .local := by first | exact .inl rfl | exact .inr rfl | assumption) :
    QS X F (.Assign [.Name x pos'] e pos) (uSet i u) := by
  obtain ⟨t, p, s⟩ := he.ex
  exact ⟨_, ps_set hN hi hx p hs hf, fun R h c => s R h (setT c)⟩
def uAsg (u : UE) (g : UG) : US := fun P ε => u ε fun p ε1 => asD p ε1 fun x ε2 => g x ε2 P.nx
theorem qs_asg {tg e : Expr} {u : UE} {is : List Nat} {g : UG} (he : QE X F e u) (hg : QG X F tg is g) (hs : swapsWithSole [tg] e pos.line X.env = pure false := by rfl) (hw : swappedStores [tg] e X.env = pure none := by rfl)
    (h1 : (assignEach [tg] X.env).map (·.2) = [assign tg X.env] := by rfl) : QS X F (.Assign [tg] e pos) (uAsg u g) := by
  obtain ⟨t, p, s⟩ := he.ex
  obtain ⟨t2, p2, s2⟩ := hg.ex
  refine ⟨_, ps_asg p p2 hs hw h1, fun R h c => s R h fun p1 ε1 v H1 Hs1 h1 R1 e1 r1 => ?_⟩
  obtain ⟨Hs2, ε2, x, e2, R2, rx, h2⟩ := asD_ok R1 r1 h1
  exact s2 R2 rx h2 fun ε3 σ3 H3 Hs3 h3 R3 e3 _ _ => c.nx _ _ _ _ h3 R3 ((e1.trans e2).trans e3)
/-- name op= e, whole numbers -/
def uAug (i : Nat) (f : Int → Int → Int) (u : UE) : US := fun P ε => match ε.sl[i]? with
  | some (.sh (.int a)) => u ε fun p ε1 => match p with
    | .d (.int b) => i < ε1.sl.length ∧ P.nx { ε1 with sl := ε1.sl.set i (.sh (.int (f a b))) }
    | _ => False
  | _ => False
theorem qs_aug {i : Nat} {x : Str} {e : Expr} {u : UE} {op : Operator} {f : Int → Int → Int} {pos' : Pos} (ho : PIp X op (ipI f)) (hN : X.N.Nodup) (hi : X.N[i]? = some x) (hx : Loc X.env.scope x) (he : QE X F e u) (hf : X.fn x = true ∨ X.env.scope.names.lookup x = some .local := by first | exact .inl rfl | exact .inr rfl | assumption) :
    QS X F (.AugAssign (.Name x pos') op e pos) (uAug i f u) := by
  obtain ⟨t, p, s⟩ := he.ex
  refine ⟨_, ps_aug hN hi hx p ho hf, fun {fa G Hs H σ ε P E} R h c => ?_⟩
  unfold uAug at h
  split at h
  · rename_i a e
    obtain ⟨v, h1, h2⟩ := R.sh i _ e
    cases h2
    refine ⟨_, h1, s R h fun p1 ε1 w H1 Hs1 h1 R1 e1 r1 => ?_⟩
    split at h1
    · cases r1
      exact ⟨a, _, rfl, rfl, c.nx _ _ _ _ h1.2 (R1.putSh h1.1 (.int _)) e1⟩
    · exact h1.elim
  · exact h.elim
/-- name.append(e) -/
def uApp (i : Nat) (u : UE) : US := fun P ε => (isOw ε i).isSome = true ∧ u ε fun p ε1 => asD p ε1 fun x ε2 => match isOw ε2 i with
  | some (o, ds) => ds.length ≤ 1000000 ∧ P.nx { ε2 with sl := ε2.sl.set i (.ow o (ds ++ [x])) }
  | none => False
/-- a, b = x, y -/
theorem RepE.guard {K : PySem.W.Frag} {fa : Option Addr} {G Hs H : Hp} {σ : L2.St} {ε : En} (R : RepE K F fa G Hs H σ ε) {a : Addr} {o : HO} (h1 : Hs a = none) (h3 : fa ≠ some a)
    (h4 : ∀ (j : Nat) (oj : Option Addr) (dj : List D), ε.sl[j]? = some (.ow oj dj) → σ[j]? ≠ some (some (.ref a))) (h5 : H a = some o) : RepE K F fa (upd G a o) Hs H σ ε := by
  refine ⟨R.sub, fun b u q => ?_, fun d q => ?_, R.len, R.sh, fun j oj dj q => ?_, R.fdS, R.inj⟩
  · by_cases hb : b = a
    · subst hb
      rw [upd_same] at q
      cases q
      exact ⟨h5, h1⟩
    · rw [upd_ne hb] at q
      exact R.grd b u q
  · obtain ⟨q1, q2, q3⟩ := R.fd d q
    refine ⟨q1, ?_, q3⟩
    rw [upd_ne (fun z => by subst z; exact h3 q)]
    exact q2
  · obtain ⟨b, us, q1, q2, q3, q4⟩ := R.ow j oj dj q
    refine ⟨b, us, q1, q2, ?_, q4⟩
    rw [upd_ne (fun z => by subst z; exact h4 j oj dj q q1)]
    exact q3
theorem RepE.unguard {K : PySem.W.Frag} {fa : Option Addr} {G Hs H : Hp} {σ : L2.St} {ε : En} {a : Addr} {o : HO} (hG : G a = none) (R : RepE K F fa (upd G a o) Hs H σ ε) :
    RepE K F fa G Hs H σ ε ∧ Hs a = none ∧ fa ≠ some a ∧ H a = some o ∧ ∀ (j : Nat) (oj : Option Addr) (dj : List D), ε.sl[j]? = some (.ow oj dj) → σ[j]? ≠ some (some (.ref a)) := by
  have g := R.grd a o upd_same
  have nn : ∀ b, (upd G a o) b = none → G b = none := fun b z => by
    by_cases hb : b = a
    · rw [hb]; exact hG
    · rw [upd_ne hb] at z
      exact z
  refine ⟨⟨R.sub, fun b u q => R.grd b u ?_, fun d q => ?_, R.len, R.sh, fun j oj dj q => ?_, R.fdS, R.inj⟩, g.2, fun z => ?_, g.1, fun j oj dj q z => ?_⟩
  · rw [upd_ne (fun z => by subst z; rw [hG] at q; cases q)]
    exact q
  · obtain ⟨q1, q2, q3⟩ := R.fd d q
    exact ⟨q1, nn d q2, q3⟩
  · obtain ⟨b, us, q1, q2, q3, q4⟩ := R.ow j oj dj q
    exact ⟨b, us, q1, q2, nn b q3, q4⟩
  · have := (R.fd a z).2.1
    rw [upd_same] at this
    cases this
  · obtain ⟨b, us, q1, q2, q3, q4⟩ := R.ow j oj dj q
    rw [z] at q1
    cases q1
    rw [upd_same] at q3
    cases q3
def uPar (i j : Nat) (ua ub : UR) : US := fun P ε => ua ε fun r1 ε1 => ub ε1 fun r2 ε2 => (i < ε2.sl.length ∧ j < ε2.sl.length) ∧ P.nx { ε2 with sl := (ε2.sl.set i r1.sl).set j r2.sl }
theorem qs_par {i j : Nat} {x y : Str} {a b : Expr} {ua ub : UR} {px py pt : Pos} {kt k2 pt2} (hc : X.calm = true) (hN : X.N.Nodup) (hi : X.N[i]? = some x) (hj : X.N[j]? = some y) (hij : i ≠ j)
    (hx : X.env.scope.names.lookup x = some .local) (hy : X.env.scope.names.lookup y = some .local) (ha : QR X F a ua) (hb : QR X F b ub)
    (hw : swappedStores [.Tuple [.Name x px, .Name y py] kt pt] (.Tuple [a, b] k2 pt2) X.env = pure (some [x, y]))
    (hst : starEach [a, b] X.env = (false, eval a X.env) :: starEach [b] X.env := by rfl) (hst2 : starEach [b] X.env = (false, eval b X.env) :: starEach [] X.env := by rfl)
    (hs : swapsWithSole [.Tuple [.Name x px, .Name y py] kt pt] (.Tuple [a, b] k2 pt2) pos.line X.env = pure false := by rfl) :
    QS X F (.Assign [.Tuple [.Name x px, .Name y py] kt pt] (.Tuple [a, b] k2 pt2) pos) (uPar i j ua ub) := by
  obtain ⟨t, p, s⟩ := ha.ex
  obtain ⟨t2, p2, s2⟩ := hb.ex
  refine ⟨_, ps_par hc hN hi hj hij hx hy (pa_cons p (pa_cons p2 pa_nil hst2) hst) hw hs, fun {fa G Hs H σ ε P E} R h c => ?_⟩
  refine s R h fun r1 ε1 v H1 Hs1 h1 R1 e1 q1 => ?_
  cases r1 with
  | d x1 =>
    refine s2 R1 h1 fun r2 ε2 w H2 Hs2 h2 R2 e2 q2 => ⟨v, w, rfl, ?_⟩
    obtain ⟨⟨k1, k2⟩, h2⟩ := h2
    have R3 := R2.putSh k1 (Rp.same q1 e2)
    refine c.nx _ _ _ _ h2 (R3.putR (by simpa using k2) ?_) (e1.trans e2)
    cases r2 with
    | d x2 => exact q2
    | n ds =>
      obtain ⟨a2, vs, rfl, g1, g2, g3, g4, g5, g6⟩ := q2
      refine ⟨a2, vs, rfl, g1, g2, g3, fun m oj dj z1 z2 => ?_, g5, g6⟩
      by_cases hm : m = i
      · subst hm
        have z1 : (ε2.sl.set m (Sl.sh x1))[m]? = _ := z1
        rw [List.getElem?_set_self k1] at z1
        cases z1
      · have z1 : (ε2.sl.set i (Sl.sh x1))[m]? = _ := z1
        rw [List.getElem?_set_ne (Ne.symm hm)] at z1 z2
        exact g4 m oj dj z1 z2
  | n ds1 =>
    obtain ⟨a1, vs1, rfl, g1, g2, g3, g4, g5, g6⟩ := q1
    refine s2 (R1.guard g1 g3 g4 g5) h1 fun r2 ε2 w H2 Hs2 h2 R2' e2 q2 => ⟨_, w, rfl, ?_⟩
    obtain ⟨R2, k1', k2', k3', k4'⟩ := RepE.unguard g2 R2'
    obtain ⟨⟨k1, k2⟩, h2⟩ := h2
    have R3 := R2.putR (r := .n ds1) (i := i) k1 ⟨a1, vs1, rfl, k1', g2, k2', k4', k3', g6.same e2⟩
    refine c.nx _ _ _ _ h2 (R3.putR (by simpa using k2) ?_) (e1.trans e2)
    cases r2 with
    | d x2 => exact q2
    | n ds =>
      obtain ⟨a2, vs, rfl, f1, f2, f3, f4, f5, f6⟩ := q2
      have ne : a1 ≠ a2 := fun z => by
        subst z
        rw [upd_same] at f2
        cases f2
      refine ⟨a2, vs, rfl, f1, ?_, f3, fun m oj dj z1 z2 => ?_, f5, f6⟩
      · rw [upd_ne (Ne.symm ne)] at f2
        exact f2
      · by_cases hm : m = i
        · subst hm
          rw [List.getElem?_set_self (by rw [R2.len]; exact k1)] at z2
          cases z2
          exact ne rfl
        · have z1 : (ε2.sl.set i (RV.n ds1).sl)[m]? = _ := z1
          rw [List.getElem?_set_ne (Ne.symm hm)] at z1 z2
          exact f4 m oj dj z1 z2
end
section
variable {X : Cx} {F : Fd} {pos apos cpos p2 : Pos}
theorem qs_app {i : Nat} {x : Str} {e : Expr} {u : UE} (h : QE X F e u) (pa : PlainAttrs "list") (hN : X.N[i]? = some x := by rfl) (hv : Vis X.env.scope x := by first | exact Or.inl rfl | exact Or.inr (Or.inl rfl) | exact Or.inr (Or.inr rfl))
    (hd : (x == ("__debug__" : Str)) = false := by decide) (hcd : (x == ("__classdict__" : Str)) = false := by decide)
    (pe : ∀ {to : TE} {t : TA}, PE X (.Name x p2) to → PA X [e] t → PE X (.Call (.Attribute (.Name x p2) "append" apos) [e] [] cpos) (tBM X.K "list" rAppend to t))
    (hst : starEach [e] X.env = (false, eval e X.env) :: starEach [] X.env := by rfl)
    (hs : swapsWith (.Call (.Attribute (.Name x p2) "append" apos) [e] [] cpos) none pos.line X.env = pure false := by rfl) :
    QS X F (.Expr (.Call (.Attribute (.Name x p2) "append" apos) [e] [] cpos) pos) (uApp i u) := by
  obtain ⟨t, p, s⟩ := h.ex
  refine ⟨_, ps_expr (pe (pe_var hN hv hd hcd) (pa_cons p pa_nil hst)) hs, fun {fa G Hs H σ ε P E} R h c => ?_⟩
  obtain ⟨h0, h⟩ := h
  obtain ⟨⟨o0, ds0⟩, z0⟩ := Option.isSome_iff_exists.mp h0
  obtain ⟨a0, vs0, hw, k2, k3, k4, k5, _⟩ := R.ow i o0 ds0 (isOw_ok z0)
  refine ⟨_, hw, .inl ⟨rfl, vs0, .inl (.inl k5)⟩, s R h fun p1 ε1 v H1 Hs1 h1 R1 e1 r1 => ?_⟩
  obtain ⟨Hs2, ε2, y, e2, R2, rx, h2⟩ := asD_ok R1 r1 h1
  split at h2
  · rename_i o ds e
    have e := isOw_ok e
    obtain ⟨a, vs, q1, q2, q3, q4, q5, q6, q7⟩ := R2.ow i o ds e
    rw [hw] at q1
    cases q1
    refine ⟨a0, vs, v, rfl, rfl, q5, ?_, ?_⟩
    · rw [q6.len, sizeLine_eq]
      have := h2.1
      omega
    · exact c.nx _ _ _ _ h2.2 (R2.store e hw (q6.append (.cons rx .nil))) (e1.trans e2)
  · exact h2.elim
end
/-- a, b, c = x, y, z of data -/
def uPar3 (i j l : Nat) (us : UA) : US := fun P ε => us ε fun ds ε1 => match ds with
  | [x, y, z] => (i < ε1.sl.length ∧ j < ε1.sl.length ∧ l < ε1.sl.length) ∧ P.nx { ε1 with sl := ((ε1.sl.set i (.sh x)).set j (.sh y)).set l (.sh z) }
  | _ => False
theorem qs_par3 {X : Cx} {F : Fd} {i j l : Nat} {x y z : Str} {a b c : Expr} {us : UA} {px py pz pt pos : Pos} {kt k2 pt2} (hc : X.calm = true) (hN : X.N.Nodup) (hi : X.N[i]? = some x) (hj : X.N[j]? = some y) (hl : X.N[l]? = some z) (hij : i ≠ j) (hil : i ≠ l) (hjl : j ≠ l)
    (hx : X.env.scope.names.lookup x = some .local) (hy : X.env.scope.names.lookup y = some .local) (hz : X.env.scope.names.lookup z = some .local) (ha : QA X F [a, b, c] us)
    (hw : swappedStores [.Tuple [.Name x px, .Name y py, .Name z pz] kt pt] (.Tuple [a, b, c] k2 pt2) X.env = pure (some [x, y, z]))
    (hs : swapsWithSole [.Tuple [.Name x px, .Name y py, .Name z pz] kt pt] (.Tuple [a, b, c] k2 pt2) pos.line X.env = pure false := by rfl) :
    QS X F (.Assign [.Tuple [.Name x px, .Name y py, .Name z pz] kt pt] (.Tuple [a, b, c] k2 pt2) pos) (uPar3 i j l us) := by
  obtain ⟨t, p, s⟩ := ha.ex
  refine ⟨_, ps_par3 hc hN hi hj hl hij hil hjl hx hy hz p hw hs, fun {fa G Hs H σ ε P E} R h c => s R h fun ds ε1 vs H1 Hs1 h1 l1 R1 e1 r1 => ?_⟩
  split at h1
  · rename_i x1 y1 z1
    cases r1 with
    | cons q1 r1 =>
      cases r1 with
      | cons q2 r1 =>
        cases r1 with
        | cons q3 r1 =>
          cases r1
          obtain ⟨⟨k1, k2, k3⟩, h1⟩ := h1
          exact ⟨_, _, _, rfl, c.nx _ _ _ _ h1 (((R1.putSh k1 q1).putSh (by simpa using k2) q2).putSh (by simpa using k3) q3) e1⟩
  · exact h1.elim
end Pu

set_option Elab.async false
set_option linter.all false
set_option maxRecDepth 100000
set_option maxHeartbeats 4000000
/-! Loops and comprehensions read without the heap. -/
namespace Pu
open PySem PySem.Spec PyProof.Rows L2 Gd RZ
/-- what a walk gives -/
structure WalkQ (K : PySem.W.Frag) (Hs : Hp) (J : It) (ds : List D) : Prop where
  ex : ∃ (Gd : Hp → Prop) (Y : Nat → Hp → V → Hp → Prop), Walk J ds.length Gd Y ∧ (∀ Hs2 H2, Same Hs Hs2 → Same Hs2 H2 → Gd H2) ∧
    ∀ i Hs2 H2 x H3, Same Hs Hs2 → Same Hs2 H2 → Y i H2 x H3 → i < ds.length → ∃ d, ds[i]? = some d ∧ ((H3 = H2 ∧ Rp K Hs2 x d) ∨ ∃ T o, H2 T = none ∧ H3 = upd H2 T o ∧ Rp K (upd Hs2 T o) (.ref T) d ∧ x = .ref T)
structure QI (X : Cx) (F : Fd) (tg iter : Expr) (u : UA) : Prop where
  ex : ∃ wi : TI, PI X tg iter wi ∧ ∀ {fa : Option Addr} {G Hs H : Hp} {σ : L2.St} {ε : En} {A : List D → En → Prop} {R : It → Hp → Prop}, RepE X.K F fa G Hs H σ ε → u ε A →
    (∀ ds ε' J H' Hs', A ds ε' → RepE X.K F fa G Hs' H' σ ε' → Same Hs Hs' → WalkQ X.K Hs' J ds → R J H') → wi σ H R
/-- the items of a value that is walked: a list of one's own is given away -/
def uSeqI (u : UE) : UA := fun ε A => u ε fun p ε1 => asD p ε1 fun x ε2 => match x with
  | .lst ds => A ds ε2
  | .tup ds => A ds ε2
  | .scr ns => A (ns.map D.int) ε2
  | _ => False
def uRg1 (u : UE) : UA := fun ε A => u ε fun p ε1 => match p with
  | .d (.int j) => (-1000000 ≤ j ∧ j ≤ 1000000) ∧ A ((List.range j.toNat).map fun i => .int (i : Nat)) ε1
  | _ => False
def uRg2 (u u2 : UE) : UA := fun ε A => u ε fun p ε1 => u2 ε1 fun q ε2 => match p, q with
  | .d (.int i), .d (.int j) => (-1000000 ≤ i ∧ i ≤ 1000000 ∧ -1000000 ≤ j ∧ j ≤ 1000000) ∧ A ((List.range (j - i).toNat).map fun k => .int (i + (k : Nat))) ε2
  | _, _ => False
def uEnT (u : UE) : UA := fun ε A => u ε fun p ε1 => match seqOf p ε1 with
  | some (false, ds) => A (ds.mapIdx fun i d => .tup [.int (i : Nat), d]) ε1
  | _ => False
section
variable {X : Cx} {F : Fd} {tg e e2 : Expr} {u u2 : UE} {p pos : Pos}
def iSeq (K : PySem.W.Frag) (tl : TE) : TI := fun σ H R => tl σ H fun x H1 => ∃ a, x = .ref a ∧ (((∃ xs, SqL K H1 a xs) ∧ R (Itl K a) H1) ∨ ((∃ xs, SqT K H1 a xs) ∧ R (Itt K a) H1))
theorem pi_seq {l : Expr} {tl : TE} (hl : PE X l tl) : PI X tg l (iSeq X.K tl) := by
  refine ⟨fun pins s σ H R I h => ?_⟩
  refine thn (hl.run pins s σ H _ I h) fun v s1 ⟨x, H1, I1, r1, q1⟩ => ?_
  obtain ⟨a, e, q1⟩ := q1
  subst e
  cases r1
  rcases q1 with ⟨⟨xs, hq⟩, q⟩ | ⟨⟨xs, hq⟩, q⟩
  · obtain ⟨its, rv, p, hz⟩ := I1.list hq
    refine wpAny_pyIter_list p.isList ?_
    refine ⟨s1.heap.objs.size, [s1.heap.objs.size], _, _, H1, rfl, I1.kept (t' := s1.toks) fun b o e => Heap.get?_push_of_some _ e, turn_list a _, ⟨_, Heap.get?_push_size _ rfl, rfl, rfl⟩, fun b hb => ?_, q⟩
    have e : b = s1.heap.objs.size := by simpa using hb
    subst e
    exact I1.fpOk (Nat.le_refl _) (I1.hok.fresh (Nat.le_refl _))
  · obtain ⟨its, rv, p, hz⟩ := I1.tuple hq
    refine wpAny_pyIter_tuple (show s1.heap.IsTuple a its.toArray from p) ?_
    refine ⟨s1.heap.objs.size, [s1.heap.objs.size], _, _, H1, rfl, I1.kept (t' := s1.toks) fun b o e => Heap.get?_push_of_some _ e, turn_tuple a _, ⟨_, Heap.get?_push_size _ rfl, rfl, rfl⟩, fun b hb => ?_, q⟩
    have e : b = s1.heap.objs.size := by simpa using hb
    subst e
    exact I1.fpOk (Nat.le_refl _) (I1.hok.fresh (Nat.le_refl _))
theorem walkQ_at {K : PySem.W.Frag} {Hs : Hp} {J : It} {vs : List V} {ds : List D} {Gd : Hp → Prop} (w : Walk J vs.length Gd (YAt vs)) (t : RpA K Hs vs ds) (hG : ∀ Hs2 H2, Same Hs Hs2 → Same Hs2 H2 → Gd H2) : WalkQ K Hs J ds := by
  refine ⟨Gd, YAt vs, t.len ▸ w, hG, fun i Hs2 H2 x H3 s1 s2 y hi => ?_⟩
  obtain ⟨d, e, r⟩ := t.getV y.2
  exact ⟨d, e, .inl ⟨y.1, r.same s1⟩⟩
theorem sqL_of {K : PySem.W.Frag} {Hs : Hp} {a : Addr} {vs : List V} (h : Rd Hs a (.lst vs)) : SqL K Hs a vs := .inl h
theorem qi_seq (h : QE X F e u) : QI X F tg e (uSeqI u) := by
  obtain ⟨t, p, s⟩ := h.ex
  refine ⟨_, pi_seq p, fun R h c => s R h fun p1 ε1 v H1 Hs1 h1 R1 e1 r1 => ?_⟩
  obtain ⟨Hs2, ε2, x, e2, R2, rx, h2⟩ := asD_ok R1 r1 h1
  split at h2
  · cases rx with
    | lst z t =>
      exact ⟨_, rfl, .inl ⟨⟨_, .inl (rd_same R2.sub z)⟩, c _ ε2 _ H1 Hs2 h2 R2 (e1.trans e2) (walkQ_at walk_list t fun Hs3 H3 s3 s4 => .inl (rd_same s4 (rd_same s3 z)))⟩⟩
  · cases rx with
    | tup z t =>
      exact ⟨_, rfl, .inr ⟨⟨_, Same.sqT R2.sub z⟩, c _ ε2 _ H1 Hs2 h2 R2 (e1.trans e2) (walkQ_at walk_tup t fun Hs3 H3 s3 s4 => Same.sqT s4 (Same.sqT s3 z))⟩⟩
  · cases rx with
    | scr z =>
      exact ⟨_, rfl, .inl ⟨⟨_, R2.sub.seq z⟩, c _ ε2 _ H1 Hs2 h2 R2 (e1.trans e2) (walkQ_at walk_list (rpa_ints _) fun Hs3 H3 s3 s4 => s4.seq (s3.seq z))⟩⟩
  · exact h2.elim
theorem rpa_fn {K : PySem.W.Frag} {Hs : Hp} {f : Nat → Int} : ∀ is : List Nat, RpA K Hs (is.map fun i => V.int (f i)) (is.map fun i => D.int (f i))
  | [] => .nil
  | i :: is => .cons (.int _) (rpa_fn is)
theorem qi_rg1 (hg : Gl X "range") (hm : X.mg "range" = none) (h : QE X F e u) (hst : starEach [e] X.env = (false, eval e X.env) :: starEach [] X.env := by rfl) (hs : starEach [e] X.env = [(false, eval e X.env)] := by rfl) : QI X F tg (.Call (.Name "range" p) [e] [] pos) (uRg1 u) := by
  obtain ⟨t, pe, s⟩ := h.ex
  refine ⟨_, pi_range1 hg hm (pa_cons pe pa_nil hst) hs, fun R h c => s R h fun p1 ε1 v H1 Hs1 h1 R1 e1 r1 => ?_⟩
  split at h1
  · rename_i j
    cases r1
    refine ⟨j, rfl, by omega, by omega, c _ ε1 _ H1 Hs1 h1.2 R1 e1 ?_⟩
    have w := walk_rg (lo := 0) (n := j.toNat)
    refine walkQ_at w ?_ fun _ _ _ _ => trivial
    unfold rgG
    simp only [Int.zero_add]
    exact rpa_fn _
  · exact h1.elim
theorem qi_rg2 (hg : Gl X "range") (hm : X.mg "range" = none) (h : QE X F e u) (h2 : QE X F e2 u2) (hst : starEach [e, e2] X.env = (false, eval e X.env) :: starEach [e2] X.env := by rfl) (hst2 : starEach [e2] X.env = (false, eval e2 X.env) :: starEach [] X.env := by rfl)
    (hs : starEach [e, e2] X.env = [(false, eval e X.env), (false, eval e2 X.env)] := by rfl) (hs2 : starEach [e2] X.env = [(false, eval e2 X.env)] := by rfl) : QI X F tg (.Call (.Name "range" p) [e, e2] [] pos) (uRg2 u u2) := by
  obtain ⟨t, pe, s⟩ := h.ex
  obtain ⟨t2, pe2, s2⟩ := h2.ex
  refine ⟨_, pi_range2 hg hm (pa_cons pe (pa_cons pe2 pa_nil hst2) hst) hs hs2, fun R h c => s R h fun p1 ε1 v H1 Hs1 h1 R1 e1 r1 => s2 R1 h1 fun p2 ε2 w H2 Hs2 h2 R2 e2 r2 => ?_⟩
  split at h2
  · rename_i i j
    cases r1
    cases r2
    refine ⟨i, j, rfl, by omega, c _ ε2 _ H2 Hs2 h2.2 R2 (e1.trans e2) ?_⟩
    have w := walk_rg (lo := i) (n := (j - i).toNat)
    refine walkQ_at w ?_ fun _ _ _ _ => trivial
    unfold rgG
    exact rpa_fn _
  · exact h2.elim
theorem qi_enT {q : Pos} {es : List Expr} {n : Nat} (hg : Gl X "enumerate") (hm : X.mg "enumerate" = none) (h : QE X F e u) (hst : starEach [e] X.env = (false, eval e X.env) :: starEach [] X.env := by rfl) (hs : starEach [e] X.env = [(false, eval e X.env)] := by rfl) :
    QI X F (.Tuple es n q) (.Call (.Name "enumerate" p) [e] [] pos) (uEnT u) := by
  obtain ⟨t, pe, s⟩ := h.ex
  refine ⟨_, pi_enT hg hm (pa_cons pe pa_nil hst) hs, fun R h c => s R h fun p1 ε1 v H1 Hs1 h1 R1 e1 r1 => ?_⟩
  split at h1
  · rename_i ds e
    have rt := tupOf_ok R1 r1 e
    cases rt with
    | @tup _ vs _ z t =>
      refine ⟨_, _, rfl, Same.sqT R1.sub z, c _ ε1 _ H1 Hs1 h1 R1 e1 ⟨_, YPair (fun i => some (.int (i : Nat))) (fun i => vs[i]?), ?_, fun Hs2 H2 s1 s2 => Same.sqT s2 (Same.sqT s1 z), fun i Hs2 H2 x H3 s1 s2 y hi => ?_⟩⟩
      · rw [List.length_mapIdx, ← t.len]
        exact walk_enT
      · obtain ⟨T, x1, x2, f1, f2, f3, f4, f5⟩ := y
        cases f4
        obtain ⟨d, e2, r⟩ := t.getV f5
        refine ⟨.tup [.int (i : Nat), d], ?_, .inr ⟨T, _, f2, f3, .tup (.of upd_same) (.cons (.int _) (.cons ((r.same s1).same (same_new (none_of_same s2 f2))) .nil)), f1⟩⟩
        rw [List.getElem?_mapIdx, e2]
        rfl
  · exact h1.elim
end

/-! ### for -/
def ForX (ug : UG) (ub : US) (P : PEn) (_t : Tg (ug, ub, P)) (ds : List D) (ε1 : En) : Prop := ∃ Inv : Nat → En → Prop, Inv 0 ε1 ∧
  (∀ i d ε2, ds[i]? = some d → Inv i ε2 → ug d ε2 fun ε3 => ub { P with nx := Inv (i + 1), ct := Inv (i + 1), bk := P.nx } ε3) ∧ ∀ ε2, Inv ds.length ε2 → P.nx ε2
def uFor (ui : UA) (ug : UG) (ub : US) : US := fun P ε => ui ε fun ds ε1 => ForX ug ub P .mk ds ε1
section
variable {X : Cx} {F : Fd} {tg iter : Expr} {body : List Stmt} {ui : UA} {ug : UG} {ub : US} {is : List Nat} {pos : Pos}
theorem qs_for (hp : PassesOwn (model X.prog X.w) X.A X.env X.xe) (hc : X.calm = true) (hi : QI X F tg iter ui) (hg : QG X F tg is ug) (hb : QSs X F body ub)
    (hs : ∀ x, foldedSetIterable iter X.env x = pure x := by intro _; rfl) : QS X F (.For tg iter body [] pos) (uFor ui ug ub) := by
  obtain ⟨t, p, s⟩ := hi.ex
  obtain ⟨t1, p1, s1⟩ := hg.ex
  obtain ⟨t2, p2, s2⟩ := hb.ex
  refine ⟨_, ps_for hp hc p p1 p2 hs, fun {fa G Hs H σ ε P E} R h c => s R h fun ds ε1 J H1 Hs1 h1 R1 e1 w => ?_⟩
  obtain ⟨Inv, i0, step, fin⟩ := h1
  obtain ⟨Gd, Y, w, hG, hY⟩ := w.ex
  refine for_it w (fun i σ' H' => ∃ ε' Hs', Inv i ε' ∧ RepE X.K F fa G Hs' H' σ' ε' ∧ Same Hs1 Hs') ⟨ε1, Hs1, i0, R1, Same.refl _⟩ (fun i σ' H' _ ⟨ε', Hs', _, R', e'⟩ => hG Hs' H' e' R'.sub) ?_ fun σ' H' ⟨ε', Hs', a, R', e'⟩ => c.nx _ _ _ _ (fin ε' a) R' (e1.trans e')
  rintro i x σ' H' H3 hi ⟨ε', Hs', a, R', e'⟩ y
  obtain ⟨d, ed, hd⟩ := hY i Hs' H' x H3 e' R'.sub y hi
  have go : ∀ {Hs3 : Hp}, RepE X.K F fa G Hs3 H3 σ' ε' → Same Hs1 Hs3 → Rp X.K Hs3 x d → t1 x σ' H3 fun σ2 H2 => t2 { E with nx := fun σ' H' => ∃ ε' Hs', Inv (i + 1) ε' ∧ RepE X.K F fa G Hs' H' σ' ε' ∧ Same Hs1 Hs', ct := fun σ' H' => ∃ ε' Hs', Inv (i + 1) ε' ∧ RepE X.K F fa G Hs' H' σ' ε' ∧ Same Hs1 Hs', bk := E.nx } σ2 H2 := by
    intro Hs3 R3 e3 rx
    refine s1 R3 rx (step i d ε' ed a) fun ε4 σ4 H4 Hs4 a4 R4 e4 _ _ => s2 R4 a4 ?_
    exact ⟨fun ε5 σ5 H5 Hs5 a5 R5 e5 => ⟨ε5, Hs5, a5, R5, (e3.trans e4).trans e5⟩, fun d' ε5 v σ5 H5 Hs5 a5 R5 e5 r5 => c.rt d' ε5 v σ5 H5 Hs5 a5 R5 (((e1.trans e3).trans e4).trans e5) r5,
      fun ε5 σ5 H5 Hs5 a5 R5 e5 => c.nx ε5 σ5 H5 Hs5 a5 R5 (((e1.trans e3).trans e4).trans e5), fun ε5 σ5 H5 Hs5 a5 R5 e5 => ⟨ε5, Hs5, a5, R5, (e3.trans e4).trans e5⟩⟩
  rcases hd with ⟨rfl, rx⟩ | ⟨T, o, f1, rfl, rx, rfl⟩
  · exact go R' e' rx
  · exact go (R'.new f1) (e'.trans (same_new (none_of_same R'.sub f1))) rx
end

/-! ### while -/
def WhX (vt : UT) (ub : US) (P : PEn) (_t : Tg (vt, ub, P)) (ε : En) : Prop := ∃ Inv : Nat → En → Prop, (∃ m, Inv m ε) ∧ ∀ m ε1, Inv m ε1 → vt ε1 fun b ε2 => if b = true then ub { P with nx := fun ε3 => ∃ m', m' < m ∧ Inv m' ε3, ct := fun ε3 => ∃ m', m' < m ∧ Inv m' ε3, bk := P.nx } ε2 else P.nx ε2
def uWhile (vt : UT) (ub : US) : US := fun P ε => WhX vt ub P .mk ε
section
variable {X : Cx} {F : Fd} {cd : Expr} {body : List Stmt} {vt : UT} {ub : US} {pos : Pos}
theorem qs_while (hp : PassesOwn (model X.prog X.w) X.A X.env X.xe) (hc : QT X F cd vt) (hb : QSs X F body ub) : QS X F (.While cd body [] pos) (uWhile vt ub) := by
  obtain ⟨t, p, s⟩ := hc.ex
  obtain ⟨t2, p2, s2⟩ := hb.ex
  refine ⟨_, ps_while hp p p2, fun {fa G Hs H σ ε P E} R h c => ?_⟩
  obtain ⟨Inv, ⟨m0, i0⟩, step⟩ := h
  refine ⟨fun m σ' H' => ∃ ε' Hs', Inv m ε' ∧ RepE X.K F fa G Hs' H' σ' ε' ∧ Same Hs Hs', ⟨m0, ε, Hs, i0, R, Same.refl _⟩, ?_⟩
  rintro m σ' H' ⟨ε', Hs', a, R', e'⟩
  refine s R' (step m ε' a) fun b ε2 H2 Hs2 h2 R2 e2 => ?_
  cases b with
  | false => exact c.nx _ _ _ _ h2 R2 (e'.trans e2)
  | true =>
    refine ⟨fun σ5 H5 => ∃ ε5 Hs5, (∃ m', m' < m ∧ Inv m' ε5) ∧ RepE X.K F fa G Hs5 H5 σ5 ε5 ∧ Same Hs Hs5, fun σ5 H5 ⟨ε5, Hs5, ⟨m', hm, a5⟩, R5, e5⟩ => ⟨m', hm, ε5, Hs5, a5, R5, e5⟩, s2 R2 h2 ?_⟩
    exact ⟨fun ε5 σ5 H5 Hs5 a5 R5 e5 => ⟨ε5, Hs5, a5, R5, (e'.trans e2).trans e5⟩, fun d' ε5 v σ5 H5 Hs5 a5 R5 e5 r5 => c.rt d' ε5 v σ5 H5 Hs5 a5 R5 ((e'.trans e2).trans e5) r5,
      fun ε5 σ5 H5 Hs5 a5 R5 e5 => c.nx ε5 σ5 H5 Hs5 a5 R5 ((e'.trans e2).trans e5), fun ε5 σ5 H5 Hs5 a5 R5 e5 => ⟨ε5, Hs5, a5, R5, (e'.trans e2).trans e5⟩⟩
end
end Pu

set_option Elab.async false
set_option linter.all false
set_option maxRecDepth 100000
set_option maxHeartbeats 4000000
/-! Comprehensions read without the heap. -/
namespace Pu
open PySem PySem.Spec PyProof.Rows L2 Gd RZ
/-! ### terms that don't speak of the context -/
def tE (K : PySem.W.Frag) (F : Fd) (u : UE) : TE := fun σ H Q => ∃ (fa : Option Addr) (G Hs : Hp) (ε : En) (A : PV → En → Prop), RepE K F fa G Hs H σ ε ∧ u ε A ∧ Ck K F fa G Hs σ A Q
def tT (K : PySem.W.Frag) (F : Fd) (u : UT) : TT := fun σ H Q => ∃ (fa : Option Addr) (G Hs : Hp) (ε : En) (A : Bool → En → Prop), RepE K F fa G Hs H σ ε ∧ u ε A ∧ Cb K F fa G Hs σ A Q
def tG (K : PySem.W.Frag) (F : Fd) (is : List Nat) (u : UG) : TG := fun v σ H Q => ∃ (fa : Option Addr) (G Hs : Hp) (ε : En) (d : D) (A : En → Prop), RepE K F fa G Hs H σ ε ∧ Rp K Hs v d ∧ u d ε A ∧ Cg K F fa G Hs σ is A Q
section
variable {X : Cx} {F : Fd} {e : Expr}
theorem QE.can {u : UE} (h : QE X F e u) : PE X e (tE X.K F u) := by
  obtain ⟨t, p, s⟩ := h.ex
  exact ⟨fun pins sh σ H Q I ⟨fa, G, Hs, ε, A, R, h, c⟩ => p.run pins sh σ H Q I (s R h c)⟩
theorem QT.can {u : UT} (h : QT X F e u) : PT X e (tT X.K F u) := by
  obtain ⟨t, p, s⟩ := h.ex
  exact ⟨fun pins sh σ H Q I ⟨fa, G, Hs, ε, A, R, h, c⟩ => p.run pins sh σ H Q I (s R h c)⟩
theorem QG.can {is : List Nat} {u : UG} (h : QG X F e is u) : PG X e (tG X.K F is u) := by
  obtain ⟨t, p, s⟩ := h.ex
  exact ⟨fun pins sh σ H v w Q I r ⟨fa, G, Hs, ε, d, A, R, rd, h, c⟩ => p.run pins sh σ H v w Q I r (s R rd h c)⟩
end
/-- the tests of a comprehension -/
structure QTs (X : Cx) (F : Fd) (es : List Expr) (u : UT) : Prop where
  ex : PTs X es (tT X.K F u)
def uYes : UT := fun ε A => A true ε
section
variable {X : Cx} {F : Fd} {e : Expr}
theorem qts_nil : QTs X F [] uYes := ⟨⟨fun pins sh σ H Q I ⟨fa, G, Hs, ε, A, R, h, c⟩ => pts_nil.run pins sh σ H Q I (c true ε H Hs h R (Same.refl _))⟩⟩
theorem qts_one {u : UT} (h : QT X F e u) : QTs X F [e] u := ⟨pts_one h.can⟩
end
/-! ### slots forgotten -/
def wipeL (sl : List Sl) : List Nat → List Sl
  | [] => sl
  | v :: vs => (wipeL sl vs).set v .un
def wipeE (ε : En) (vs : List Nat) : En := { ε with sl := wipeL ε.sl vs }
theorem wipeL_len (sl : List Sl) : ∀ vs : List Nat, (wipeL sl vs).length = sl.length
  | [] => rfl
  | v :: vs => by rw [wipeL, List.length_set, wipeL_len sl vs]
theorem wipeL_ne (sl : List Sl) {i : Nat} : ∀ {vs : List Nat}, i ∉ vs → (wipeL sl vs)[i]? = sl[i]?
  | [], _ => rfl
  | v :: vs, h => by
    rw [wipeL, List.getElem?_set_ne (fun z => h (by rw [z]; exact List.mem_cons_self))]
    exact wipeL_ne sl fun z => h (List.mem_cons_of_mem _ z)
theorem wipeL_mem (sl : List Sl) {i : Nat} {s : Sl} : ∀ {vs : List Nat}, i ∈ vs → (wipeL sl vs)[i]? = some s → s = .un
  | v :: vs, h, e => by
    rw [wipeL, List.getElem?_set] at e
    split at e
    · split at e
      · cases e
        rfl
      · cases e
    · rename_i hv
      rcases List.mem_cons.mp h with z | z
      · exact absurd z.symm hv
      · exact wipeL_mem sl z e
theorem wipe_ne (σ : L2.St) {i : Nat} : ∀ {vs : List Nat}, i ∉ vs → (wipe σ vs)[i]? = σ[i]?
  | [], _ => rfl
  | v :: vs, h => by
    rw [wipe, List.getElem?_set_ne (fun z => h (by rw [z]; exact List.mem_cons_self))]
    exact wipe_ne σ fun z => h (List.mem_cons_of_mem _ z)
theorem wipe_mem (σ : L2.St) {i : Nat} : ∀ {vs : List Nat}, i ∈ vs → i < σ.length → (wipe σ vs)[i]? = some none
  | v :: vs, h, hl => by
    rw [wipe]
    by_cases hv : v = i
    · subst hv
      rw [List.getElem?_set_self (by rw [wipe_length]; exact hl)]
    · rw [List.getElem?_set_ne hv]
      rcases List.mem_cons.mp h with z | z
      · exact absurd z.symm hv
      · exact wipe_mem σ z hl
theorem wipe_agree {σ σ' : L2.St} {vs : List Nat} (hl : σ'.length = σ.length) (h : ∀ i, i ∉ vs → σ'[i]? = σ[i]?) : wipe σ' vs = wipe σ vs := by
  refine List.ext_getElem? fun i => ?_
  by_cases hi : i ∈ vs
  · by_cases hlt : i < σ.length
    · rw [wipe_mem σ hi hlt, wipe_mem σ' hi (by rw [hl]; exact hlt)]
    · rw [List.getElem?_eq_none (by rw [wipe_length, hl]; omega), List.getElem?_eq_none (by rw [wipe_length]; omega)]
  · rw [wipe_ne σ hi, wipe_ne σ' hi, h i hi]
theorem wipe_wipe (σ : L2.St) (vs : List Nat) : wipe (wipe σ vs) vs = wipe σ vs := wipe_agree (wipe_length σ vs) fun i hi => wipe_ne σ hi
section
variable {K : PySem.W.Frag} {F : Fd} {fa : Option Addr} {G Hs H : Hp} {σ σ' : L2.St} {ε : En}
theorem RepE.wipe (R : RepE K F fa G Hs H σ ε) : ∀ vs : List Nat, RepE K F fa G Hs H (L2.wipe σ vs) (wipeE ε vs)
  | [] => R
  | v :: vs => by
    have R1 := R.wipe vs
    show RepE K F fa G Hs H ((L2.wipe σ vs).set v none) { wipeE ε vs with sl := (wipeE ε vs).sl.set v .un }
    by_cases hv : v < (wipeE ε vs).sl.length
    · exact R1.putUn hv
    · rw [List.set_eq_of_length_le (by rw [R1.len]; omega), List.set_eq_of_length_le (by omega)]
      exact R1
/-- slots of which nothing is known may hold anything -/
theorem RepE.swap (R : RepE K F fa G Hs H σ ε) (hl : σ'.length = σ.length) (h : ∀ (i : Nat) (s : Sl), ε.sl[i]? = some s → s ≠ Sl.un → σ'[i]? = σ[i]?) : RepE K F fa G Hs H σ' ε := by
  refine ⟨R.sub, R.grd, R.fd, hl.trans R.len, fun i d e => ?_, fun i o ds e => ?_, fun i e => ?_, fun i j a oi oj di dj hij e1 e2 f1 f2 => ?_⟩
  · rw [h i _ e (fun z => nomatch z)]
    exact R.sh i d e
  · rw [h i _ e (fun z => nomatch z)]
    exact R.ow i o ds e
  · rw [h i _ e (fun z => nomatch z)]
    exact R.fdS i e
  · rw [h i _ e1 (fun z => nomatch z)] at f1
    rw [h j _ e2 (fun z => nomatch z)] at f2
    exact R.inj i j a oi oj di dj hij e1 e2 f1 f2
theorem RepE.unwipe {vs : List Nat} {ε0 : En} (R : RepE K F fa G Hs H (L2.wipe σ vs) (wipeE ε0 vs)) : RepE K F fa G Hs H σ (wipeE ε0 vs) := by
  refine R.swap (wipe_length σ vs).symm fun i s e hs => ?_
  by_cases hi : i ∈ vs
  · exact absurd (wipeL_mem ε0.sl hi e) hs
  · exact (wipe_ne σ hi).symm
/-- another list where a guard stands -/
theorem RepE.reguard {a : Addr} {us vs : List V} (hG : G a = none) (R : RepE K F fa (upd G a (.lst us)) Hs H σ ε) : RepE K F fa (upd G a (.lst vs)) Hs (upd H a (.lst vs)) σ ε := by
  obtain ⟨R1, h1, h2, h3, h4⟩ := RepE.unguard hG R
  refine ⟨fun b o q => ?_, fun b o q => ?_, fun d q => ?_, R.len, R.sh, fun j oj dj q => ?_, R.fdS, R.inj⟩
  · rw [upd_ne (fun z => by subst z; rw [h1] at q; cases q)]
    exact R.sub b o q
  · by_cases hb : b = a
    · subst hb
      rw [upd_same] at q ⊢
      exact ⟨q, h1⟩
    · rw [upd_ne hb] at q ⊢
      exact R1.grd b o q
  · obtain ⟨q1, q2, o, q3, q4⟩ := R1.fd d q
    have ne : d ≠ a := fun z => by subst z; exact h2 q
    exact ⟨q1, by rw [upd_ne ne]; exact q2, o, by rw [upd_ne ne]; exact q3, q4⟩
  · obtain ⟨b, ws, q1, q2, q3, q4, q5, q6⟩ := R1.ow j oj dj q
    have ne : b ≠ a := fun z => by subst z; exact h4 j oj dj q q1
    exact ⟨b, ws, q1, q2, by rw [upd_ne ne]; exact q3, q4, by rw [upd_ne ne]; exact q5, q6⟩
/-- an object that nobody holds yet -/
theorem RepE.bare (R : RepE K F fa G Hs H σ ε) {a : Addr} {o : HO} (ha : H a = none) : RepE K F fa (upd G a o) Hs (upd H a o) σ ε ∧ G a = none := by
  have hs : Hs a = none := none_of_same R.sub ha
  have hg : G a = none := by
    cases z : G a with
    | none => rfl
    | some o =>
      have := (R.grd a o z).1
      rw [ha] at this
      cases this
  have hf : fa ≠ some a := fun z => by
    obtain ⟨_, _, o, h3, _⟩ := R.fd a z
    rw [ha] at h3
    cases h3
  have ho : ∀ (j : Nat) (oj : Option Addr) (dj : List D), ε.sl[j]? = some (.ow oj dj) → σ[j]? ≠ some (some (.ref a)) := fun j oj dj e z => by
    obtain ⟨b, us, q1, _, _, _, q5, _⟩ := R.ow j oj dj e
    rw [z] at q1
    cases q1
    rw [ha] at q5
    cases q5
  have R1 : RepE K F fa G Hs (upd H a o) σ ε := by
    refine R.move (B := ε.fs) (Same.refl _) (R.sub.trans (same_new ha)) (fun b o e _ => ?_) (fun b z => .inl z) fun d e => ?_
    · rw [upd_ne (ne_of_none e ha)]
      exact e
    · obtain ⟨h1, h2, o, h3, h4⟩ := R.fd d e
      refine ⟨o, ?_, h4⟩
      rw [upd_ne (ne_of_none h3 ha)]
      exact h3
  exact ⟨R1.guard hs hf ho upd_same, hg⟩
end
/-! ### comprehensions -/
def LcX (ug : UG) (ut : UT) (ue : UE) (vs : List Nat) (A : List D → En → Prop) (_t : Tg (ug, ut, ue, vs, A)) (ds : List D) (ε1 : En) : Prop := ds.length ≤ 1000000 ∧ ∃ Inv : Nat → List D → En → Prop, Inv 0 [] (wipeE ε1 vs) ∧
  (∀ i d acc ε2, ds[i]? = some d → Inv i acc ε2 → ug d ε2 fun ε3 => ut ε3 fun b ε4 => if b = true then ue ε4 fun p ε5 => asD p ε5 fun x ε6 => Inv (i + 1) (acc ++ [x]) (wipeE ε6 vs) else Inv (i + 1) acc (wipeE ε4 vs)) ∧
  ∀ acc ε2, Inv ds.length acc ε2 → A acc ε2
def uLc (ui : UA) (ug : UG) (ut : UT) (ue : UE) (vs : List Nat) : UA := fun ε A => ui ε fun ds ε1 => LcX ug ut ue vs A .mk ds ε1
section
variable {X : Cx} {F : Fd} {elt tg iter : Expr} {ifs : List Expr} {scope : Scope} {own : List (Str × Nat)} {pos spos : Pos} {ui : UA} {ug : UG} {ut : UT} {ue : UE} {is : List Nat}
theorem lcT {K : PySem.W.Frag} {vs : List Nat} (hsub : ∀ i ∈ is, i ∈ vs) {wi : TI} (s : ∀ {fa : Option Addr} {G Hs H : Hp} {σ : L2.St} {ε : En} {A : List D → En → Prop} {R : It → Hp → Prop}, RepE K F fa G Hs H σ ε → ui ε A →
    (∀ ds ε' J H' Hs', A ds ε' → RepE K F fa G Hs' H' σ ε' → Same Hs Hs' → WalkQ K Hs' J ds → R J H') → wi σ H R)
    {fa : Option Addr} {G Hs H : Hp} {σ : L2.St} {ε : En} {A : List D → En → Prop} {Q : VK} (R : RepE K F fa G Hs H σ ε) (h : uLc ui ug ut ue vs ε A) (c : Cn K F fa G Hs σ A Q) :
    tLc wi (tG K F is ug) (tT K F ut) (tE K F ue) vs σ H Q := by
  refine s R h fun ds ε1 J H1 Hs1 h1 R1 e1 w => fun Da hDa => ?_
  obtain ⟨hl, Inv, i0, step, fin⟩ := h1
  obtain ⟨Gd, Y, w, hG, hY⟩ := w.ex
  obtain ⟨Rb, hGa⟩ := R1.bare (o := .lst []) hDa
  refine lc_it w (fun i H' => ∃ acc vacc ε0 Hs', Inv i acc (wipeE ε0 vs) ∧ RepE K F fa (upd G Da (.lst vacc)) Hs' H' (L2.wipe σ vs) (wipeE ε0 vs) ∧ Same Hs1 Hs' ∧ RpA K Hs' vacc acc ∧ acc.length ≤ i)
    ⟨[], [], ε1, Hs1, i0, Rb.wipe vs, Same.refl _, .nil, Nat.le_refl _⟩ (fun i H' _ ⟨_, _, _, Hs', _, R', e', _⟩ => hG Hs' H' e' R'.sub) ?_ ?_
  · rintro i x H' H3 hi ⟨acc, vacc, ε0, Hs', a, R', e', ra, la⟩ y
    obtain ⟨d, ed, hd⟩ := hY i Hs' H' x H3 e' R'.sub y hi
    have go : ∀ {Hs3 : Hp}, RepE K F fa (upd G Da (.lst vacc)) Hs3 H3 (L2.wipe σ vs) (wipeE ε0 vs) → Same Hs1 Hs3 → RpA K Hs3 vacc acc → Rp K Hs3 x d → _ := fun {Hs3} R3 e3 ra3 rx =>
      (⟨fa, _, Hs3, _, d, _, R3, rx, step i d acc _ ed a, fun ε4 σ4 H4 Hs4 a4 R4 e4 l4 g4 => ?_⟩ : tG K F is ug x (L2.wipe σ vs) H3 fun σ2 H2 => L2.wipe σ2 vs = L2.wipe σ vs ∧ tT K F ut σ2 H2 fun b H3 =>
        if b = true then tE K F ue σ2 H3 fun y H4 => ∃ acc, H4 Da = some (.lst acc) ∧ acc.length < sizeLine ∧ (∃ acc' vacc ε0 Hs', Inv (i + 1) acc' (wipeE ε0 vs) ∧ RepE K F fa (upd G Da (.lst vacc)) Hs' (upd H4 Da (.lst (acc ++ [y]))) (L2.wipe σ vs) (wipeE ε0 vs) ∧ Same Hs1 Hs' ∧ RpA K Hs' vacc acc' ∧ acc'.length ≤ i + 1)
        else (∃ acc vacc ε0 Hs', Inv (i + 1) acc (wipeE ε0 vs) ∧ RepE K F fa (upd G Da (.lst vacc)) Hs' H3 (L2.wipe σ vs) (wipeE ε0 vs) ∧ Same Hs1 Hs' ∧ RpA K Hs' vacc acc ∧ acc.length ≤ i + 1))
    · rcases hd with ⟨rfl, rx⟩ | ⟨T, o, f1, rfl, rx, rfl⟩
      · exact go R' e' ra rx
      · have s1 := same_new (o := o) (none_of_same R'.sub f1)
        exact go (R'.new f1) (e'.trans s1) (ra.same s1) rx
    · have we : L2.wipe σ4 vs = L2.wipe σ vs := by
        rw [← wipe_wipe σ vs]
        exact wipe_agree l4 fun i hi => g4 i fun z => hi (hsub i z)
      refine ⟨we, fa, _, Hs4, _, _, R4, a4, fun b ε5 H5 Hs5 a5 R5 e5 => ?_⟩
      cases b with
      | false =>
        refine ⟨acc, vacc, ε5, Hs5, a5, ?_, (e3.trans e4).trans e5, (ra3.same e4).same e5, Nat.le_succ_of_le la⟩
        rw [← we]
        exact R5.wipe vs
      | true =>
        refine ⟨fa, _, Hs5, _, _, R5, a5, fun p ε6 yv H6 Hs6 a6 R6 e6 r6 => ?_⟩
        obtain ⟨Hs7, ε7, z, e7, R7, rz, a7⟩ := asD_ok R6 r6 a6
        have ra7 := ((ra3.same e4).same e5).same (e6.trans e7)
        refine ⟨vacc, (R7.grd Da _ upd_same).1, ?_, acc ++ [z], vacc ++ [yv], ε7, Hs7, a7, ?_, ((e3.trans e4).trans e5).trans (e6.trans e7), ra7.append (.cons rz .nil), ?_⟩
        · rw [ra7.len, sizeLine_eq]
          omega
        · rw [← we]
          exact (R7.wipe vs).reguard hGa
        · rw [List.length_append, List.length_singleton]
          omega
  · rintro H' ⟨acc, vacc, ε0, Hs', a, R', e', ra, la⟩
    obtain ⟨R2, k1, k2, k3, k4⟩ := RepE.unguard hGa (R'.unwipe)
    exact c acc _ Da vacc H' Hs' (fin acc _ a) R2 (e1.trans e') k1 hGa k2 k4 k3 ra
theorem qn_lc (hc : X.calm = true) (hN : X.N.Nodup) (hi : QI X F tg iter ui) (ok : BlkOk X.N X.env.scope scope own)
    (hg : ∀ (s : Shared) (H : Hp) (C : Addr) (cl : List (Str × Addr)) (fp : List Addr), QG (X.blk s H scope (compEnvC scope cl C X.env) fp) F tg is ug) (ht : ∀ (s : Shared) (H : Hp) (C : Addr) (cl : List (Str × Addr)) (fp : List Addr), QTs (X.blk s H scope (compEnvC scope cl C X.env) fp) F ifs ut)
    (he : ∀ (s : Shared) (H : Hp) (C : Addr) (cl : List (Str × Addr)) (fp : List Addr), QE (X.blk s H scope (compEnvC scope cl C X.env) fp) F elt ue) (hsub : ∀ i ∈ is, i ∈ own.map (·.2) := by decide) (hs : ∀ x, foldedSetIterable iter X.env x = pure x := by intro _; rfl) :
    QN X F (.ListComp elt [⟨tg, iter, ifs, 0⟩] scope pos) (uLc ui ug ut ue (own.map (·.2))) := by
  obtain ⟨t, p, s⟩ := hi.ex
  exact ⟨_, pe_lc (g := tG X.K F is ug) (tt := tT X.K F ut) (te := tE X.K F ue) hc hN p ok (fun a b c d e => (hg a b c d e).can) (fun a b c d e => (ht a b c d e).ex) (fun a b c d e => (he a b c d e).can) hs, fun R h c => lcT hsub s R h c⟩
theorem qs_setLc {i : Nat} {y : Str} {py : Pos} (hc : X.calm = true) (hN : X.N.Nodup) (hy : X.N[i]? = some y) (hyl : X.env.scope.names.lookup y = some .local)
    (hsw : swapsWith (.ListComp elt [⟨tg, iter, ifs, 0⟩] scope pos) (some (.Name y py)) spos.line X.env = pure true) (hi : QI X F tg iter ui) (ok : BlkOk X.N X.env.scope scope own)
    (hg : ∀ (s : Shared) (H : Hp) (C : Addr) (cl : List (Str × Addr)) (fp : List Addr), QG (X.blk s H scope (compEnvC scope cl C X.env) fp) F tg is ug) (ht : ∀ (s : Shared) (H : Hp) (C : Addr) (cl : List (Str × Addr)) (fp : List Addr), QTs (X.blk s H scope (compEnvC scope cl C X.env) fp) F ifs ut)
    (he : ∀ (s : Shared) (H : Hp) (C : Addr) (cl : List (Str × Addr)) (fp : List Addr), QE (X.blk s H scope (compEnvC scope cl C X.env) fp) F elt ue) (hsub : ∀ i ∈ is, i ∈ own.map (·.2) := by decide) (hs : ∀ x, foldedSetIterable iter X.env x = pure x := by intro _; rfl) :
    QS X F (.Assign [.Name y py] (.ListComp elt [⟨tg, iter, ifs, 0⟩] scope pos) spos) (uSet i (uRn (uLc ui ug ut ue (own.map (·.2))))) := by
  obtain ⟨t, p, s⟩ := hi.ex
  refine ⟨_, ps_setLc (g := tG X.K F is ug) (tt := tT X.K F ut) (te := tE X.K F ue) hc hN hy hyl hsw p ok (fun a b c d e => (hg a b c d e).can) (fun a b c d e => (ht a b c d e).ex) (fun a b c d e => (he a b c d e).can) hs, fun {fa G Hs H σ ε P E} R h c => ?_⟩
  refine lcT hsub s R h fun ds ε1 a vs H1 Hs1 h1 R1 e1 g1 g2 g3 g4 g5 r1 => ?_
  exact setT c (.n ds) ε1 _ H1 Hs1 h1 R1 e1 ⟨a, vs, rfl, g1, g2, g3, g4, g5, r1⟩
end
/-- the scope of a block inside, from that of the def and that of the block around -/
def relS (sc scope : Scope) : Scope := { scope with names := scope.names.map fun (n, k) => if (k == NameKind.free && sc.kind == .function && sc.names.lookup n == some .cell) then (n, NameKind.cell) else (n, k) }
theorem blkOk_in {N : List Str} {sc scope0 scope : Scope} {own : List (Str × Nat)} {cl : List (Str × Addr)} {C : Addr} {env : Env} (he : env.scope = sc) (h : blkC N (relS sc scope0) scope own = true) : BlkOk N (compEnvC scope0 cl C env).scope scope own := by
  subst he
  exact blkOk_by h
end Pu

set_option Elab.async false
set_option linter.all false
set_option maxRecDepth 100000
namespace Gd
open PySem PySem.Spec PyProof.Rows L2

/-- the law's end from such a promise: what an abstract heap that tracks at most the script gives -/
theorem endGD {P : Program} {w : World} {K : PySem.W.Frag} {mg mb : Str → Option Value} {k : Nat} {fa a : Addr} {fd : FuncData} {x : Str} {sp : Sp} {s1 : Shared} {vs : List Value} {H : Hp}
    (kin : K.In s1.heap) (glob : s1.heap.Ns mainGlobals mg) (bn : s1.heap.Ns builtinsNs mb) (bb : ∀ x : Str, x ≠ "__name__" → mb x = bootBuiltins x) (lim : s1.heap.NoLimit) (dig : s1.heap.NoDigits) (gens : s1.gens = #[])
    (hat : s1.heap.get? a = some { cls := .type "list", data := .seq vs.toArray }) (hr : Room k callerA)
    (F : ∀ base : Heap, K.In base → base.Ns mainGlobals mg → base.NoDigits → FnG P w K mg base k fa fd [x] sp) (bind : ∀ (s : Shared) (u : Value), BindsTo s fd ⟨[u], []⟩ [(x, u)])
    (sps : sp [.ref a] H (fun v _ => v = .bl true) fun _ _ _ => False) (only : Only H) (ok : HOk P w H s1.heap) (isA : ∀ b, H b ≠ none → b = a) (noK : H a ≠ none → K.lookup a = none) :
    codeAny (model P w) callerA (.call (.ref fa) ⟨[.ref a], []⟩) (fun r s' => r = .ok (.ret (.bool true)) ∧ OldK s1.heap s'.heap ∧ s'.os = s1.os ∧ AllBare s'.gens) s1 := by
  have none_of : ∀ {b : Addr}, b ≠ a → H b = none := fun {b} hb => by
    cases q : H b with
    | none => rfl
    | some u => exact absurd (isA b (by rw [q]; exact Option.some_ne_none u)) hb
  have none_dict : ∀ {b : Addr} {o : Obj} {es : Array DictEntry} {n : Nat}, s1.heap.get? b = some o → o.data = .dict es n → H b = none := by
    intro b o es n e d
    refine none_of fun z => ?_
    subst z
    cases hat.symm.trans e
    cases d
  have ns_of : ∀ {b : Addr} {m : Str → Option Value}, s1.heap.Ns b m → (hidT s1.heap H).Ns b m := by
    rintro b m ⟨o, es, n, e, d, more⟩
    exact ⟨o, es, n, hidT_get e (none_dict e d), d, more⟩
  have kinB : K.In (hidT s1.heap H) := by
    intro b o e
    refine hidT_get (kin b o e) ?_
    by_cases hb : b = a
    · subst hb
      cases q : H b with
      | none => rfl
      | some u =>
        have z := noK (by rw [q]; exact Option.some_ne_none u)
        rw [z] at e
        cases e
    · exact none_of hb
  have md : Mod K mg (hidT s1.heap H) := ⟨kinB, ns_of glob, ⟨mb, ns_of bn, bb⟩, let ⟨mc, c1, c2⟩ := lim; ⟨mc, ns_of c1, c2⟩⟩
  have e0 : Env0 P w K mg (hidT s1.heap H) callerA [] s1 H :=
    { frames := rfl, mod := md, bs := fun b o e => of_hidT e, bsz := Nat.le_of_eq (hidT_size _ _), funs := trivial, frf := fun _ z => (List.not_mem_nil z).elim, hok := ok, bare := .of_eq gens }
  refine codeAny_mono ((F _ kinB (ns_of glob) (let ⟨mc, c1, c2⟩ := dig; ⟨mc, ns_of c1, c2⟩)).go (us := [.ref a]) (vs := [.ref a]) hr rfl e0 (bind s1 (.ref a)) (.cons rfl .nil) sps) fun r s' h => ?_
  match r, h with
  | .error _, h => exact h.elim
  | .ok .next, h => exact h.elim
  | .ok .brk, h => exact h.elim
  | .ok .cont, h => exact h.elim
  | .ok (.ret u), ⟨v, H', os, bare, un, ok', rv, (hv : v = .bl true)⟩ =>
    subst hv
    obtain rfl : u = Value.bool true := rv
    refine ⟨rfl, OldK.of_keep fun b o e => ?_, os, bare⟩
    rcases only b with z | ⟨ob, xs, z⟩
    · exact un.keep b o e z List.not_mem_nil List.not_mem_nil
    · have e1 := (ok b _ z).1
      have e2 := (ok' b _ (un.frzs b ob _ z)).1
      exact e2.trans (e1.symm.trans e)

theorem walkGD {l : PySem.W.OpenLaw} {n k : Nat} {q : Program} {loose : List Str} {XP : (Str → Option Value) → Heap → Prop} {YP : World → Heap → Prop} {d : DefRec} {K : Params → PySem.W.Frag} {sp : PySem.W.Frag → Sp} {x : Str}
    (hn : l.most = some n) (hn2 : n ≤ sizeLine) (hdf : d.params.defaults = []) (hr : Room k callerA)
    (hY : ∀ (w : World) (h : Heap), YP w h → (K w.params).In h)
    (F : ∀ (w : World) (mg : Str → Option Value) (fa : Addr) (h : Heap), (K w.params).In h → h.Ns mainGlobals mg → mg d.name = some (.ref fa) →
      ∃ fd : FuncData, (∀ (s : Shared) (u : Value), BindsTo s fd ⟨[u], []⟩ [(x, u)]) ∧
        ∀ base : Heap, (K w.params).In base → base.Ns mainGlobals mg → base.NoDigits → FnG l.prog w (K w.params) mg base k fa fd [x] (sp (K w.params)))
    (hsp : ∀ (K : PySem.W.Frag) (H : Hp) (a : Addr) (ns : List Int), ns.length ≤ n → Only H → SqL K H a (ns.map V.int) → sp K [.ref a] H (fun v _ => v = .bl true) fun _ _ _ => False) :
    PySem.W.WalkO q loose XP YP l.row.toRowW d [] (fun f vs => PySem.call f vs) := by
  refine Att.attach_call hn hdf fun w s0 s1 mg mb fa o pm cd doc a vs ns G Y ho hd hcd hmg hobj hints hlen hg => ?_
  have kin := hY w _ Y
  obtain ⟨fd, hb, hF⟩ := F w mg fa _ kin G.T.g hmg
  have rv := vals_ints hints
  have hz : ns.length ≤ sizeLine := Nat.le_trans hlen hn2
  cases hk : (K w.params).lookup a with
  | some ob =>
    have e := (kin a ob hk).symm.trans hobj
    cases e
    refine endGD (H := fun _ => none) kin G.T.g G.T.b G.T.builtins G.T.nolimit G.T.nodigits hg hobj hr hF hb (hsp _ _ a ns hlen (fun _ => .inl rfl) (.inr ⟨_, vs.toArray, _, hk, rfl, rfl, rfl, ?_, rv⟩)) (fun _ => .inl rfl) (fun b u z => nomatch z) (fun b z => (z rfl).elim) (fun z => (z rfl).elim)
    rw [List.size_toArray, hints.length]
    exact hz
  | none =>
    have at_a : ∀ b, b = a → (if b = a then some (HO.frz { cls := .type "list", data := .seq vs.toArray } (.lst (ns.map V.int))) else none) = some (HO.frz { cls := .type "list", data := .seq vs.toArray } (.lst (ns.map V.int))) := fun b hb => if_pos hb
    refine endGD (H := fun b => if b = a then some (.frz { cls := .type "list", data := .seq vs.toArray } (.lst (ns.map V.int))) else none) kin G.T.g G.T.b G.T.builtins G.T.nolimit G.T.nodigits hg hobj hr hF hb
      (hsp _ _ a ns hlen ?only (.inl (.inr ⟨_, if_pos rfl⟩))) ?only (fun b u z => ?_) (fun b z => ?_) (fun _ => hk)
    case only =>
      intro b
      by_cases hb : b = a
      · exact .inr ⟨_, _, if_pos hb⟩
      · exact .inl (if_neg hb)
    · by_cases hb : b = a
      · subst hb
        cases (if_pos rfl).symm.trans z
        refine ⟨hobj, ?_, vs, _, rv, hobj⟩
        rw [List.length_map]
        exact hz
      · cases (if_neg hb).symm.trans z
    · exact Classical.byContradiction fun hb => z (if_neg hb)
end Gd

set_option Elab.async false
set_option linter.all false
set_option maxRecDepth 100000
set_option maxHeartbeats 4000000
/-! Defs: what they promise without the heap; calls. -/
namespace Pu
open PySem PySem.Spec PyProof.Rows L2 Gd RZ
abbrev SpD := List D → (D → Prop) → Prop
abbrev SpF := List D → Nat → (D → Nat → Prop) → Prop
/-- a def that makes data of data -/
def spP (K : PySem.W.Frag) (n : Nat) (f : SpD) : Sp := fun vs H Q _ => vs.length = n ∧ ∃ ds Hs, Same Hs H ∧ RpA K Hs vs ds ∧
  ∃ A : D → Prop, f ds A ∧ ∀ r, A r → ∀ v H' Hs', Same Hs Hs' → Same Hs' H' → Same H H' → (∀ b, Hs' b ≠ none → Hs b ≠ none ∨ H b = none) → Rp K Hs' v r → Q v H'
/-- a def that draws from the feed (its first argument) -/
def spF (K : PySem.W.Frag) (F : Fd) (n : Nat) (f : SpF) : Sp := fun vs H Q _ => vs.length = n + 1 ∧ ∃ d vs' ds Hs o B, vs = .ref d :: vs' ∧ Same Hs H ∧ Hs d = none ∧ H d = some o ∧ F.ok Hs o B ∧ RpA K Hs vs' ds ∧
  ∃ A : D → Nat → Prop, f ds B A ∧ ∀ r B', A r B' → ∀ v H' Hs' o', Same Hs Hs' → Same Hs' H' → (∀ b u, b ≠ d → H b = some u → H' b = some u) → (∀ b, Hs' b ≠ none → Hs b ≠ none ∨ H b = none) → H' d = some o' → F.ok Hs' o' B' → Rp K Hs' v r → Q v H'
def Fd0 : Fd := ⟨fun _ _ _ => True, fun _ h => h⟩
/-- a feed that is a list -/
def FdL (K : PySem.W.Frag) (okI : List D → Nat → Prop) : Fd := ⟨fun H o B => ∃ vs ds, o = .lst vs ∧ RpA K H vs ds ∧ okI ds B, fun s ⟨vs, ds, h1, h2, h3⟩ => ⟨vs, ds, h1, h2.same s, h3⟩⟩
def gOf (Hs H : Hp) (x : Option Addr) : Hp := fun b => if Hs b = none ∧ x ≠ some b then H b else none
theorem gOf_some {Hs H : Hp} {x : Option Addr} {b : Addr} {o : HO} (h : gOf Hs H x b = some o) : Hs b = none ∧ x ≠ some b ∧ H b = some o := by
  unfold gOf at h
  split at h
  · rename_i z
    exact ⟨z.1, z.2, h⟩
  · cases h
theorem gOf_at {Hs H : Hp} {x : Option Addr} {b : Addr} (h : x = some b) : gOf Hs H x b = none := if_neg fun z => z.2 h
def endP (k : D → Prop) : PEn := ⟨fun _ => k .non, fun r _ => k r, fun _ => False, fun _ => False⟩
def endF (k : D → Nat → Prop) : PEn := ⟨fun ε => k .non ε.fs, fun r ε => k r ε.fs, fun _ => False, fun _ => False⟩
/-- the slots at the start -/
def slots0 (n : Nat) (ss : List Sl) : List Sl := ss ++ List.replicate (n - ss.length) .un
theorem start_shs {K : PySem.W.Frag} {Hs : Hp} {N : List Str} {vs : List V} {ds : List D} (t : RpA K Hs vs ds) {i : Nat} {s : Sl} (e : (slots0 N.length (ds.map Sl.sh))[i]? = some s) :
    s = .un ∨ ∃ v d, (L2.start N vs)[i]? = some (some v) ∧ s = .sh d ∧ Rp K Hs v d := by
  unfold slots0 at e
  by_cases hi : i < ds.length
  · rw [List.getElem?_append_left (by rw [List.length_map]; exact hi), List.getElem?_map] at e
    have e2 := List.getElem?_eq_getElem hi
    rw [e2] at e
    cases e
    obtain ⟨v, e3, r⟩ := t.get e2
    refine .inr ⟨v, _, ?_, rfl, r⟩
    unfold L2.start
    rw [List.getElem?_append_left (by rw [List.length_map, t.len]; exact hi), List.getElem?_map, e3]
    rfl
  · rw [List.getElem?_append_right (by rw [List.length_map]; omega)] at e
    have := List.mem_of_getElem? e
    rw [List.mem_replicate] at this
    exact .inl this.2
theorem start_len {N : List Str} {vs : List V} (h : vs.length ≤ N.length) : (L2.start N vs).length = N.length := by
  unfold L2.start
  simp
  omega
theorem rep_start {K : PySem.W.Frag} {F : Fd} {Hs H : Hp} {N : List Str} {vs : List V} {ds : List D} (sub : Same Hs H) (t : RpA K Hs vs ds) (hl : vs.length ≤ N.length) : RepE K F none (gOf Hs H none) Hs H (L2.start N vs) { sl := slots0 N.length (ds.map .sh), fs := 0 } := by
  refine ⟨sub, fun b o e => ?_, (fun d e => nomatch e), ?_, fun i d e => ?_, fun i oo es e => ?_, fun i e => ?_, fun i j a oi oj di dj _ e _ _ _ => ?_⟩
  · obtain ⟨h1, _, h2⟩ := gOf_some e
    exact ⟨h2, h1⟩
  · rw [start_len hl]
    show _ = (slots0 _ _).length
    unfold slots0
    have := t.len
    simp
    omega
  · rcases start_shs t e with z | ⟨v, d', h1, h2, h3⟩
    · cases z
    · cases h2
      exact ⟨v, h1, h3⟩
  · rcases start_shs t e with z | ⟨v, d', h1, h2, h3⟩
    · cases z
    · cases h2
  · rcases start_shs t e with z | ⟨v, d', h1, h2, h3⟩
    · cases z
    · cases h2
  · rcases start_shs t e with z | ⟨v, d', h1, h2, h3⟩
    · cases z
    · cases h2
section
variable {P : Program} {w : World} {K : PySem.W.Frag} {mg : Str → Option Value} {base : Heap}
theorem okP {x : String} {st : Stmt} {N ps : List Str} {k : Nat} {f : SpD} {F : Fd} (D0 : At K mg x st ps) (S : FnScope N ps (defScope st)) (hps : ps.length ≤ N.length) {u : US}
    (body : ∀ (f : Addr) (cdv : Value) (A : Around) (outer : List Env) (s : Shared) (H : Hp) (E : XK), Room k (A.deeper (envOfC x (defScope st) s.heap.objs.size f cdv)) →
      (A.deeper (envOfC x (defScope st) s.heap.objs.size f cdv)).guards = some [] → QSs (cxOf CX0 P w K mg base N x (defScope st) f cdv A outer s H E).nox F (defBody st) u)
    (go : ∀ ds k, ds.length = ps.length → f ds k → u (endP k) { sl := slots0 N.length (ds.map .sh), fs := 0 }) : CalG P w K mg base (k + 1) x ps (spP K ps.length f) := by
  refine okCG D0 S (fun vs H Q E h => h.1) fun fa cdv A outer s H vs Q E hr hG h => ?_
  obtain ⟨t, p, sd⟩ := (body fa cdv A outer s H E hr hG).ex
  obtain ⟨hl, ds, Hs, sub, rp, A1, hf, kA⟩ := h
  refine ⟨t, p, sd (rep_start sub rp (by rw [hl]; exact hps)) (go ds _ (by rw [← rp.len, hl]) hf) ?_⟩
  have fin : ∀ {Hs' H' : Hp} {ε : En} {σ : L2.St}, RepE K F none (gOf Hs H none) Hs' H' σ ε → Same Hs Hs' → Same H H' ∧ ∀ b, Hs' b ≠ none → Hs b ≠ none ∨ H b = none := by
    intro Hs' H' ε σ R e
    have g : ∀ b o, Hs b = none → H b = some o → gOf Hs H none b = some o := fun b o h1 h2 => by
      unfold gOf
      rw [if_pos ⟨h1, fun z => nomatch z⟩]
      exact h2
    refine ⟨fun b o q => ?_, fun b z => ?_⟩
    · cases hb : Hs b with
      | none => exact (R.grd b o (g b o hb q)).1
      | some o' =>
        have := sub b o' hb
        rw [q] at this
        cases this
        exact R.sub b o (e b o hb)
    · cases hb : Hs b with
      | some o' => exact .inl (fun z => nomatch z)
      | none =>
        cases hq : H b with
        | none => exact .inr rfl
        | some o => exact absurd (R.grd b o (g b o hb hq)).2 z
  exact ⟨fun ε σ H' Hs' a R e => kA _ a .non H' Hs' e R.sub (fin R e).1 (fin R e).2 .non, fun d ε v σ H' Hs' a R e r => kA _ a v H' Hs' e R.sub (fin R e).1 (fin R e).2 r, fun _ _ _ _ a => a.elim, fun _ _ _ _ a => a.elim⟩
theorem rep_startF {K : PySem.W.Frag} {F : Fd} {Hs H : Hp} {N : List Str} {vs : List V} {ds : List D} {d : Addr} {o : HO} {B : Nat} (sub : Same Hs H) (hd : Hs d = none) (ho : H d = some o) (hok : F.ok Hs o B) (t : RpA K Hs vs ds) (hl : vs.length + 1 ≤ N.length) :
    RepE K F (some d) (gOf Hs H (some d)) Hs H (L2.start N (.ref d :: vs)) { sl := slots0 N.length (.fd :: ds.map .sh), fs := B } := by
  have key : ∀ (i : Nat) (s : Sl), (slots0 N.length (Sl.fd :: ds.map Sl.sh))[i]? = some s → s = .un ∨ (i = 0 ∧ s = .fd) ∨ ∃ v d', (L2.start N (.ref d :: vs))[i]? = some (some v) ∧ s = .sh d' ∧ Rp K Hs v d' := by
    intro i s e
    cases i with
    | zero => cases e; exact .inr (.inl ⟨rfl, rfl⟩)
    | succ i =>
      obtain ⟨x, N', rfl⟩ : ∃ x N', N = x :: N' := by
        cases N with
        | nil => simp at hl
        | cons x N' => exact ⟨x, N', rfl⟩
      have e : (slots0 N'.length (ds.map Sl.sh))[i]? = some s := by
        rw [← e]
        unfold slots0
        simp
      rcases start_shs (N := N') t e with z | ⟨v, d', h1, h2, h3⟩
      · exact .inl z
      · refine .inr (.inr ⟨v, d', ?_, h2, h3⟩)
        rw [← h1]
        unfold L2.start
        simp
  refine ⟨sub, fun b o e => ?_, fun d' e => ?_, ?_, fun i d' e => ?_, fun i oo es e => ?_, fun i e => ?_, fun i j a oi oj di dj _ e _ _ _ => ?_⟩
  · obtain ⟨h1, _, h2⟩ := gOf_some e
    exact ⟨h2, h1⟩
  · cases e
    exact ⟨hd, gOf_at rfl, o, ho, hok⟩
  · rw [start_len (by simpa using hl)]
    show _ = (slots0 _ _).length
    unfold slots0
    have := t.len
    simp
    omega
  · rcases key i _ e with z | ⟨_, z⟩ | ⟨v, d', h1, h2, h3⟩
    · cases z
    · cases z
    · cases h2
      exact ⟨v, h1, h3⟩
  · rcases key i _ e with z | ⟨_, z⟩ | ⟨v, d', h1, h2, h3⟩
    · cases z
    · cases z
    · cases h2
  · rcases key i _ e with z | ⟨hi, z⟩ | ⟨v, d', h1, h2, h3⟩
    · cases z
    · subst hi
      exact ⟨d, rfl, rfl⟩
    · cases h2
  · rcases key i _ e with z | ⟨_, z⟩ | ⟨v, d', h1, h2, h3⟩
    · cases z
    · cases z
    · cases h2
theorem finF {F : Fd} {Hs H Hs' H' : Hp} {ε : En} {σ : L2.St} {d : Addr} {fa : Option Addr} (hfa : ∀ e, fa = some e → e = d) (sub : Same Hs H) (R : RepE K F fa (gOf Hs H (some d)) Hs' H' σ ε) (e : Same Hs Hs') (hd' : H d = none → False) (hdn : Hs' d = none) :
    (∀ b u, b ≠ d → H b = some u → H' b = some u) ∧ ∀ b, Hs' b ≠ none → Hs b ≠ none ∨ H b = none := by
  have g : ∀ b o, b ≠ d → Hs b = none → H b = some o → gOf Hs H (some d) b = some o := fun b o h0 h1 h2 => by
    unfold gOf
    rw [if_pos ⟨h1, fun z => h0 (Option.some.inj z).symm⟩]
    exact h2
  refine ⟨fun b o hb0 q => ?_, fun b z => ?_⟩
  · cases hb : Hs b with
    | none => exact (R.grd b o (g b o hb0 hb q)).1
    | some o' =>
      have := sub b o' hb
      rw [q] at this
      cases this
      exact R.sub b o (e b o hb)
  · cases hb : Hs b with
    | some o' => exact .inl (fun z => nomatch z)
    | none =>
      cases hq : H b with
      | none => exact .inr rfl
      | some o =>
        by_cases hbd : b = d
        · subst hbd
          exact absurd hdn z
        · exact absurd (R.grd b o (g b o hbd hb hq)).2 z
theorem okF {x : String} {st : Stmt} {N ps : List Str} {p0 : Str} {k : Nat} {f : SpF} {F : Fd} (D0 : At K mg x st (p0 :: ps)) (S : FnScope N (p0 :: ps) (defScope st)) (hps : ps.length + 1 ≤ N.length) {u : US}
    (body : ∀ (f : Addr) (cdv : Value) (A : Around) (outer : List Env) (s : Shared) (H : Hp) (E : XK), Room k (A.deeper (envOfC x (defScope st) s.heap.objs.size f cdv)) →
      (A.deeper (envOfC x (defScope st) s.heap.objs.size f cdv)).guards = some [] → QSs (cxOf CX0 P w K mg base N x (defScope st) f cdv A outer s H E).nox F (defBody st) u)
    (go : ∀ ds B k, ds.length = ps.length → f ds B k → u (endF k) { sl := slots0 N.length (.fd :: ds.map .sh), fs := B }) : CalG P w K mg base (k + 1) x (p0 :: ps) (spF K F ps.length f) := by
  refine okCG D0 S (fun vs H Q E h => h.1) fun fa cdv A outer s H vs Q E hr hG h => ?_
  obtain ⟨t, p, sd⟩ := (body fa cdv A outer s H E hr hG).ex
  obtain ⟨hl, d, vs', ds, Hs, o, B, rfl, sub, hd, ho, hok, rp, A1, hf, kA⟩ := h
  have hl' : vs'.length = ps.length := by simpa using hl
  refine ⟨t, p, sd (rep_startF sub hd ho hok rp (by rw [hl']; exact hps)) (go ds B _ (by rw [← rp.len, hl']) hf) ?_⟩
  have fin : ∀ {Hs' H' : Hp} {ε : En} {σ : L2.St}, RepE K F (some d) (gOf Hs H (some d)) Hs' H' σ ε → Same Hs Hs' → _ := fun {Hs' H' ε σ} R e => finF (fun e' z => (Option.some.inj z).symm) sub R e (fun z => by rw [ho] at z; cases z) (R.fd d rfl).1
  refine ⟨fun ε σ H' Hs' a R e => ?_, fun r ε v σ H' Hs' a R e rr => ?_, fun _ _ _ _ a => a.elim, fun _ _ _ _ a => a.elim⟩
  · obtain ⟨_, _, o', h1, h2⟩ := R.fd d rfl
    exact kA _ _ a .non H' Hs' o' e R.sub (fin R e).1 (fin R e).2 h1 h2 .non
  · obtain ⟨_, _, o', h1, h2⟩ := R.fd d rfl
    exact kA _ _ a v H' Hs' o' e R.sub (fin R e).1 (fin R e).2 h1 h2 rr
/-- the def that draws: the feed is a list that it writes itself -/
def endL (okI : List D → Nat → Prop) (d : Addr) (k : D → Nat → Prop) : PEn := ⟨fun _ => False, fun r ε => ∃ items B, ε.sl[0]? = some (.ow (some d) items) ∧ okI items B ∧ k r B, fun _ => False, fun _ => False⟩
theorem okL {x : String} {st : Stmt} {N ps : List Str} {p0 : Str} {k : Nat} {f : SpF} {okI : List D → Nat → Prop} (D0 : At K mg x st (p0 :: ps)) (S : FnScope N (p0 :: ps) (defScope st)) (hps : ps.length + 1 ≤ N.length) {u : US}
    (body : ∀ (f : Addr) (cdv : Value) (A : Around) (outer : List Env) (s : Shared) (H : Hp) (E : XK), Room k (A.deeper (envOfC x (defScope st) s.heap.objs.size f cdv)) →
      (A.deeper (envOfC x (defScope st) s.heap.objs.size f cdv)).guards = some [] → QSs (cxOf CX0 P w K mg base N x (defScope st) f cdv A outer s H E).nox Fd0 (defBody st) u)
    (go : ∀ ds items B d k, ds.length = ps.length → okI items B → f ds B k → u (endL okI d k) { sl := slots0 N.length (.ow (some d) items :: ds.map .sh), fs := 0 }) : CalG P w K mg base (k + 1) x (p0 :: ps) (spF K (FdL K okI) ps.length f) := by
  refine okCG D0 S (fun vs H Q E h => h.1) fun fa cdv A outer s H vs Q E hr hG h => ?_
  obtain ⟨t, p, sd⟩ := (body fa cdv A outer s H E hr hG).ex
  obtain ⟨hl, d, vs', ds, Hs, o, B, rfl, sub, hd, ho, ⟨ws, items, rfl, ri, hi⟩, rp, A1, hf, kA⟩ := h
  have hl' : vs'.length = ps.length := by simpa using hl
  have R0 := rep_startF (F := Fd0) (B := 0) sub hd ho trivial rp (N := N) (by rw [hl']; exact hps)
  have h0 : 0 < (slots0 N.length (Sl.fd :: ds.map Sl.sh)).length := by unfold slots0; simp
  have R1 := R0.forget 0
  have R2 : RepE K Fd0 none (gOf Hs H (some d)) Hs H (L2.start N (.ref d :: vs')) { sl := (slots0 N.length (Sl.fd :: ds.map Sl.sh)).set 0 .un, fs := 0 } := by
    refine ⟨R1.sub, R1.grd, (fun e z => nomatch z), R1.len, R1.sh, fun i oo es e => ?_, fun i e => ?_, R1.inj⟩
    · obtain ⟨a, vs, q1, q2, q3, q4, q5⟩ := R1.ow i oo es e
      exact ⟨a, vs, q1, q2, q3, (fun z => nomatch z), q5⟩
    · have e : ((slots0 N.length (Sl.fd :: ds.map Sl.sh)).set 0 Sl.un)[i]? = some Sl.fd := e
      cases i with
      | zero =>
        rw [List.getElem?_set_self h0] at e
        cases e
      | succ i =>
        rw [List.getElem?_set_ne (by omega)] at e
        exfalso
        unfold slots0 at e
        by_cases hi2 : i + 1 < (Sl.fd :: ds.map Sl.sh).length
        · rw [List.getElem?_append_left hi2, List.getElem?_cons_succ, List.getElem?_map] at e
          cases z : ds[i]? with
          | none => rw [z] at e; cases e
          | some q => rw [z] at e; cases e
        · rw [List.getElem?_append_right (by omega)] at e
          have := List.mem_of_getElem? e
          rw [List.mem_replicate] at this
          cases this.2
  have R3 := R2.put (i := 0) (s := .ow (some d) items) (ov := some (.ref d)) (by simpa using h0) (fun _ e => nomatch e) (fun oo es e => by
    cases e
    refine ⟨d, ws, rfl, hd, gOf_at rfl, (fun z => nomatch z), ho, ⟨ri, fun b z => (Option.some.inj z).symm⟩, fun j oj dj hj q => ?_⟩
    obtain ⟨a, vs, q1, q2, q3, q4, q5⟩ := R2.ow j oj dj q
    exfalso
    have q : ((slots0 N.length (Sl.fd :: ds.map Sl.sh)).set 0 Sl.un)[j]? = _ := q
    rw [List.getElem?_set_ne (Ne.symm hj)] at q
    obtain ⟨a', vs', q1', _⟩ := R0.ow j oj dj q
    have := R0.inj
    unfold slots0 at q
    cases j with
    | zero => exact hj rfl
    | succ j =>
      by_cases hi2 : j + 1 < (Sl.fd :: ds.map Sl.sh).length
      · rw [List.getElem?_append_left hi2, List.getElem?_cons_succ, List.getElem?_map] at q
        cases z : ds[j]? with
        | none => rw [z] at q; cases q
        | some q' => rw [z] at q; cases q
      · rw [List.getElem?_append_right (by omega)] at q
        have := List.mem_of_getElem? q
        rw [List.mem_replicate] at this
        cases this.2) fun e => nomatch e
  have es : (slots0 N.length (Sl.fd :: ds.map Sl.sh)).set 0 .un = slots0 N.length (Sl.un :: ds.map Sl.sh) := by unfold slots0; simp
  have es2 : ((slots0 N.length (Sl.fd :: ds.map Sl.sh)).set 0 .un).set 0 (.ow (some d) items) = slots0 N.length (.ow (some d) items :: ds.map Sl.sh) := by unfold slots0; simp
  have s0 : (L2.start N (.ref d :: vs')).set 0 (some (.ref d)) = start N (.ref d :: vs') := by unfold L2.start; simp
  rw [s0] at R3
  have R4 : RepE K Fd0 none (gOf Hs H (some d)) Hs H (L2.start N (.ref d :: vs')) { sl := slots0 N.length (.ow (some d) items :: ds.map .sh), fs := 0 } := by
    rw [← es2]
    exact R3
  refine ⟨t, p, sd R4 (go ds items B d _ (by rw [← rp.len, hl']) hi hf) ⟨fun _ _ _ _ a => a.elim, fun r ε v σ H' Hs' a R e rr => ?_, fun _ _ _ _ a => a.elim, fun _ _ _ _ a => a.elim⟩⟩
  obtain ⟨items', B', e1, hi', hk⟩ := a
  obtain ⟨a, us, q1, q2, q3, q4, q5, q6, q7⟩ := R.ow 0 _ _ e1
  have := q7 d rfl
  subst this
  have fin := finF (fa := none) (fun e' (z : none = some e') => nomatch z) sub R e (fun z => by rw [ho] at z; cases z) q2
  exact kA _ _ hk v H' Hs' _ e R.sub fin.1 fin.2 q5 ⟨us, items', rfl, q6, hi'⟩ rr
end
/-! ### calls -/
def uCall (f : SpD) (us : UA) : UE := fun ε A => us ε fun ds ε1 => f ds fun r => A (.d r) ε1
/-- .. of a def that draws -/
def uCallF (i : Nat) (f : SpF) (us : UA) : UE := fun ε A => ε.sl[i]? = some .fd ∧ us ε fun ds ε1 => f ds ε1.fs fun r B => A (.d r) { ε1 with fs := B }
section
variable {X : Cx} {F : Fd} {j k : Nat} {ps : List Str} {x : Str} {p pos p2 : Pos} {e : Expr} {es : List Expr} {us : UA}
theorem q_call {f : SpD} {n : Nat} (c : CalG X.prog X.w X.K X.mg X.base k x ps (spP X.K n f)) (hr : Room j X.A) (hG : X.A.guards = some []) (hk : k ≤ j) (hg : Gl X x) (ha : QA X F (e :: es) us) (hn : (e :: es).length = n) (hdb : (x == ("__debug__" : Str)) = false := by decide)
    (he : starEach (e :: es) X.env = (false, eval e X.env) :: starEach es X.env := by rfl) (hpl : (backTo pos (starEach es X.env)).any (·.1) = false := by rfl) :
    QE X F (.Call (.Name x p) (e :: es) [] pos) (uCall f us) := by
  obtain ⟨t, pa, s⟩ := ha.ex
  refine ⟨_, pe_kG c hr hG hk hg pa hdb he hpl, fun {fa G Hs H σ ε A Q} R h cc => s R h fun ds ε1 vs H1 Hs1 h1 l1 R1 e1 r1 => ?_⟩
  refine ⟨by rw [r1.len, l1, hn], ds, Hs1, R1.sub, r1, _, h1, fun r a v H' Hs' s1 s2 s3 gr rr => ?_⟩
  refine cc (.d r) _ v H' Hs' a ?_ (e1.trans s1) rr
  refine R1.move s1 s2 (fun b o q _ => s3 b o q) gr fun d z => ?_
  obtain ⟨_, _, o, h3, h4⟩ := R1.fd d z
  exact ⟨o, s3 d o h3, F.mono s1 h4⟩
theorem q_callF {i : Nat} {y : Str} {f : SpF} {n : Nat} (c : CalG X.prog X.w X.K X.mg X.base k x ps (spF X.K F n f)) (hr : Room j X.A) (hG : X.A.guards = some []) (hk : k ≤ j) (hg : Gl X x) (ha : QA X F es us) (hn : es.length = n)
    (hN : X.N[i]? = some y := by rfl) (hv : Vis X.env.scope y := by first | exact Or.inl rfl | exact Or.inr (Or.inl rfl) | exact Or.inr (Or.inr rfl)) (hd : (y == ("__debug__" : Str)) = false := by decide) (hcd : (y == ("__classdict__" : Str)) = false := by decide)
    (hdb : (x == ("__debug__" : Str)) = false := by decide)
    (he : starEach (.Name y p2 :: es) X.env = (false, eval (.Name y p2) X.env) :: starEach es X.env := by rfl) (hpl : (backTo pos (starEach es X.env)).any (·.1) = false := by rfl) :
    QE X F (.Call (.Name x p) (.Name y p2 :: es) [] pos) (uCallF i f us) := by
  obtain ⟨t, pa, s⟩ := ha.ex
  refine ⟨_, pe_kG c hr hG hk hg (pa_cons (pe_var hN hv hd hcd) pa he) hdb he hpl, fun {fa G Hs H σ ε A Q} R h cc => ?_⟩
  obtain ⟨hfd, h⟩ := h
  obtain ⟨d, hfa, hs⟩ := R.fdS i hfd
  refine ⟨_, hs, s R h fun ds ε1 vs H1 Hs1 h1 l1 R1 e1 r1 => ?_⟩
  obtain ⟨q1, q2, o, q3, q4⟩ := R1.fd d hfa
  refine ⟨by rw [List.length_cons, r1.len, l1, hn], d, vs, ds, Hs1, o, ε1.fs, rfl, R1.sub, q1, q3, q4, r1, _, h1, fun r B' a v H' Hs' o' s1 s2 kp gr ho' hok' rr => ?_⟩
  refine cc (.d r) _ v H' Hs' a ?_ (e1.trans s1) rr
  refine R1.move s1 s2 (fun b u q hb => kp b u (fun z => hb (by rw [hfa, z])) q) gr fun d' z => ?_
  rw [hfa] at z
  cases z
  exact ⟨o', ho', hok'⟩
end
/-! ### == -/
def uEqA (neg : Bool) : U2 := fun p q ε A =>
  match p, q with
  | .d (.str x), .d (.str y) => A (.d (.bl (if neg = true then !decide (x = y) else decide (x = y)))) ε
  | p, q => uEq neg p q ε A
section
variable {K : PySem.W.Frag} {F : Fd}
theorem op_eqA {X : Cx} (hu : X.A.units + 64 < cLine) : OpR X (compareOp .Eq) (fun x y H Q => rEq x y H Q ∨ rEqD X.K x y H Q) := OpR.or op_eq (op_eqD hu)
theorem op_neA {X : Cx} (hu : X.A.units + 64 < cLine) : OpR X (compareOp .NotEq) (fun x y H Q => rNe x y H Q ∨ rNeD X.K x y H Q) := OpR.or op_ne (op_neD hu)
theorem l_eqA : LOp K F (fun x y H Q => rEq x y H Q ∨ rEqD K x y H Q) (uEqA false) := by
  refine ⟨fun {fa G Hs H σ ε v1 v2 p1 p2 A Q} R r1 r2 h c => ?_⟩
  unfold uEqA at h
  split at h
  · cases r1
    cases r2
    rename_i x y
    refine .inl ⟨rfl, ?_⟩
    have e : decide (V.str x = V.str y) = decide (x = y) := by rw [Bool.eq_iff_iff]; simp
    rw [e]
    exact c.now h R (.bl _)
  · exact .inr (l_eq.go R r1 r2 h c)
theorem l_neA : LOp K F (fun x y H Q => rNe x y H Q ∨ rNeD K x y H Q) (uEqA true) := by
  refine ⟨fun {fa G Hs H σ ε v1 v2 p1 p2 A Q} R r1 r2 h c => ?_⟩
  unfold uEqA at h
  split at h
  · cases r1
    cases r2
    rename_i x y
    refine .inl ⟨rfl, ?_⟩
    have e : (!decide (V.str x = V.str y)) = !decide (x = y) := by
      have : decide (V.str x = V.str y) = decide (x = y) := by rw [Bool.eq_iff_iff]; simp
      rw [this]
    rw [e]
    exact c.now h R (.bl _)
  · exact .inr (l_ne.go R r1 r2 h c)
end
end Pu

set_option Elab.async false
set_option linter.all false
set_option maxRecDepth 100000
/-! The readings unfolded. -/
namespace Pu
open PySem PySem.Spec PyProof.Rows L2 Gd RZ
theorem r_V (i : Nat) (ε : En) (A : PV → En → Prop) : uV i ε A = (match ε.sl[i]? with
  | some (.sh d) => A (.d d) ε
  | some (.ow _ _) => A (.s i) ε
  | some .fd => A (.s i) ε
  | _ => False) := propext Iff.rfl
theorem r_C (x : D) (ε : En) (A : PV → En → Prop) : uC x ε A = (A (.d x) ε) := propext Iff.rfl
theorem r_Op (u2 : U2) (ua ub : UE) (ε : En) (A : PV → En → Prop) : uOp u2 ua ub ε A = (ua ε fun p ε1 => ub ε1 fun q ε2 => u2 p q ε2 A) := propext Iff.rfl
theorem r_B (u : UE) (ε : En) (A : Bool → En → Prop) : uB u ε A = (u ε fun p ε1 => match p with | .d (.bl k) => A k ε1 | _ => False) := propext Iff.rfl
theorem r_Chain (u2 u3 : U2) (ua ub uc : UE) (ε : En) (A : PV → En → Prop) : uChain u2 u3 ua ub uc ε A = (ua ε fun p ε1 => ub ε1 fun q ε2 => u2 p q ε2 fun z ε3 => match z with | .d (.bl k) => if k = true then uc ε3 fun w ε4 => u3 q w ε4 A else A (.d (.bl false)) ε3 | _ => False) := propext Iff.rfl
theorem r_And (t u : UT) (ε : En) (A : Bool → En → Prop) : uAnd t u ε A = (t ε fun c ε1 => if c = true then u ε1 A else A false ε1) := propext Iff.rfl
theorem r_Or (t u : UT) (ε : En) (A : Bool → En → Prop) : uOr t u ε A = (t ε fun c ε1 => if c = true then A true ε1 else u ε1 A) := propext Iff.rfl
theorem r_Not (t : UT) (ε : En) (A : Bool → En → Prop) : uNot t ε A = (t ε fun c ε1 => A (!c) ε1) := propext Iff.rfl
theorem r_AndV (ua ub : UE) (ε : En) (A : PV → En → Prop) : uAndV ua ub ε A = (ua ε fun p ε1 => match p with | .d (.bl c) => if c = true then ub ε1 A else A (.d (.bl false)) ε1 | _ => False) := propext Iff.rfl
theorem r_OrV (ua ub : UE) (ε : En) (A : PV → En → Prop) : uOrV ua ub ε A = (ua ε fun p ε1 => match p with | .d (.bl c) => if c = true then A (.d (.bl true)) ε1 else ub ε1 A | _ => False) := propext Iff.rfl
theorem r_NotV (ua : UE) (ε : En) (A : PV → En → Prop) : uNotV ua ε A = (ua ε fun p ε1 => match p with | .d (.bl c) => A (.d (.bl (!c))) ε1 | _ => False) := propext Iff.rfl
theorem r_If (t : UT) (ua ub : UE) (ε : En) (A : PV → En → Prop) : uIf t ua ub ε A = (t ε fun c ε1 => if c = true then ua ε1 A else ub ε1 A) := propext Iff.rfl
theorem r_Un (g : Int → Int) (ua : UE) (ε : En) (A : PV → En → Prop) : uUn g ua ε A = (ua ε fun p ε1 => match p with | .d (.int i) => A (.d (.int (g i))) ε1 | _ => False) := propext Iff.rfl
theorem r_Add (p : PV) (q : PV) (ε : En) (A : PV → En → Prop) : uAdd  p q ε A = (match p, q with
  | .d (.int i), .d (.int j) => A (.d (.int (i + j))) ε
  | .d (.str x), .d (.str y) => x.length + y.length ≤ 1000000 ∧ A (.d (.str (x ++ y))) ε
  | p, q => match seqOf p ε, seqOf q ε with
    | some (true, xs), some (true, ys) => xs.length + ys.length ≤ 1000000 ∧ A (.d (.lst (xs ++ ys))) ε
    | some (false, xs), some (false, ys) => xs.length + ys.length ≤ 1000000 ∧ A (.d (.tup (xs ++ ys))) ε
    | _, _ => False) := propext Iff.rfl
theorem r_I (C : Int → Int → Prop) (g : Int → Int → D) (p : PV) (q : PV) (ε : En) (A : PV → En → Prop) : uI C g p q ε A = (match p, q with
  | .d (.int i), .d (.int j) => C i j ∧ A (.d (g i j)) ε
  | _, _ => False) := propext Iff.rfl
theorem r_I0 (g : Int → Int → D) (p : PV) (q : PV) (ε : En) (A : PV → En → Prop) : uI0 g p q ε A = (match p, q with
  | .d (.int i), .d (.int j) => A (.d (g i j)) ε
  | _, _ => False) := propext Iff.rfl
theorem r_Mul (p : PV) (q : PV) (ε : En) (A : PV → En → Prop) : uMul  p q ε A = (match p, q with
  | .d (.int i), .d (.int j) => CMulW i j ∧ A (.d (.int (i * j))) ε
  | p, .d (.int j) => match seqOf p ε with
    | some (true, xs) => (0 ≤ j ∧ j ≤ 1000 ∧ xs.length ≤ 1000) ∧ A (.d (.lst (List.replicate j.toNat xs).flatten)) ε
    | some (false, xs) => (0 ≤ j ∧ j ≤ 1000 ∧ xs.length ≤ 1000 ∧ xs ≠ []) ∧ A (.d (.tup (List.replicate j.toNat xs).flatten)) ε
    | none => False
  | _, _ => False) := propext Iff.rfl
theorem r_Eq (neg : Bool) (p : PV) (q : PV) (ε : En) (A : PV → En → Prop) : uEq neg p q ε A = (match dataOf p ε, dataOf q ε with
  | some x, some y => (okC 20 x = true ∧ okC 20 y = true) ∧ A (.d (.bl (if neg = true then !eqD x y else eqD x y))) ε
  | _, _ => False) := propext Iff.rfl
theorem r_Is (neg : Bool) (p : PV) (q : PV) (ε : En) (A : PV → En → Prop) : uIs neg p q ε A = (match p, q with
  | .d x, .d .non => notRaw x = true ∧ A (.d (.bl (if neg = true then !isNon x else isNon x))) ε
  | _, _ => False) := propext Iff.rfl
theorem r_Nil (ε : En) (A : List D → En → Prop) : uNil  ε A = (A [] ε) := propext Iff.rfl
theorem r_Cons (ue : UE) (us : UA) (ε : En) (A : List D → En → Prop) : uCons ue us ε A = (ue ε fun p ε1 => asD p ε1 fun x ε2 => us ε2 fun xs ε3 => A (x :: xs) ε3) := propext Iff.rfl
theorem r_Tup (us : UA) (ε : En) (A : PV → En → Prop) : uTup us ε A = (us ε fun xs ε1 => A (.d (.tup xs)) ε1) := propext Iff.rfl
theorem r_N (u : UA) (ε : En) (A : PV → En → Prop) : uN u ε A = (u ε fun ds ε1 => A (.d (.lst ds)) ε1) := propext Iff.rfl
theorem r_CatN (ua ub : UE) (ε : En) (A : List D → En → Prop) : uCatN ua ub ε A = (ua ε fun p ε1 => ub ε1 fun q ε2 => match seqOf p ε2, seqOf q ε2 with | some (true, xs), some (true, ys) => xs.length + ys.length ≤ 1000000 ∧ A (xs ++ ys) ε2 | _, _ => False) := propext Iff.rfl
theorem r_RepN (ua ub : UE) (ε : En) (A : List D → En → Prop) : uRepN ua ub ε A = (ua ε fun p ε1 => ub ε1 fun q ε2 => match seqOf p ε2, q with | some (true, xs), .d (.int j) => (0 ≤ j ∧ j ≤ 1000 ∧ xs.length ≤ 1000) ∧ A (List.replicate j.toNat xs).flatten ε2 | _, _ => False) := propext Iff.rfl
theorem r_No (ε : En) (A : Option Int → En → Prop) : uNo  ε A = (A none ε) := propext Iff.rfl
theorem r_So (u : UE) (ε : En) (A : Option Int → En → Prop) : uSo u ε A = (u ε fun p ε1 => match p with | .d (.int i) => A (some i) ε1 | _ => False) := propext Iff.rfl
theorem r_Sl (ue : UE) (ul uh : UO) (ε : En) (A : PV → En → Prop) : uSl ue ul uh ε A = (ue ε fun p ε1 => ul ε1 fun l ε2 => uh ε2 fun h ε3 => match p with
  | .d (.scr ns) => A (.d (.lst ((cutA ns l h).map D.int))) ε3
  | p => match seqOf p ε3 with
    | some (true, ds) => A (.d (.lst (cutA ds l h))) ε3
    | some (false, ds) => A (.d (.tup (cutA ds l h))) ε3
    | none => False) := propext Iff.rfl
theorem r_One (u1 : U1) (ua : UE) (ε : En) (A : PV → En → Prop) : uOne u1 ua ε A = (ua ε fun p ε1 => u1 p ε1 A) := propext Iff.rfl
theorem r_Len (p : PV) (ε : En) (A : PV → En → Prop) : uLen  p ε A = (match p with
  | .d (.str z) => z.length ≤ 1000000 ∧ A (.d (.int z.length)) ε
  | p => match seqOf p ε with
    | some (_, ds) => A (.d (.int ds.length)) ε
    | none => False) := propext Iff.rfl
theorem r_Int1 (g : Int → Int) (p : PV) (ε : En) (A : PV → En → Prop) : uInt1 g p ε A = (match p with
  | .d (.int i) => A (.d (.int (g i))) ε
  | _ => False) := propext Iff.rfl
theorem r_Int (p : PV) (ε : En) (A : PV → En → Prop) : uInt  p ε A = (match p with
  | .d (.int i) => A (.d (.int i)) ε
  | .d (.bl k) => A (.d (.int (b2n k))) ε
  | _ => False) := propext Iff.rfl
theorem r_Sum (p : PV) (ε : En) (A : PV → En → Prop) : uSum  p ε A = (match seqOf p ε with
  | some (_, ds) => ∃ ns : List Int, ds = ns.map D.int ∧ A (.d (.int ns.sum)) ε
  | none => False) := propext Iff.rfl
theorem r_Max (up : Bool) (p : PV) (ε : En) (A : PV → En → Prop) : uMax up p ε A = (match seqOf p ε with
  | some (true, ds) => ∃ ns : List Int, (ds = ns.map D.int ∧ 0 < ns.length) ∧ ∀ m, m ∈ ns → (∀ y, y ∈ ns → if up = true then y ≤ m else m ≤ y) → A (.d (.int m)) ε
  | _ => False) := propext Iff.rfl
theorem r_All (all : Bool) (p : PV) (ε : En) (A : PV → En → Prop) : uAll all p ε A = (match seqOf p ε with
  | some (true, ds) => ∃ bs : List Bool, ds = bs.map D.bl ∧ A (.d (.bl (if all = true then bs.all id else bs.any id))) ε
  | _ => False) := propext Iff.rfl
theorem r_Min2 (g : Int → Int → Int) (p q : PV) (ε : En) (A : PV → En → Prop) : uMin2 g p q ε A = ((uI0 fun i j => .int (g i j)) p q ε A) := propext Iff.rfl
theorem r_Isi (p : PV) (q : PV) (ε : En) (A : PV → En → Prop) : uIsi  p q ε A = (match dataOf p ε, q with
  | some d, .d (.raw (.ty n)) => match isTy d n with
    | some b => A (.d (.bl b)) ε
    | none => False
  | _, _ => False) := propext Iff.rfl
theorem r_Repr (p : PV) (ε : En) (A : PV → En → Prop) : uRepr  p ε A = (match dataOf p ε with
  | some d => OkRp d ∧ A (.d (.str d.py.shown)) ε
  | none => False) := propext Iff.rfl
theorem r_TupOf (ua : UE) (ε : En) (A : PV → En → Prop) : uTupOf ua ε A = (ua ε fun p ε1 => match seqOf p ε1 with
  | some (_, ds) => A (.d (.tup ds)) ε1
  | none => False) := propext Iff.rfl
theorem r_LstOf (ua : UE) (ε : En) (A : List D → En → Prop) : uLstOf ua ε A = (ua ε fun p ε1 => match seqOf p ε1 with
  | some (_, ds) => A ds ε1
  | none => False) := propext Iff.rfl
theorem r_Rd (u : UE) (ε : En) (A : RV → En → Prop) : uRd u ε A = (u ε fun p ε1 => asD p ε1 fun x ε2 => A (.d x) ε2) := propext Iff.rfl
theorem r_Rn (u : UA) (ε : En) (A : RV → En → Prop) : uRn u ε A = (u ε fun ds ε1 => A (.n ds) ε1) := propext Iff.rfl
theorem r_Nm (i : Nat) (d : D) (ε : En) (B : En → Prop) : uNm i d ε B = (i < ε.sl.length ∧ B { ε with sl := ε.sl.set i (.sh d) }) := propext Iff.rfl
theorem r_Gnil (ds : List D) (ε : En) (B : En → Prop) : uGnil  ds ε B = (ds = [] ∧ B ε) := propext Iff.rfl
theorem r_Gcons (u : UG) (us : UGs) (ds : List D) (ε : En) (B : En → Prop) : uGcons u us ds ε B = (match ds with | d :: r => u d ε fun ε1 => us r ε1 B | [] => False) := propext Iff.rfl
theorem r_Gtup (n : Nat) (us : UGs) (d : D) (ε : En) (B : En → Prop) : uGtup n us d ε B = (match d with | .tup ds => ds.length = n ∧ us ds ε B | _ => False) := propext Iff.rfl
theorem r_Glst (n : Nat) (us : UGs) (d : D) (ε : En) (B : En → Prop) : uGlst n us d ε B = (match d with | .lst ds => ds.length = n ∧ us ds ε B | _ => False) := propext Iff.rfl
theorem r_Next (P : PEn) (ε : En) : uNext  P ε = (P.nx ε) := propext Iff.rfl
theorem r_Seq (u1 u2 : US) (P : PEn) (ε : En) : uSeq u1 u2 P ε = (u1 { P with nx := fun ε' => u2 P ε' } ε) := propext Iff.rfl
theorem r_Cut (u1 u2 : US) (P : PEn) (ε : En) : uCut u1 u2 P ε = (CutX u1 u2 P .mk ε) := propext Iff.rfl
theorem r_Never (x0 : PEn) (x1 : En) : uNever  x0 x1 = (False) := propext Iff.rfl
theorem r_Brk (P : PEn) (ε : En) : uBrk  P ε = (P.bk ε) := propext Iff.rfl
theorem r_Cnt (P : PEn) (ε : En) : uCnt  P ε = (P.ct ε) := propext Iff.rfl
theorem r_Drop (u : UE) (P : PEn) (ε : En) : uDrop u P ε = (u ε fun _ ε1 => P.nx ε1) := propext Iff.rfl
theorem r_Ret (u : UE) (P : PEn) (ε : En) : uRet u P ε = (u ε fun p ε1 => asD p ε1 P.rt) := propext Iff.rfl
theorem r_RetN (P : PEn) (ε : En) : uRetN  P ε = (P.rt .non ε) := propext Iff.rfl
theorem r_IfS (t : UT) (a b : US) (P : PEn) (ε : En) : uIfS t a b P ε = (t ε fun c ε1 => if c = true then a P ε1 else b P ε1) := propext Iff.rfl
theorem r_Set (i : Nat) (u : UR) (P : PEn) (ε : En) : uSet i u P ε = (u ε fun r ε1 => i < ε1.sl.length ∧ P.nx { ε1 with sl := ε1.sl.set i r.sl }) := propext Iff.rfl
theorem r_Asg (u : UE) (g : UG) (P : PEn) (ε : En) : uAsg u g P ε = (u ε fun p ε1 => asD p ε1 fun x ε2 => g x ε2 P.nx) := propext Iff.rfl
theorem r_Aug (i : Nat) (f : Int → Int → Int) (u : UE) (P : PEn) (ε : En) : uAug i f u P ε = (match ε.sl[i]? with
  | some (.sh (.int a)) => u ε fun p ε1 => match p with
    | .d (.int b) => i < ε1.sl.length ∧ P.nx { ε1 with sl := ε1.sl.set i (.sh (.int (f a b))) }
    | _ => False
  | _ => False) := propext Iff.rfl
theorem r_App (i : Nat) (u : UE) (P : PEn) (ε : En) : uApp i u P ε = ((isOw ε i).isSome = true ∧ u ε fun p ε1 => asD p ε1 fun x ε2 => match isOw ε2 i with
  | some (o, ds) => ds.length ≤ 1000000 ∧ P.nx { ε2 with sl := ε2.sl.set i (.ow o (ds ++ [x])) }
  | none => False) := propext Iff.rfl
theorem r_Par (i j : Nat) (ua ub : UR) (P : PEn) (ε : En) : uPar i j ua ub P ε = (ua ε fun r1 ε1 => ub ε1 fun r2 ε2 => (i < ε2.sl.length ∧ j < ε2.sl.length) ∧ P.nx { ε2 with sl := (ε2.sl.set i r1.sl).set j r2.sl }) := propext Iff.rfl
theorem r_Par3 (i j l : Nat) (us : UA) (P : PEn) (ε : En) : uPar3 i j l us P ε = (us ε fun ds ε1 => match ds with
  | [x, y, z] => (i < ε1.sl.length ∧ j < ε1.sl.length ∧ l < ε1.sl.length) ∧ P.nx { ε1 with sl := ((ε1.sl.set i (.sh x)).set j (.sh y)).set l (.sh z) }
  | _ => False) := propext Iff.rfl
theorem r_SeqI (u : UE) (ε : En) (A : List D → En → Prop) : uSeqI u ε A = (u ε fun p ε1 => asD p ε1 fun x ε2 => match x with
  | .lst ds => A ds ε2
  | .tup ds => A ds ε2
  | .scr ns => A (ns.map D.int) ε2
  | _ => False) := propext Iff.rfl
theorem r_Rg1 (u : UE) (ε : En) (A : List D → En → Prop) : uRg1 u ε A = (u ε fun p ε1 => match p with
  | .d (.int j) => (-1000000 ≤ j ∧ j ≤ 1000000) ∧ A ((List.range j.toNat).map fun i => .int (i : Nat)) ε1
  | _ => False) := propext Iff.rfl
theorem r_Rg2 (u u2 : UE) (ε : En) (A : List D → En → Prop) : uRg2 u u2 ε A = (u ε fun p ε1 => u2 ε1 fun q ε2 => match p, q with
  | .d (.int i), .d (.int j) => (-1000000 ≤ i ∧ i ≤ 1000000 ∧ -1000000 ≤ j ∧ j ≤ 1000000) ∧ A ((List.range (j - i).toNat).map fun k => .int (i + (k : Nat))) ε2
  | _, _ => False) := propext Iff.rfl
theorem r_EnT (u : UE) (ε : En) (A : List D → En → Prop) : uEnT u ε A = (u ε fun p ε1 => match seqOf p ε1 with
  | some (false, ds) => A (ds.mapIdx fun i d => .tup [.int (i : Nat), d]) ε1
  | _ => False) := propext Iff.rfl
theorem r_For (ui : UA) (ug : UG) (ub : US) (P : PEn) (ε : En) : uFor ui ug ub P ε = (ui ε fun ds ε1 => ForX ug ub P .mk ds ε1) := propext Iff.rfl
theorem r_While (vt : UT) (ub : US) (P : PEn) (ε : En) : uWhile vt ub P ε = (WhX vt ub P .mk ε) := propext Iff.rfl
theorem r_Yes (ε : En) (A : Bool → En → Prop) : uYes  ε A = (A true ε) := propext Iff.rfl
theorem r_Lc (ui : UA) (ug : UG) (ut : UT) (ue : UE) (vs : List Nat) (ε : En) (A : List D → En → Prop) : uLc ui ug ut ue vs ε A = (ui ε fun ds ε1 => LcX ug ut ue vs A .mk ds ε1) := propext Iff.rfl
theorem r_Call (f : SpD) (us : UA) (ε : En) (A : PV → En → Prop) : uCall f us ε A = (us ε fun ds ε1 => f ds fun r => A (.d r) ε1) := propext Iff.rfl
theorem r_CallF (i : Nat) (f : SpF) (us : UA) (ε : En) (A : PV → En → Prop) : uCallF i f us ε A = (ε.sl[i]? = some .fd ∧ us ε fun ds ε1 => f ds ε1.fs fun r B => A (.d r) { ε1 with fs := B }) := propext Iff.rfl
theorem r_EqA (neg : Bool) (p : PV) (q : PV) (ε : En) (A : PV → En → Prop) : uEqA neg p q ε A = (match p, q with
  | .d (.str x), .d (.str y) => A (.d (.bl (if neg = true then !decide (x = y) else decide (x = y)))) ε
  | p, q => uEq neg p q ε A) := propext Iff.rfl
theorem r_asD (p : PV) (ε : En) (k : D → En → Prop) : asD p ε k = (match p with
  | .d x => k x ε
  | .s i => match ε.sl[i]? with
    | some (.ow _ ds) => k (.lst ds) { ε with sl := ε.sl.set i (.sh (.lst ds)) }
    | some (.sh d) => k d ε
    | _ => False) := propext Iff.rfl
theorem r_seqOf (p : PV) (ε : En) : seqOf p ε = (match p with
  | .d (.lst ds) => some (true, ds)
  | .d (.tup ds) => some (false, ds)
  | .s i => match ε.sl[i]? with
    | some (.ow _ ds) => some (true, ds)
    | some (.sh (.lst ds)) => some (true, ds)
    | some (.sh (.tup ds)) => some (false, ds)
    | _ => none
  | _ => none) := Classical.byContradiction fun h => h rfl
theorem r_dataOf (p : PV) (ε : En) : Pu.dataOf p ε = (match p with
  | .d x => some x
  | .s i => match ε.sl[i]? with
    | some (.ow _ ds) => some (.lst ds)
    | some (.sh d) => some d
    | _ => none) := Classical.byContradiction fun h => h rfl
def IxX {α : Type} (A : α → Prop) (_t : Tg A) (o : Option α) : Prop := ∃ x, o = some x ∧ A x
theorem ixx_some {α : Type} {A : α → Prop} {t : Tg A} {x : α} : IxX A t (some x) = A x := propext ⟨fun ⟨y, e, h⟩ => Option.some.inj e ▸ h, fun h => ⟨x, rfl, h⟩⟩
theorem r_Ix (p q : PV) (ε : En) (A : PV → En → Prop) : uIx p q ε A = (match q with
  | .d (.int k) => match p with
    | .d (.str z) => ∃ c, (z.length ≤ 1000000 ∧ atI z.cps.toList k = some c) ∧ A (.d (.str ⟨#[c]⟩)) ε
    | p => match seqOf p ε with
      | some (_, ds) => IxX (fun x => A (.d x) ε) .mk (atI ds k)
      | none => False
  | _ => False) := propext Iff.rfl
theorem r_Sub (i : Nat) (ui : UE) (d : D) (ε : En) (B : En → Prop) : uSub i ui d ε B = ((isOw ε i).isSome = true ∧ ui ε fun p ε1 => match isOw ε1 i with
  | some (o, ds) => match p with
    | .d (.int k) => IxX (fun j => B { ε1 with sl := ε1.sl.set i (.ow o (ds.set j d)) }) .mk (ixN ds.length k)
    | _ => False
  | none => False) := propext Iff.rfl
theorem atI_of {α : Type} {xs : List α} {k : Nat} (h : k < xs.length) : atI xs (k : Int) = some xs[k] := by
  unfold atI ixN
  rw [if_pos (by omega), if_pos (by omega)]
  show xs[((k : Nat) : Int).toNat]? = _
  rw [Int.toNat_natCast]
  exact List.getElem?_eq_getElem h
theorem at_0 {α : Type} {a : α} {l : List α} : atI (a :: l) 0 = some a := atI_of (k := 0) (by simp)
theorem at_1 {α : Type} {a b : α} {l : List α} : atI (a :: b :: l) 1 = some b := atI_of (k := 1) (xs := a :: b :: l) (by simp)
theorem at_2 {α : Type} {a b c : α} {l : List α} : atI (a :: b :: c :: l) 2 = some c := atI_of (k := 2) (xs := a :: b :: c :: l) (by simp)
theorem at_3 {α : Type} {a b c d : α} {l : List α} : atI (a :: b :: c :: d :: l) 3 = some d := atI_of (k := 3) (xs := a :: b :: c :: d :: l) (by simp)
theorem at_4 {α : Type} {a b c d e : α} {l : List α} : atI (a :: b :: c :: d :: e :: l) 4 = some e := atI_of (k := 4) (xs := a :: b :: c :: d :: e :: l) (by simp)
theorem ix_40 : ixN 4 0 = some 0 := rfl
theorem ix_41 : ixN 4 1 = some 1 := rfl
theorem ix_42 : ixN 4 2 = some 2 := rfl
theorem ix_43 : ixN 4 3 = some 3 := rfl
theorem r_isOw (ε : En) (i : Nat) : isOw ε i = (match ε.sl[i]? with | some (.ow o ds) => some (o, ds) | _ => none) := Classical.byContradiction fun h => h rfl
end Pu

/-! Sums over a window of whole numbers, lists as periodic functions, products on a clock. Pure mathematics. -/
namespace Pv
def S : Nat → (Int → Int) → Int
  | 0, _ => 0
  | n + 1, F => S n F + F n
theorem S_congr {n : Nat} {F G : Int → Int} (h : ∀ j : Nat, j < n → F j = G j) : S n F = S n G := by
  induction n with
  | zero => rfl
  | succ n ih =>
    show S n F + F n = S n G + G n
    rw [ih fun j hj => h j (Nat.lt_succ_of_lt hj), h n (Nat.lt_succ_self n)]
theorem S_add (n : Nat) (F G : Int → Int) : S n (fun j => F j + G j) = S n F + S n G := by
  induction n with
  | zero => rfl
  | succ n ih =>
    show S n (fun j => F j + G j) + (F n + G n) = S n F + F n + (S n G + G n)
    rw [ih]
    omega
theorem S_zero (n : Nat) : S n (fun _ => 0) = 0 := by
  induction n with
  | zero => rfl
  | succ n ih =>
    show S n (fun _ => 0) + 0 = 0
    rw [ih]
    rfl
theorem S_mulL (n : Nat) (c : Int) (F : Int → Int) : S n (fun j => c * F j) = c * S n F := by
  induction n with
  | zero => exact (Int.mul_zero c).symm
  | succ n ih =>
    show S n (fun j => c * F j) + c * F n = c * (S n F + F n)
    rw [ih, Int.mul_add]
theorem S_mulR (n : Nat) (c : Int) (F : Int → Int) : S n (fun j => F j * c) = S n F * c := by
  induction n with
  | zero => exact (Int.zero_mul c).symm
  | succ n ih =>
    show S n (fun j => F j * c) + F n * c = (S n F + F n) * c
    rw [ih, Int.add_mul]
theorem S_swap (m n : Nat) (F : Int → Int → Int) : S m (fun i => S n (fun j => F i j)) = S n (fun j => S m (fun i => F i j)) := by
  induction m with
  | zero => exact (S_zero n).symm
  | succ m ih =>
    show S m (fun i => S n (fun j => F i j)) + S n (fun j => F m j) = S n (fun j => S m (fun i => F i j) + F m j)
    rw [ih, S_add]
theorem S_front (n : Nat) (F : Int → Int) : S (n + 1) F = F 0 + S n (fun j => F (j + 1)) := by
  induction n with
  | zero =>
    show 0 + F 0 = F 0 + 0
    omega
  | succ n ih =>
    show S (n + 1) F + F ((n + 1 : Nat) : Int) = F 0 + (S n (fun j => F (j + 1)) + F ((n : Int) + 1))
    rw [ih, Int.natCast_add]
    show F 0 + S n (fun j => F (j + 1)) + F ((n : Int) + 1) = _
    omega
def Per (n : Nat) (F : Int → Int) : Prop := ∀ i : Int, F (i + n) = F i
theorem S_shift1 {n : Nat} {F : Int → Int} (h : Per n F) : S n (fun j => F (j + 1)) = S n F := by
  have h1 := S_front n F
  have h2 : S (n + 1) F = S n F + F n := rfl
  have h3 := h 0
  rw [Int.zero_add] at h3
  omega
theorem Per.shift {n : Nat} {F : Int → Int} (h : Per n F) (c : Int) : Per n (fun j => F (j + c)) := fun i => by
  show F (i + n + c) = F (i + c)
  rw [show i + n + c = i + c + n by omega]
  exact h _
theorem Per.neg {n : Nat} {F : Int → Int} (h : Per n F) : Per n (fun j => F (-j)) := fun i => by
  show F (-(i + n)) = F (-i)
  rw [← h (-(i + n))]
  congr 1
  omega
theorem Per.mul {n : Nat} {F G : Int → Int} (h : Per n F) (g : Per n G) : Per n (fun j => F j * G j) := fun i => by
  show F (i + n) * G (i + n) = F i * G i
  rw [h i, g i]
theorem Per.add {n : Nat} {F G : Int → Int} (h : Per n F) (g : Per n G) : Per n (fun j => F j + G j) := fun i => by
  show F (i + n) + G (i + n) = F i + G i
  rw [h i, g i]
theorem Per.sub {n : Nat} {F : Int → Int} (h : Per n F) (b : Int) : Per n (fun j => F (b - j)) := by
  have := (h.shift b).neg
  intro i
  have e := this i
  show F (b - (i + n)) = F (b - i)
  rw [show b - (i + (n : Int)) = -(i + n) + b by omega, show b - i = -i + b by omega]
  exact e
theorem S_shiftN {n : Nat} {F : Int → Int} (h : Per n F) (c : Nat) : S n (fun j => F (j + c)) = S n F := by
  induction c with
  | zero => exact S_congr fun j _ => congrArg F (Int.add_zero _)
  | succ c ih =>
    rw [← ih, ← S_shift1 (h.shift c)]
    refine S_congr fun j _ => congrArg F ?_
    omega
theorem S_shift {n : Nat} {F : Int → Int} (h : Per n F) (c : Int) : S n (fun j => F (j + c)) = S n F := by
  rcases Int.le_total 0 c with hc | hc
  · have e := S_shiftN h c.toNat
    rw [Int.toNat_of_nonneg hc] at e
    exact e
  · have e := S_shiftN (h.shift c) (-c).toNat
    rw [Int.toNat_of_nonneg (by omega)] at e
    rw [← e]
    refine S_congr fun j _ => congrArg F ?_
    omega
theorem S_rev (n : Nat) (F : Int → Int) : S n (fun j => F ((n : Int) - 1 - j)) = S n F := by
  induction n generalizing F with
  | zero => rfl
  | succ n ih =>
    rw [S_front]
    have e : S n (fun j => F (((n + 1 : Nat) : Int) - 1 - (j + 1))) = S n F := by
      rw [← ih F]
      refine S_congr fun j _ => congrArg F ?_
      omega
    rw [e]
    show F _ + S n F = S n F + F n
    rw [show (((n + 1 : Nat) : Int) - 1 - 0) = (n : Int) by omega]
    omega
theorem S_neg {n : Nat} {F : Int → Int} (h : Per n F) : S n (fun j => F (-j)) = S n F := by
  rw [← S_rev n F, ← S_shift h.neg (-((n : Int) - 1))]
  refine S_congr fun j _ => congrArg F ?_
  omega
/-- the sum runs backwards from b -/
theorem S_back {n : Nat} {F : Int → Int} (h : Per n F) (b : Int) : S n (fun j => F (b - j)) = S n F := by
  rw [← S_shift h b, ← S_neg (h.shift b)]
  refine S_congr fun j _ => congrArg F ?_
  omega
/-! ### the product on a clock -/
def conv (n : Nat) (F G : Int → Int) : Int → Int := fun b => S n fun j => F j * G (b - j)
theorem per_conv {n : Nat} {F G : Int → Int} (g : Per n G) : Per n (conv n F G) := fun i => by
  refine S_congr fun j _ => ?_
  rw [show i + (n : Int) - (j : Int) = i - j + n by omega, g]
theorem conv_congr {n : Nat} {F F' G G' : Int → Int} (h : ∀ i, F i = F' i) (g : ∀ i, G i = G' i) (b : Int) : conv n F G b = conv n F' G' b :=
  S_congr fun j _ => by rw [h, g]
theorem conv_comm {n : Nat} {F G : Int → Int} (h : Per n F) (g : Per n G) (b : Int) : conv n F G b = conv n G F b := by
  have hp : Per n fun j => F j * G (b - j) := h.mul (g.sub b)
  unfold conv
  rw [← S_back hp b]
  refine S_congr fun j _ => ?_
  rw [show b - (b - (j : Int)) = j by omega, Int.mul_comm]
theorem conv_assoc {n : Nat} {F G H : Int → Int} (g : Per n G) (h : Per n H) (b : Int) : conv n (conv n F G) H b = conv n F (conv n G H) b := by
  unfold conv
  have e1 : S n (fun j => S n (fun i => F i * G (j - i)) * H (b - j)) = S n (fun j => S n (fun i => F i * G (j - i) * H (b - j))) :=
    S_congr fun j _ => (S_mulR n _ _).symm
  rw [e1, S_swap n n fun j i => F i * G (j - i) * H (b - j)]
  refine S_congr fun i _ => ?_
  have hp : Per n fun j => G (j - i) * H (b - j) := by
    have := (g.shift (-(i : Int))).mul (h.sub b)
    intro k
    have e := this k
    show G (k + n - i) * H (b - (k + n)) = G (k - i) * H (b - k)
    rw [show k + (n : Int) - (i : Int) = k + n + -i by omega, show k - (i : Int) = k + -i by omega]
    exact e
  have e2 : S n (fun j => F i * G (j - i) * H (b - j)) = F i * S n (fun j => G (j - i) * H (b - j)) := by
    rw [← S_mulL]
    exact S_congr fun j _ => Int.mul_assoc _ _ _
  rw [e2, ← S_shift hp i]
  congr 1
  refine S_congr fun j _ => ?_
  rw [show (j : Int) + i - i = j by omega, show b - ((j : Int) + i) = b - i - j by omega]
theorem conv_add {n : Nat} {F G H : Int → Int} (b : Int) : conv n F (fun i => G i + H i) b = conv n F G b + conv n F H b := by
  unfold conv
  rw [← S_add]
  exact S_congr fun j _ => Int.mul_add _ _ _
theorem conv_turn {n : Nat} {F G : Int → Int} (h : Per n F) (g : Per n G) (k b : Int) : conv n (fun i => F (i - k)) G b = conv n F G (b - k) := by
  have hp : Per n fun j => F (j - k) * G (b - j) := by
    have := (h.shift (-k)).mul (g.sub b)
    intro i
    have e := this i
    show F (i + n - k) * G (b - (i + n)) = F (i - k) * G (b - i)
    rw [show i + (n : Int) - k = i + n + -k by omega, show i - k = i + -k by omega]
    exact e
  unfold conv
  rw [← S_shift hp k]
  refine S_congr fun j _ => ?_
  rw [show (j : Int) + k - k = j by omega, show b - ((j : Int) + k) = b - k - j by omega]
theorem conv_mirror {n : Nat} {F G : Int → Int} (h : Per n F) (g : Per n G) (b : Int) : conv n (fun i => F (-i)) (fun i => G (-i)) b = conv n F G (-b) := by
  unfold conv
  have hp : Per n fun j => F j * G (-b - j) := h.mul (g.sub (-b))
  rw [← S_neg hp]
  refine S_congr fun j _ => ?_
  show F (-(j : Int)) * G (-(b - j)) = F (-(j : Int)) * G (-b - -(j : Int))
  rw [show -(b - (j : Int)) = -b - -j by omega]
theorem conv_total {n : Nat} {F G : Int → Int} (g : Per n G) : S n (conv n F G) = S n F * S n G := by
  unfold conv
  rw [S_swap n n fun b j => F j * G (b - j), ← S_mulR]
  refine S_congr fun j _ => ?_
  rw [S_mulL, ← S_shift g (-(j : Int))]
  congr 1
theorem S_one {n : Nat} {s : Nat} (f : Int → Int) (hs : s < n) : S n (fun j => (if j = (s : Int) then 1 else 0) * f j) = f s := by
  induction n with
  | zero => omega
  | succ n ih =>
    show S n (fun j => (if j = (s : Int) then 1 else 0) * f j) + (if (n : Int) = (s : Int) then 1 else 0) * f n = f s
    by_cases e : s = n
    · subst e
      rw [if_pos rfl, Int.one_mul]
      have : S s (fun j => (if j = (s : Int) then 1 else 0) * f j) = 0 := by
        refine (S_congr fun j hj => ?_).trans (S_zero s)
        show (if (j : Int) = (s : Int) then 1 else 0) * f j = 0
        rw [if_neg (by omega), Int.zero_mul]
      rw [this, Int.zero_add]
    · rw [if_neg (by omega), Int.zero_mul, Int.add_zero]
      exact ih (by omega)
theorem conv_one {n : Nat} {F : Int → Int} (s : Nat) (hs : s < n) (h : Per n F) {D : Int → Int} (hD : ∀ j : Nat, j < n → D j = if j = s then 1 else 0) (d : Per n D) (b : Int) : conv n F D b = F (b - s) := by
  rw [conv_comm h d]
  unfold conv
  rw [← S_one (fun j => F (b - j)) hs]
  refine S_congr fun j hj => ?_
  rw [hD j hj]
  by_cases e : j = s
  · rw [if_pos e, if_pos (by omega)]
  · rw [if_neg e, if_neg (by omega)]
theorem conv_ones {n : Nat} {F : Int → Int} (b : Int) : conv n F (fun _ => 1) b = S n F := S_congr fun _ _ => Int.mul_one _
/-! ### lists -/
def per (xs : List Int) : Int → Int := fun i => xs.getD (i % (xs.length : Int)).toNat 0
def of (n : Nat) (F : Int → Int) : List Int := (List.range n).map fun j => F (j : Nat)
theorem of_len (n : Nat) (F : Int → Int) : (of n F).length = n := by unfold of; rw [List.length_map, List.length_range]
theorem of_get {n : Nat} {F : Int → Int} {j : Nat} (h : j < n) : (of n F)[j]? = some (F j) := by
  unfold of
  rw [List.getElem?_map, List.getElem?_range h]
  rfl
theorem of_congr {n : Nat} {F G : Int → Int} (h : ∀ j : Nat, j < n → F j = G j) : of n F = of n G := by
  unfold of
  exact List.map_congr_left fun j hj => h j (List.mem_range.mp hj)
theorem per_per (xs : List Int) : Per xs.length (per xs) := fun i => by
  unfold per
  rw [Int.add_emod_right]
theorem per_get {xs : List Int} {j : Nat} (h : j < xs.length) : per xs j = xs[j] := by
  unfold per
  rw [Int.emod_eq_of_lt (by omega) (by omega), Int.toNat_natCast, List.getD_eq_getElem?_getD, List.getElem?_eq_getElem h]
  rfl
theorem of_per (xs : List Int) : of xs.length (per xs) = xs := by
  refine List.ext_getElem (of_len _ _) fun j h1 h2 => ?_
  have e := of_get (F := per xs) h2
  rw [List.getElem?_eq_getElem h1] at e
  rw [Option.some.inj e, per_get h2]
theorem Per.mod {n : Nat} {F : Int → Int} (h : Per n F) (hn : 0 < n) (i : Int) : F (i % n) = F i := by
  have up : ∀ (k : Nat) (i : Int), F (i + n * k) = F i := by
    intro k
    induction k with
    | zero =>
      intro i
      rw [show i + (n : Int) * ((0 : Nat) : Int) = i by simp]
    | succ k ih =>
      intro i
      rw [show i + (n : Int) * ((k + 1 : Nat) : Int) = i + n * k + n by rw [Int.natCast_add, Int.mul_add]; simp; omega, h, ih]
  have e := Int.emod_add_mul_ediv i n
  rcases Int.le_total 0 (i / n) with hc | hc
  · have := up (i / n).toNat (i % n)
    rw [Int.toNat_of_nonneg hc, e] at this
    exact this.symm
  · have := up (-(i / n)).toNat i
    rw [Int.toNat_of_nonneg (by omega)] at this
    rw [← this]
    congr 1
    rw [Int.mul_neg]
    omega
theorem per_of {n : Nat} {F : Int → Int} (h : Per n F) (hn : 0 < n) (i : Int) : per (of n F) i = F i := by
  unfold per
  rw [of_len]
  have h1 := Int.emod_nonneg i (show (n : Int) ≠ 0 by omega)
  have h2 := Int.emod_lt_of_pos i (show (0 : Int) < n by omega)
  rw [List.getD_eq_getElem?_getD, of_get (show (i % (n : Int)).toNat < n by omega), Int.toNat_of_nonneg h1]
  exact h.mod hn i
theorem of_eq {n : Nat} {F : Int → Int} {xs : List Int} (hl : xs.length = n) (h : ∀ j : Nat, j < n → per xs j = F j) : xs = of n F := by
  subst hl
  rw [← of_congr h, of_per]
/-! ### sizes -/
theorem S_abs {n : Nat} {F : Int → Int} {B : Nat} (h : ∀ j : Nat, j < n → (F j).natAbs ≤ B) : (S n F).natAbs ≤ n * B := by
  induction n with
  | zero => simp [S]
  | succ n ih =>
    have h1 := ih fun j hj => h j (Nat.lt_succ_of_lt hj)
    have h2 := h n (Nat.lt_succ_self n)
    show (S n F + F n).natAbs ≤ (n + 1) * B
    have h3 := Int.natAbs_add_le (S n F) (F n)
    rw [Nat.succ_mul]
    omega
theorem conv_abs {n : Nat} {F G : Int → Int} {B C : Nat} (h : ∀ i, (F i).natAbs ≤ B) (g : ∀ i, (G i).natAbs ≤ C) (b : Int) : (conv n F G b).natAbs ≤ n * (B * C) :=
  S_abs fun j _ => by
    rw [Int.natAbs_mul]
    exact Nat.mul_le_mul (h _) (g _)
theorem per_abs {xs : List Int} {B : Nat} (h : ∀ x ∈ xs, x.natAbs ≤ B) (i : Int) : (per xs i).natAbs ≤ B := by
  unfold per
  rw [List.getD_eq_getElem?_getD]
  cases e : xs[(i % (xs.length : Int)).toNat]? with
  | none => exact Nat.zero_le _
  | some x => exact h x (List.mem_of_getElem? e)
/-! ### adding up step by step: the beat at which k stands, j further -/
theorem beat_iff {n j k b : Nat} (hj : j < n) (hk : k < n) (hb : b < n) : ((b : Int) - j) % n = k ↔ b = (j + k) % n := by
  constructor
  · intro h
    have e := Int.emod_add_mul_ediv ((b : Int) - j) n
    rw [h] at e
    have e2 : ((j + k : Nat) : Int) = b + n * (-(((b : Int) - j) / n)) := by rw [Int.mul_neg]; omega
    have e3 : ((j + k : Nat) : Int) % n = b := by
      rw [e2, Int.add_mul_emod_self_left, Int.emod_eq_of_lt (by omega) (by omega)]
    have : (((j + k) % n : Nat) : Int) = b := by rw [Int.natCast_emod]; exact e3
    omega
  · intro h
    have h1 : ((j + k : Nat) : Int) % n = b := by rw [← Int.natCast_emod, h]
    have e := Int.emod_add_mul_ediv ((j + k : Nat) : Int) n
    rw [h1] at e
    have e2 : (b : Int) - j = k + n * (-(((j + k : Nat) : Int) / n)) := by rw [Int.mul_neg]; omega
    rw [e2, Int.add_mul_emod_self_left, Int.emod_eq_of_lt (by omega) (by omega)]
end Pv

set_option Elab.async false
set_option linter.all false
set_option maxRecDepth 100000
set_option maxHeartbeats 4000000
/-! Invariants, places, repr, ==. -/
namespace Pu
open PySem PySem.Spec PyProof.Rows L2 Gd RZ
abbrev tI (ns : List Int) : D := .tup (ns.map .int)
abbrev lI (ns : List Int) : D := .lst (ns.map .int)
section
variable {A : List D → En → Prop} {ug : UG} {ut : UT} {ue : UE} {vs : List Nat} {t : Tg (ug, ut, ue, vs, A)} {α : Type} {xs : List α} {g : α → D}
/-- one turn of a comprehension -/
abbrev turn (ug : UG) (ut : UT) (ue : UE) (vs : List Nat) (Inv : Nat → List D → En → Prop) (i : Nat) (d : D) (acc : List D) (ε : En) : Prop :=
  ug d ε fun ε3 => ut ε3 fun b ε4 => if b = true then ue ε4 fun p ε5 => asD p ε5 fun x ε6 => Inv (i + 1) (acc ++ [x]) (wipeE ε6 vs) else Inv (i + 1) acc (wipeE ε4 vs)
/-- each item makes one, the state stays -/
theorem lc_xs {ε1 : En} (f : α → D) (hl : xs.length ≤ 1000000) (h1 : ∀ x, x ∈ xs → ∀ (Inv : Nat → List D → En → Prop) (i : Nat) (acc : List D), Inv (i + 1) (acc ++ [f x]) (wipeE ε1 vs) → turn ug ut ue vs Inv i (g x) acc (wipeE ε1 vs)) (h2 : A (xs.map f) (wipeE ε1 vs)) :
    LcX ug ut ue vs A t (xs.map g) ε1 := by
  refine ⟨by rw [List.length_map]; exact hl, fun i acc ε => acc = (xs.take i).map f ∧ ε = wipeE ε1 vs, ⟨rfl, rfl⟩, ?_, ?_⟩
  · rintro i d acc ε2 e ⟨rfl, rfl⟩
    rw [List.getElem?_map] at e
    cases z : xs[i]? with
    | none => rw [z] at e; cases e
    | some x =>
      rw [z] at e
      cases e
      refine h1 x (List.mem_of_getElem? z) (fun i acc ε => acc = (xs.take i).map f ∧ ε = wipeE ε1 vs) i _ ⟨?_, rfl⟩
      rw [List.take_add_one, z, List.map_append]
      rfl
  · rintro acc ε2 ⟨rfl, rfl⟩
    rw [List.length_map, List.take_length]
    exact h2
/-- .. a whole number of each place -/
theorem lc_of {A : List D → En → Prop} {t : Tg (ug, ut, ue, vs, A)} {ε1 : En} {n : Nat} (F : Int → Int) (hn : n ≤ 1000000) (h1 : ∀ j : Nat, j < n → ∀ (Inv : Nat → List D → En → Prop) (i : Nat) (acc : List D), Inv (i + 1) (acc ++ [.int (F j)]) (wipeE ε1 vs) → turn ug ut ue vs Inv i (.int (j : Nat)) acc (wipeE ε1 vs))
    (h2 : A ((Pv.of n F).map D.int) (wipeE ε1 vs)) : LcX ug ut ue vs A t ((List.range (n : Int).toNat).map fun i : Nat => D.int (i : Nat)) ε1 := by
  have e : (Pv.of n F).map D.int = (List.range (n : Int).toNat).map fun i : Nat => D.int (F i) := by
    unfold Pv.of
    rw [List.map_map, Int.toNat_natCast]
    rfl
  refine lc_xs (fun i : Nat => D.int (F i)) (by rw [List.length_range]; omega) (fun j hj => h1 j (by rw [Int.toNat_natCast] at hj; exact List.mem_range.mp hj)) ?_
  rw [← e]
  exact h2
/-- each item makes one or none -/
theorem lc_fil {ε1 : En} (f : α → Option D) (hl : xs.length ≤ 1000000) (h1 : ∀ x, x ∈ xs → ∀ (Inv : Nat → List D → En → Prop) (i : Nat) (acc : List D), Inv (i + 1) (acc ++ (f x).toList) (wipeE ε1 vs) → turn ug ut ue vs Inv i (g x) acc (wipeE ε1 vs)) (h2 : A (xs.filterMap f) (wipeE ε1 vs)) :
    LcX ug ut ue vs A t (xs.map g) ε1 := by
  refine ⟨by rw [List.length_map]; exact hl, fun i acc ε => acc = (xs.take i).filterMap f ∧ ε = wipeE ε1 vs, ⟨rfl, rfl⟩, ?_, ?_⟩
  · rintro i d acc ε2 e ⟨rfl, rfl⟩
    rw [List.getElem?_map] at e
    cases z : xs[i]? with
    | none => rw [z] at e; cases e
    | some x =>
      rw [z] at e
      cases e
      refine h1 x (List.mem_of_getElem? z) (fun i acc ε => acc = (xs.take i).filterMap f ∧ ε = wipeE ε1 vs) i _ ⟨?_, rfl⟩
      rw [List.take_add_one, z, List.filterMap_append]
      show _ = _ ++ List.filterMap f [x]
      cases e : f x with
      | none => rw [List.filterMap_cons_none e]; rfl
      | some y => rw [List.filterMap_cons_some e]; rfl
  · rintro acc ε2 ⟨rfl, rfl⟩
    rw [List.length_map, List.take_length]
    exact h2
/-- each item makes one of a kind, and draws c times at most -/
theorem lc_fs {sl : List Sl} {B : Nat} (c : Nat) (p : D → Prop) (hl : xs.length ≤ 1000000) (h1 : ∀ x, x ∈ xs → ∀ (Inv : Nat → List D → En → Prop) (i : Nat) (acc : List D) (B' : Nat), i < xs.length → B' ≤ B + c * i →
      (∀ y B'', p y → B'' ≤ B' + c → Inv (i + 1) (acc ++ [y]) (wipeE { sl := sl, fs := B'' } vs)) → turn ug ut ue vs Inv i (g x) acc (wipeE { sl := sl, fs := B' } vs))
    (h2 : ∀ ys B', ys.length = xs.length → (∀ y ∈ ys, p y) → B' ≤ B + c * xs.length → A ys (wipeE { sl := sl, fs := B' } vs)) :
    LcX ug ut ue vs A t (xs.map g) { sl := sl, fs := B } := by
  refine ⟨by rw [List.length_map]; exact hl, fun i acc ε => (acc.length = i ∧ ∀ y ∈ acc, p y) ∧ ∃ B', B' ≤ B + c * i ∧ ε = wipeE { sl := sl, fs := B' } vs, ⟨⟨rfl, fun y h => (List.not_mem_nil h).elim⟩, B, by omega, rfl⟩, ?_, ?_⟩
  · rintro i d acc ε2 e ⟨⟨ha, hp⟩, B', hB, rfl⟩
    rw [List.getElem?_map] at e
    cases z : xs[i]? with
    | none => rw [z] at e; cases e
    | some x =>
      rw [z] at e
      cases e
      refine h1 x (List.mem_of_getElem? z) (fun i acc ε => (acc.length = i ∧ ∀ y ∈ acc, p y) ∧ ∃ B', B' ≤ B + c * i ∧ ε = wipeE { sl := sl, fs := B' } vs) i _ B' (lt_of_get z) hB fun y B'' hy hB' => ⟨⟨?_, fun y' h' => ?_⟩, B'', ?_, rfl⟩
      · rw [List.length_append, List.length_singleton, ha]
      · rcases List.mem_append.mp h' with h' | h'
        · exact hp y' h'
        · rw [List.mem_singleton.mp h']
          exact hy
      · rw [Nat.mul_add, Nat.mul_one]
        omega
  · rintro acc ε2 ⟨⟨ha, hp⟩, B', hB, rfl⟩
    rw [List.length_map] at ha hB
    exact h2 acc B' ha hp hB
end
/-- data that are whole numbers of a kind -/
theorem ints_of {p : Int → Prop} : ∀ {ys : List D}, (∀ y ∈ ys, ∃ i, y = .int i ∧ p i) → ∃ ns : List Int, ys = ns.map .int ∧ ∀ i ∈ ns, p i
  | [], _ => ⟨[], rfl, fun i h => (List.not_mem_nil h).elim⟩
  | y :: ys, h => by
    obtain ⟨i, rfl, hi⟩ := h y List.mem_cons_self
    obtain ⟨ns, rfl, hs⟩ := ints_of fun y hy => h y (List.mem_cons_of_mem _ hy)
    refine ⟨i :: ns, rfl, fun j hj => ?_⟩
    rcases List.mem_cons.mp hj with z | z
    · rw [z]; exact hi
    · exact hs j z
section
variable {ug : UG} {ut : UT} {ue : UE} {vs : List Nat} {A : List D → En → Prop} {t : Tg (ug, ut, ue, vs, A)}
/-- each turn makes a whole number of a kind, and draws c times at most -/
theorem lc_fi {sl : List Sl} {B n : Nat} (c : Nat) (q : Int → Prop) (hn : n ≤ 1000000) (h1 : ∀ j : Nat, j < n → ∀ (Inv : Nat → List D → En → Prop) (i : Nat) (acc : List D) (B' : Nat), B' ≤ B + c * n →
      (∀ x B'', q x → B'' ≤ B' + c → Inv (i + 1) (acc ++ [.int x]) (wipeE { sl := sl, fs := B'' } vs)) → turn ug ut ue vs Inv i (.int (j : Nat)) acc (wipeE { sl := sl, fs := B' } vs))
    (h2 : ∀ (ns : List Int) (B' : Nat), ns.length = n → (∀ x ∈ ns, q x) → B' ≤ B + c * n → A (ns.map D.int) (wipeE { sl := sl, fs := B' } vs)) :
    LcX ug ut ue vs A t ((List.range (n : Int).toNat).map fun i : Nat => D.int (i : Nat)) { sl := sl, fs := B } := by
  refine lc_fs c (fun y => ∃ x, y = .int x ∧ q x) (by rw [List.length_range]; omega) (fun j hj Inv i acc B' hi hB h => ?_) fun ys B' hl hp hB => ?_
  · rw [Int.toNat_natCast] at hj
    rw [List.length_range, Int.toNat_natCast] at hi
    refine h1 j (List.mem_range.mp hj) Inv i acc B' (Nat.le_trans hB (Nat.add_le_add_left (Nat.mul_le_mul_left c (by omega)) _)) fun x B'' hx hB' => h _ B'' ⟨x, rfl, hx⟩ hB'
  · obtain ⟨ns, rfl, hs⟩ := ints_of hp
    rw [List.length_map, List.length_range, Int.toNat_natCast] at hl
    rw [List.length_range, Int.toNat_natCast] at hB
    exact h2 ns B' hl hs hB
end
theorem fil_map {α β : Type} (p : α → Prop) [DecidablePred p] (g : α → β) (l : List α) : (l.filterMap fun x => if p x then some (g x) else none) = (l.filter fun x => decide (p x)).map g := by
  induction l with
  | nil => rfl
  | cons x l ih => by_cases h : p x <;> simp [h, ih]
/-! ### places -/
theorem ixN_in {n : Nat} {k : Int} (h0 : 0 ≤ k) (h : k < n) : ixN n k = some k.toNat := by
  unfold ixN
  rw [if_pos h0, if_pos h]
theorem ixN_nat {n k : Nat} (h : k < n) : ixN n (k : Int) = some k := by
  rw [ixN_in (by omega) (by omega), Int.toNat_natCast]
theorem atI_in {α : Type} {xs : List α} {k : Int} (h0 : 0 ≤ k) (h : k < xs.length) : atI xs k = some (xs[k.toNat]'(by omega)) := by
  unfold atI
  rw [ixN_in h0 h]
  show xs[k.toNat]? = _
  exact List.getElem?_eq_getElem _
theorem atI_ints {ns : List Int} {k : Int} {v : Int} (h0 : 0 ≤ k) (h : ns[k.toNat]? = some v) : atI (ns.map D.int) k = some (.int v) := by
  have := lt_of_get h
  unfold atI
  rw [ixN_in h0 (by rw [List.length_map]; omega)]
  show (ns.map D.int)[k.toNat]? = _
  rw [List.getElem?_map, h]
  rfl
theorem atI_per {ns : List Int} {k : Int} (h0 : 0 ≤ k) (h : k < ns.length) : atI (ns.map D.int) k = some (.int (Pv.per ns k)) := by
  have e : Pv.per ns k = ns[k.toNat]'(by omega) := by
    have := Pv.per_get (xs := ns) (j := k.toNat) (by omega)
    rw [Int.toNat_of_nonneg h0] at this
    exact this
  rw [e]
  exact atI_ints h0 (List.getElem?_eq_getElem _)
theorem of_ints (F : Int → Int) (n : Nat) : (Pv.of n F).map D.int = (List.range (n : Int).toNat).map fun i : Nat => D.int (F i) := by
  unfold Pv.of
  rw [List.map_map, Int.toNat_natCast]
  rfl
theorem enum_get {xs : List Int} {i : Nat} {d : D} (h : ((xs.map D.int).mapIdx fun i d => D.tup [.int (i : Nat), d])[i]? = some d) : i < xs.length ∧ d = .tup [.int (i : Nat), .int (Pv.per xs i)] := by
  rw [List.getElem?_mapIdx, List.getElem?_map] at h
  cases z : xs[i]? with
  | none => rw [z] at h; cases h
  | some x =>
    rw [z] at h
    cases h
    obtain ⟨hi, e⟩ := List.getElem?_eq_some_iff.mp z
    rw [Pv.per_get hi, e]
    exact ⟨hi, rfl⟩
theorem rg_get {n : Nat} {f : Nat → D} {i : Nat} {d : D} (h : ((List.range n).map f)[i]? = some d) : i < n ∧ d = f i := by
  rw [List.getElem?_map] at h
  by_cases hi : i < n
  · rw [List.getElem?_range hi] at h
    cases h
    exact ⟨hi, rfl⟩
  · rw [List.getElem?_eq_none (by rw [List.length_range]; omega)] at h
    cases h
theorem ints_get {xs : List Int} {i : Nat} {d : D} (h : (xs.map D.int)[i]? = some d) : i < xs.length ∧ d = .int (Pv.per xs i) := by
  rw [List.getElem?_map] at h
  cases z : xs[i]? with
  | none => rw [z] at h; cases h
  | some x =>
    rw [z] at h
    cases h
    obtain ⟨hi, e⟩ := List.getElem?_eq_some_iff.mp z
    rw [Pv.per_get hi, e]
    exact ⟨hi, rfl⟩
theorem mem_rg {n x : Nat} (h : x ∈ List.range (n : Int).toNat) : x < n := by
  rw [Int.toNat_natCast] at h
  exact List.mem_range.mp h
theorem set_ints (ns : List Int) (j : Nat) (v : Int) : (ns.map D.int).set j (.int v) = (ns.set j v).map D.int := by rw [List.map_set]
theorem okC_int (k : Nat) (i : Int) : okC k (.int i) = true := by cases k <;> rfl
theorem okC_bl (k : Nat) (i : Bool) : okC k (.bl i) = true := by cases k <;> rfl
theorem okC_lnil (k : Nat) : okC k (.lst []) = true := by cases k <;> rfl
theorem eqD_lnil (xs : List Int) : eqD (.lst (xs.map D.int)) (.lst []) = decide (xs = []) := eqD_lsts xs []
theorem okC_tI (k : Nat) (ns : List Int) : okC (k + 1) (tI ns) = true := okC_ints k ns
theorem okC_lI (k : Nat) (ns : List Int) : okC (k + 1) (lI ns) = true := okC_ints k ns
/-! ### repr -/
structure OkS (ds : List D) (k n : Nat) : Prop where
  pl : plainA ds = true
  ok : OkA (pyA ds) k n
theorem oks_nil {k : Nat} : OkS [] k 0 := ⟨by simp [plainA], by rw [pyA]; exact okA_nil k⟩
theorem oks_cons {d : D} {ds : List D} {k n m : Nat} (h : OkS [d] k n) (t : OkS ds k m) : OkS (d :: ds) k (n + m) := by
  have h1 : d.plain = true := by simpa [plainA] using h.pl
  refine ⟨by simp [plainA, h1, t.pl], ?_⟩
  rw [pyA]
  refine okA_cons ?_ t.ok
  have := h.ok
  rwa [pyA, pyA] at this
theorem oks_int {i : Int} {k b : Nat} (h : i.natAbs < 2 ^ b) (h0 : 0 < b := by decide) (hb : b ≤ 1920 := by decide) : OkS [.int i] k 1923 := ⟨by simp [plainA, D.plain], by rw [pyA, pyA, D.py]; exact okA_int h h0 hb⟩
theorem oks_bl {b : Bool} {k : Nat} : OkS [.bl b] k 7 := ⟨by simp [plainA, D.plain], by rw [pyA, pyA, D.py]; exact okA_bool⟩
theorem oks_tup {ds : List D} {k n : Nat} (h : OkS ds k n) : OkS [.tup ds] (k + 1) (n + 5) := ⟨by simp [plainA, D.plain, h.pl], by rw [pyA, pyA, D.py]; exact okA_tup h.ok⟩
theorem oks_mono {ds : List D} {k n k' n' : Nat} (h : OkS ds k n) (hk : k ≤ k') (hn : n ≤ n') : OkS ds k' n' := ⟨h.pl, h.ok.mono hk hn⟩
theorem py_ints (ns : List Int) : pyA (ns.map D.int) = ns.map PyData.int := by
  rw [pyA_map, List.map_map]
  exact List.map_congr_left fun i _ => by simp [D.py]
theorem oks_ints {b : Nat} {ns : List Int} (h : ∀ i ∈ ns, i.natAbs < 2 ^ b) (h0 : 0 < b := by decide) (hb : b ≤ 1920 := by decide) : OkS (ns.map D.int) 0 (1923 * ns.length) := by
  refine ⟨?_, by rw [py_ints]; exact okA_ints h0 hb h⟩
  rw [plainA_all, List.all_eq_true]
  intro d hd
  obtain ⟨i, _, rfl⟩ := List.mem_map.mp hd
  simp [D.plain]
theorem oks_tI {b m : Nat} {ns : List Int} {k : Nat} (h : ∀ i ∈ ns, i.natAbs < 2 ^ b) (hm : ns.length ≤ m) (h0 : 0 < b := by decide) (hb : b ≤ 1920 := by decide) : OkS [tI ns] (k + 1) (1923 * m + 5) :=
  oks_mono (oks_tup (oks_ints h h0 hb)) (by omega) (by have := Nat.mul_le_mul_left 1923 hm; omega)
theorem okrp_lst {ds : List D} {k n : Nat} (h : OkS ds k n) (hk : k ≤ 19 := by decide) (hn : n + 3 ≤ 16000000 := by omega) : OkRp (.lst ds) := ⟨by simp [D.plain, h.pl], 16000000, Nat.le_refl _, by rw [D.py]; exact okD_list h.ok hk hn⟩
theorem okrp_tup {ds : List D} {k n : Nat} (h : OkS ds k n) (hk : k ≤ 19 := by decide) (hn : n + 3 ≤ 16000000 := by omega) : OkRp (.tup ds) := by
  refine ⟨by simp [D.plain, h.pl], 16000000, Nat.le_refl _, ?_⟩
  rw [D.py]
  have h3 := h.ok.dp
  have h4 := h.ok.co
  refine ⟨by simp [PyData.showable, h.ok.sh], by simp [PyData.hasDict, h.ok.nd], ?_, ?_⟩
  · simp only [PyData.depth]
    omega
  · simp only [cost]
    omega
theorem okrp_bl {b : Bool} : OkRp (.bl b) := by
  refine ⟨by simp [D.plain], 16000000, Nat.le_refl _, ?_⟩
  rw [D.py]
  exact ⟨by simp [PyData.showable], by simp [PyData.hasDict], by simp [PyData.depth], by simp [cost]⟩
theorem ifne {α : Type} {a b : α} [Decidable (a = b)] {F G : Prop} (e : a = b) (h : G) : if (!decide (a = b)) = true then F else G := by
  rw [decide_eq_true e]
  exact h
theorem ifn {c : Prop} [Decidable c] {F G : Prop} (e : ¬c) (h : G) : if c then F else G := by
  rw [if_neg e]
  exact h
theorem ift {c : Prop} [Decidable c] {F G : Prop} (e : c) (h : F) : if c then F else G := by
  rw [if_pos e]
  exact h
/-! ### bounds -/
theorem mulW {i j : Int} {a b : Nat} (ha : i.natAbs < 2 ^ a) (hb : j.natAbs < 2 ^ b) (h0 : 0 < a := by omega) (h1 : 0 < b := by omega) (h : a + b ≤ 1000000 := by omega) : CMulW i j := wide_mul ha hb h0 h1 h
theorem divW {i j : Int} {b : Nat} (hb : j.natAbs < 2 ^ b) (h : 0 < j := by omega) (h0 : 0 < b := by omega) (h9 : b ≤ 9000 := by omega) : CDivW i j := wide_div h hb h0 h9
theorem powW {i : Int} {n : Nat} (h : i.natAbs < 2 ^ 64) (hn : n ≤ 1000000 := by decide) : CPow i n := ⟨Int.natCast_nonneg _, by omega, h⟩
/-- what the feed works with -/
theorem blends {c t x : Int} (h0 : 0 ≤ t) (h1 : t ≤ 1000001) : CMulW 12011 t ∧ CPow (c % 1999999331 + 12011 * t + 107) 3 ∧ CMulW 1117 t ∧ CMulW (1117 * t) t ∧ CPow (x % 2147482583 + 1117 * t * t + 79) 5 := by
  have m1 : 0 ≤ 1117 * t * t := Int.mul_nonneg (by omega) h0
  have m2 : 1117 * t * t ≤ 1117 * 1000001 * 1000001 := Int.mul_le_mul (by omega) h1 h0 (by omega)
  exact ⟨mulW (a := 64) (b := 64) (by decide) (by omega), powW (n := 3) (by omega), mulW (a := 64) (b := 64) (by decide) (by omega), mulW (a := 64) (b := 64) (by omega) (by omega), powW (n := 5) (by omega)⟩
end Pu

set_option Elab.async false
set_option linter.all false
set_option maxRecDepth 100000
set_option maxHeartbeats 4000000
/-! The law itself: a feed that is a list. -/
namespace Pu
open PySem PySem.Spec PyProof.Rows L2 Gd RZ
/-- makes the feed of the script -/
def spFeedS (K : PySem.W.Frag) (okI : List D → Nat → Prop) : Sp := fun vs H Q _ => ∃ (a : Addr) (ns : List Int), vs = [.ref a] ∧ SqL K H a (ns.map V.int) ∧ ns.length ≤ 63 ∧
  ∀ (d : Addr) (H' Hs : Hp) (o : HO), Same Hs H' → Hs d = none → H' d = some o → (FdL K okI).ok Hs o 0 → Q (.ref d) H'
def spLawS (K : PySem.W.Frag) : Sp := fun vs H Q _ => ∃ (a : Addr) (ns : List Int), vs = [.ref a] ∧ SqL K H a (ns.map V.int) ∧ ns.length ≤ 63 ∧ ∀ H', Q (.bl true) H'
def endLaw : PEn := ⟨fun _ => False, fun r _ => r = .bl true, fun _ => False, fun _ => False⟩
section
variable {P : Program} {w : World} {K : PySem.W.Frag} {mg : Str → Option Value} {base : Heap}
theorem ok_feedL {x : String} {st : Stmt} {N : List Str} {p0 : Str} {e : Expr} {pos : Pos} {okI : List D → Nat → Prop} (D0 : At K mg x st [p0]) (S : FnScope N [p0] (defScope st)) (hps : 1 ≤ N.length) (hb : defBody st = [.Return (some e) pos]) {u : UA}
    (body : ∀ (f : Addr) (cdv : Value) (A : Around) (outer : List Env) (s : Shared) (H : Hp) (E : XK), Room 0 (A.deeper (envOfC x (defScope st) s.heap.objs.size f cdv)) →
      (A.deeper (envOfC x (defScope st) s.heap.objs.size f cdv)).guards = some [] → QN (cxOf CX0 P w K mg base N x (defScope st) f cdv A outer s H E).nox Fd0 e u)
    (go : ∀ ns : List Int, ns.length ≤ 63 → u { sl := slots0 N.length [.sh (.scr ns)], fs := 0 } fun items _ => okI items 0) : CalG P w K mg base 1 x [p0] (spFeedS K okI) := by
  refine okCG D0 S (fun vs H Q E h => ?_) fun fa cdv A outer s H vs Q E hr hG h => ?_
  · obtain ⟨a, ns, rfl, _⟩ := h
    rfl
  obtain ⟨t, p, sd⟩ := (body fa cdv A outer s H E hr hG).ex
  obtain ⟨a, ns, rfl, hS, hl, kA⟩ := h
  refine ⟨_, hb ▸ pss_one (ps_ret p), ?_⟩
  have R0 := rep_start (F := Fd0) (N := N) (Same.refl H) (vs := [.ref a]) (ds := [.scr ns]) (.cons (.scr hS) .nil) hps
  refine sd R0 (go ns hl) fun items ε1 b ws H1 Hs1 h1 R1 e1 g1 g2 g3 g4 g5 r1 => ?_
  exact kA b H1 Hs1 _ R1.sub g1 g5 ⟨ws, items, rfl, r1, h1⟩
theorem rep_law {okI : List D → Nat → Prop} {n : Nat} {d : Addr} {H Hs : Hp} {o : HO} {σ : L2.St} (g1 : Same Hs H) (g2 : Hs d = none) (g3 : H d = some o) (g4 : (FdL K okI).ok Hs o 0) (hl : σ.length = n + 2 := by rfl) (h1 : σ[1]? = some (some (.ref d)) := by rfl) :
    RepE K (FdL K okI) (some d) (fun _ => none) Hs H σ { sl := .un :: .fd :: List.replicate n .un, fs := 0 } := by
  have key : ∀ (i : Nat) (s : Sl), (Sl.un :: Sl.fd :: List.replicate n Sl.un)[i]? = some s → s = .un ∨ (i = 1 ∧ s = .fd) := fun i s e => by
    match i with
    | 0 => cases e; exact .inl rfl
    | 1 => cases e; exact .inr ⟨rfl, rfl⟩
    | i + 2 =>
      have e : (List.replicate n Sl.un)[i]? = some s := e
      exact .inl (List.eq_of_mem_replicate (List.mem_of_getElem? e))
  refine ⟨g1, (fun b o e => nomatch e), fun d' e => ?_, ?_, fun i d e => ?_, fun i oo es e => ?_, fun i e => ?_, fun i j a oi oj di dj _ e _ _ _ => ?_⟩
  · cases e
    exact ⟨g2, rfl, o, g3, g4⟩
  · rw [hl]
    simp
  · rcases key i _ e with z | ⟨_, z⟩ <;> cases z
  · rcases key i _ e with z | ⟨_, z⟩ <;> cases z
  · rcases key i _ e with z | ⟨rfl, z⟩
    · cases z
    · exact ⟨d, rfl, h1⟩
  · rcases key i _ e with z | ⟨_, z⟩ <;> cases z
theorem law_end {X : Cx} {F : Fd} {t : TS} {u : US} {Q : VK} {fa : Option Addr} {G Hs H : Hp} {σ : L2.St} {ε : En}
    (sd : ∀ {fa : Option Addr} {G Hs H : Hp} {σ : L2.St} {ε : En} {P : PEn} {E : Ends}, RepE X.K F fa G Hs H σ ε → u P ε → Cs X.K F fa G Hs P E → t E σ H) (R : RepE X.K F fa G Hs H σ ε) (k : ∀ H', Q (.bl true) H')
    (h : u endLaw ε) : t { nx := fun _ H' => Q .non H', rt := Q } σ H := by
  refine sd R h ⟨fun _ _ _ _ a => a.elim, fun r ε v σ H' Hs' a R e rr => ?_, fun _ _ _ _ a => a.elim, fun _ _ _ _ a => a.elim⟩
  cases a
  cases rr
  exact k _
end
end Pu

set_option Elab.async false
set_option linter.all false
set_option maxRecDepth 100000
set_option maxHeartbeats 4000000
/-! gcd, ranges with a step, slices with a step. -/
namespace Pu
open PySem PySem.Spec PyProof.Rows L2 Gd RZ HT
section
variable {K : PySem.W.Frag} {F : Fd}
theorem l_gcd : LT K F rGcd (uI0 fun i j => .int ((Nat.gcd i.natAbs j.natAbs : Nat) : Int)) := by
  refine ⟨fun {fa G Hs H σ ε v1 v2 p1 p2 A Q} R r1 r2 h c => ?_⟩
  unfold uI0 at h
  split at h
  · cases r1
    cases r2
    exact ⟨_, _, rfl, c.now h R (.int _)⟩
  · exact h.elim
end
/-! ### range(a, b, c) -/
def rgN (i j c : Int) : Nat := (if i < j then (j - i - 1) / c + 1 else 0).toNat
def uRg3 (u u2 u3 : UE) : UA := fun ε A => u ε fun p ε1 => u2 ε1 fun q ε2 => u3 ε2 fun r ε3 => match p, q, r with
  | .d (.int i), .d (.int j), .d (.int c) => (-1000000 ≤ i ∧ i ≤ 1000000 ∧ -1000000 ≤ j ∧ j ≤ 1000000 ∧ 1 ≤ c ∧ c ≤ 1000000) ∧ A ((List.range (rgN i j c)).map fun k => .int (i + (k : Nat) * c)) ε3
  | _, _, _ => False
theorem rgC_up {i j c : Int} (h : -1000000 ≤ i ∧ i ≤ 1000000 ∧ -1000000 ≤ j ∧ j ≤ 1000000 ∧ 1 ≤ c ∧ c ≤ 1000000) : RgC i j c (rgN i j c) := by
  have hc : c > 0 := by omega
  have hq : 0 ≤ (if i < j then (j - i - 1) / c + 1 else 0) ∧ (if i < j then (j - i - 1) / c + 1 else 0) ≤ 2000001 := by
    split
    · have d0 := Int.ediv_nonneg (show 0 ≤ j - i - 1 by omega) (show 0 ≤ c by omega)
      have d1 := Int.ediv_le_self c (show 0 ≤ j - i - 1 by omega)
      omega
    · omega
  have e : Builtin.Range.rangeSize i j c = if i < j then (j - i - 1) / c + 1 else 0 := by
    unfold Builtin.Range.rangeSize
    rw [if_pos hc]
  refine ⟨by omega, by omega, ?_, ?_⟩
  · unfold Builtin.Range.small
    rw [e]
    unfold Builtin.Range.rangeFitsLong
    simp only [hc, if_true, Bool.and_eq_true, Bool.or_eq_true, decide_eq_true_eq]
    refine ⟨⟨⟨⟨by omega, by omega⟩, by omega⟩, by omega⟩, .inr (by omega)⟩
  · rw [e]
    unfold rgN
    omega
section
variable {X : Cx} {F : Fd} {tg e e2 e3 : Expr} {u u2 u3 : UE} {p pos : Pos}
theorem qi_rg3 (hg : Gl X "range") (hm : X.mg "range" = none) (h : QE X F e u) (h2 : QE X F e2 u2) (h3 : QE X F e3 u3) (st : starEach [e, e2, e3] X.env = (false, eval e X.env) :: starEach [e2, e3] X.env := by rfl) (st2 : starEach [e2, e3] X.env = (false, eval e2 X.env) :: starEach [e3] X.env := by rfl)
    (st3 : starEach [e3] X.env = (false, eval e3 X.env) :: starEach [] X.env := by rfl) (hpl : (backTo pos (starEach [e2, e3] X.env)).any (·.1) = false := by rfl) : QI X F tg (.Call (.Name "range" p) [e, e2, e3] [] pos) (uRg3 u u2 u3) := by
  obtain ⟨t, pe, s⟩ := h.ex
  obtain ⟨t2, pe2, s2⟩ := h2.ex
  obtain ⟨t3, pe3, s3⟩ := h3.ex
  refine ⟨_, pi_range3 hg hm (pa_cons pe (pa_cons pe2 (pa_cons pe3 pa_nil st3) st2) st) st hpl, fun R h c => s R h fun p1 ε1 v H1 Hs1 h1 R1 e1 r1 => s2 R1 h1 fun p2 ε2 w H2 Hs2 h2 R2 e2 r2 => s3 R2 h2 fun p3 ε3 x H3 Hs3 h3 R3 e3 r3 => ?_⟩
  split at h3
  · rename_i i j k
    cases r1
    cases r2
    cases r3
    refine ⟨i, j, k, _, rfl, rgC_up h3.1, c _ ε3 _ H3 Hs3 h3.2 R3 ((e1.trans e2).trans e3) ?_⟩
    have w := walk_rangeC (lo := i) (c := k) (n := rgN i j k)
    refine ⟨fun _ => True, YFn fun m => .int (i + (m : Nat) * k), by rw [List.length_map, List.length_range]; exact w, fun _ _ _ _ => trivial, fun m Hs4 H4 x H5 s1 s2 y hm => ?_⟩
    rw [List.length_map, List.length_range] at hm
    obtain ⟨y1, y2⟩ := y
    refine ⟨.int (i + (m : Nat) * k), ?_, .inl ⟨y1, ?_⟩⟩
    · rw [List.getElem?_map, List.getElem?_range hm]
      rfl
    · rw [y2]
      exact .int _
  · exact h3.elim
end
/-! ### slices with a step -/
def slA (n : Nat) (lo hi : Option Int) (c : Int) : Int := (Builtin.Slice.sliceAdjust lo hi c (n : Int)).1
def slN (n : Nat) (lo hi : Option Int) (c : Int) : Nat := Builtin.Slice.slicePlaces (Builtin.Slice.sliceAdjust lo hi c (n : Int)).1 (Builtin.Slice.sliceAdjust lo hi c (n : Int)).2 c
def pickS {α : Type} (xs : List α) (lo hi : Option Int) (c : Int) : List α := (List.range (slN xs.length lo hi c)).filterMap fun (m : Nat) => xs[(slA xs.length lo hi c + (m : Int) * c).toNat]?
def wholeS (n : Nat) (lo hi : Option Int) (c : Int) : Bool := slA n lo hi c == 0 && c == 1 && slN n lo hi c == n
theorem pickS_len {α : Type} (xs : List α) (lo hi : Option Int) (c : Int) : (pickS xs lo hi c).length ≤ slN xs.length lo hi c := by
  refine Nat.le_trans (List.length_filterMap_le _ _) ?_
  rw [List.length_range]
  exact Nat.le_refl _
theorem filterMap_all {α : Type} : ∀ xs : List α, (List.range xs.length).filterMap (fun m => xs[m]?) = xs
  | [] => rfl
  | x :: xs => by
    rw [List.length_cons, List.range_succ_eq_map, List.filterMap_cons_some (f := fun m => (x :: xs)[m]?) (b := x) rfl, List.filterMap_map]
    congr 1
    exact filterMap_all xs
theorem pickS_whole {α : Type} {xs : List α} {lo hi : Option Int} {c : Int} (h : wholeS xs.length lo hi c = true) : pickS xs lo hi c = xs := by
  unfold wholeS at h
  rw [Bool.and_eq_true, Bool.and_eq_true] at h
  have h1 := eq_of_beq h.1.1
  have h2 := eq_of_beq h.1.2
  have h3 := eq_of_beq h.2
  unfold pickS
  rw [h1, h2, ← h2, h3]
  have e : (fun m : Nat => xs[((0 : Int) + (m : Int) * c).toNat]?) = fun m => xs[m]? := funext fun m => by
    rw [h2]
    congr 1
    omega
  rw [e]
  exact filterMap_all xs
theorem RpA.pick {K : PySem.W.Frag} {Hs : Hp} {vs : List V} {ds : List D} (t : RpA K Hs vs ds) (f : Nat → Nat) : ∀ l : List Nat, RpA K Hs (l.filterMap fun m => vs[f m]?) (l.filterMap fun m => ds[f m]?)
  | [] => .nil
  | m :: l => by
    cases e : ds[f m]? with
    | none =>
      have e2 : vs[f m]? = none := by
        rw [List.getElem?_eq_none_iff] at e ⊢
        rw [t.len]
        exact e
      rw [List.filterMap_cons_none (f := fun m => ds[f m]?) e, List.filterMap_cons_none (f := fun m => vs[f m]?) e2]
      exact RpA.pick t f l
    | some d =>
      obtain ⟨v, e2, r⟩ := t.get e
      rw [List.filterMap_cons_some (f := fun m => ds[f m]?) e, List.filterMap_cons_some (f := fun m => vs[f m]?) e2]
      exact .cons r (RpA.pick t f l)
section
variable {prog : Program} {w : World} {A : Around} {E : Value → Shared → Prop} {s : Shared}
theorem applied_step {a : Addr} {x y z : Value} {lo hi : Option Int} {c : Int} {n : Nat} {Q : Int × Int × Nat → Shared → Prop} (is : s.heap.IsSliceOf a x y z) (px : IsPart x lo) (py : IsPart y hi) (pz : IsPart z (some c)) (c0 : c ≠ 0)
    (h : Q (slA n lo hi c, c, slN n lo hi c) s) : wpAny (model prog w) A (Builtin.Slice.sliceApplied (.ref a) (pure (n : Int))) Q E s := by
  obtain ⟨o, at1, cl1, dt1⟩ := id is
  unfold Builtin.Slice.sliceApplied Builtin.Slice.sliceFields
  refine wpAny_bind (wpAny_bind (wpAny_field at1 dt1 (x := x) rfl (wpAny_bind (wpAny_field at1 dt1 (x := y) rfl (wpAny_bind (wpAny_field at1 dt1 (x := z) rfl (wpAny_pure ?_)))))))
  refine wpAny_bind (slicePart_ pz ?_)
  have nz : ¬ (c == 0) = true := fun q => c0 (eq_of_beq q)
  show wpAny _ _ (if (c == 0) = true then _ else _) _ _ s
  rw [if_neg nz]
  refine wpAny_bind (slicePart_ px (wpAny_bind (slicePart_ py (wpAny_bind (wpAny_pure ?_)))))
  exact wpAny_pure h
theorem item_step {t a : Addr} {its : Array Value} {x y z : Value} {lo hi : Option Int} {c : Int} {Q : Value → Shared → Prop} (ht : IsTup s.heap t its) (is : s.heap.IsSliceOf a x y z) (px : IsPart x lo) (py : IsPart y hi) (pz : IsPart z (some c)) (c0 : c ≠ 0)
    (h1 : wholeS its.size lo hi c = true → Q (.ref t) s) (h2 : wholeS its.size lo hi c = false → Q (.ref s.heap.objs.size) { s with heap := s.heap.push { cls := .type "tuple", data := .seq (pickS its.toList lo hi c).toArray } })
    (hz : slN its.size lo hi c ≤ sizeLine) : wpAny (model prog w) A (getItem (.ref t) (.ref a)) Q E s := by
  have sz : sizeOk (.seq (pickS its.toList lo hi c).toArray) := by
    show (pickS its.toList lo hi c).toArray.size ≤ sizeLine
    rw [List.size_toArray]
    exact Nat.le_trans (pickS_len _ _ _ _) (by rw [Array.length_toList]; exact hz)
  obtain ⟨o, at1, cl1, dt1⟩ := id is
  have ty1 : s.TypeIs (.ref a) "slice" := ⟨o, at1, cl1⟩
  unfold getItem
  (try with_reducible refine wpAny_holding ?_); (first | refine wpAny_bind (wpAny_pure ?_) | skip)
  refine wpAny_bind (wpAny_sequenceKey ht.typeIs (by decide) (wpAny_bind ?_))
  refine wpAny_callSpecial?_slot (name := Str.ofString "__getitem__") ht.typeIs PyProof.Rows.slot_tuple_getitem (wpAny_call_entry PyProof.Rows.slot_tuple_getitem ht.typeIs entry_tuple_getitem ?_ (args_tuple_getitem _ _))
  show wpAny _ _ (Builtin.Tuple.tupleItemsOf (.ref t) >>= _) _ _ s
  refine wpAny_bind (tupleItemsOf_ ht (wpAny_bind (wpAny_typeOf ty1 ?_)))
  rw [if_pos (by decide)]
  refine wpAny_bind (applied_step is px py pz c0 ?_)
  show wpAny _ _ (if (slA its.size lo hi c == 0 && c == 1 && slN its.size lo hi c == its.size) = true then _ else _) _ _ s
  cases wh : wholeS its.size lo hi c with
  | true =>
    have wh1 : (slA its.size lo hi c == 0 && c == 1 && slN its.size lo hi c == its.size) = true := wh
    rw [if_pos wh1]
    refine wpAny_bind ?_
    show wpAny _ _ (typeOf (.ref t) >>= fun T => pure (T == .type "tuple")) _ _ s
    refine wpAny_bind (wpAny_typeOf ht.typeIs (wpAny_pure ?_))
    (first | rw [if_pos (by decide)] | simp only [beq_self_eq_true, if_true])
    have q := h1 wh
    first
      | exact wpAny_bind (wpAny_rule (wpAny_pure ⟨_, rfl, wpAny_pure q⟩))
      | exact wpAny_bind (wpAny_rule (wpAny_bind (wpAny_pure (wpAny_pure ⟨_, rfl, wpAny_pure q⟩))))
  | false =>
    have wh1 : (slA its.size lo hi c == 0 && c == 1 && slN its.size lo hi c == its.size) = false := wh
    rw [if_neg (by rw [wh1]; exact Bool.false_ne_true)]
    have q := h2 wh
    have ep : ((List.range (slN its.size lo hi c)).filterMap fun (m : Nat) => its[(slA its.size lo hi c + (m : Int) * c).toNat]?) = pickS its.toList lo hi c := by
      unfold pickS
      rw [Array.length_toList]
      congr 1
      funext m
      exact Array.getElem?_toList.symm
    rw [ep]
    first
      | exact wpAny_bind (m := Builtin.Tuple.tupleExact _) (wpAny_newObj_type (wpAny_pure ⟨_, rfl, wpAny_pure q⟩) sz)
      | exact wpAny_bind (m := Builtin.Tuple.tupleExact _) (wpAny_newObj_type (wpAny_bind (wpAny_pure (wpAny_pure ⟨_, rfl, wpAny_pure q⟩))) sz)
      | exact wpAny_bind (wpAny_bind (m := Builtin.Tuple.tupleExact _) (wpAny_newObj_type (wpAny_pure (wpAny_pure ⟨_, rfl, wpAny_pure q⟩)) sz))
      | exact wpAny_bind (wpAny_bind (m := Builtin.Tuple.tupleExact _) (wpAny_newObj_type (wpAny_pure ⟨_, rfl, wpAny_pure q⟩) sz))
end
def tSt (K : PySem.W.Frag) (te : TE) (tl th ts : TO) : TE := fun σ H Q => te σ H fun x H1 => tl σ H1 fun l H2 => th σ H2 fun u H3 => ts σ H3 fun o H4 => ∃ c a xs, o = some c ∧ c ≠ 0 ∧ x = .ref a ∧ SqT K H4 a xs ∧ slN xs.length l u c ≤ sizeLine ∧
  (wholeS xs.length l u c = true → Q (.ref a) H4) ∧ (wholeS xs.length l u c = false → ∀ p, H4 p = none → Q (.ref p) (upd H4 p (.tup (pickS xs l u c))))
theorem vals_pick {xs : List V} {us : List Value} (r : Vals xs us) (f : Nat → Nat) : ∀ l : List Nat, Vals (l.filterMap fun m => xs[f m]?) (l.filterMap fun m => us[f m]?)
  | [] => .nil
  | m :: l => by
    have hl := r.length
    cases e : xs[f m]? with
    | none =>
      have e2 : us[f m]? = none := by
        rw [List.getElem?_eq_none_iff] at e ⊢
        omega
      rw [List.filterMap_cons_none (f := fun m => xs[f m]?) e, List.filterMap_cons_none (f := fun m => us[f m]?) e2]
      exact vals_pick r f l
    | some d =>
      obtain ⟨u, e2, rr⟩ := r.get e
      rw [List.filterMap_cons_some (f := fun m => xs[f m]?) e, List.filterMap_cons_some (f := fun m => us[f m]?) e2]
      exact .cons rr (vals_pick r f l)
section
variable {X : Cx} {F : Fd} {e st : Expr} {lo hi : Option Expr} {te : TE} {tl th ts : TO} {p2 pos : Pos}
theorem pe_st (he : PE X e te) (hl : PO X lo tl) (hh : PO X hi th) (hst : PO X (some st) ts) : PE X (.Subscript e (.Slice lo hi (some st) p2) pos) (tSt X.K te tl th ts) := by
  refine ⟨fun pins s0 σ H0 Q I0 h => ?_⟩
  refine Subscript_ (thn (he.run pins s0 σ H0 _ I0 h) fun v s1 ⟨x, H1, I1, r1, q1⟩ => ?_)
  refine wpAny_Slice (thn (hl.run pins s1 σ H1 _ I1 q1) fun vl s2 ⟨l, H2, I2, pl, q2⟩ => thn (hh.run pins s2 σ H2 _ I2 q2) fun vu s3 ⟨u, H3, I3, pu, q3⟩ => thn (hst.run pins s3 σ H3 _ I3 q3) fun vs s4 ⟨o, H4, I4, ps, q4⟩ => ?_)
  obtain ⟨c, a, xs, rfl, c0, rfl, ht, hz, w1, w2⟩ := q4
  cases r1
  have I5 : Inv X pins σ H4 { s4 with heap := s4.heap.push { cls := .type "slice", data := .fields #[vl, vu, vs] } } := I4.kept (t' := s4.toks) fun b ob z => Heap.get?_push_of_some _ z
  obtain ⟨its, r, tt, len⟩ := I5.tuple ht
  have hn : its.toArray.size = xs.length := by rw [List.size_toArray]; exact r.length.symm
  show wpAny (model X.prog X.w) X.A (subscriptTail e (.Slice lo hi (some st) p2) (.ref a) (.ref s4.heap.objs.size)) (EP X pins σ Q) X.xe { s4 with heap := s4.heap.push { cls := .type "slice", data := .fields #[vl, vu, vs] } }
  refine tail_any (ops := [.ref a, .ref s4.heap.objs.size]) tt.typeIs PyProof.Rows.slot_tuple_getitem.lookup ?_ (by with_unfolding_all rfl)
  refine item_step tt (Heap.IsSliceOf.new _ vl vu vs) pl pu ps c0 (fun wh => ?_) (fun wh => ?_) (by rw [hn]; exact hz)
  · exact ⟨.ref a, H4, I5, rfl, w1 (by rw [← hn]; exact wh)⟩
  · refine ⟨.ref _, _, I5.laid (t' := s4.toks) (o := .tup (pickS xs l u c)) (fun b ob z => Heap.get?_push_of_some _ z) (Nat.le_refl _) ?_, rfl, w2 (by rw [← hn]; exact wh) _ (I5.hok.fresh (Nat.le_refl _))⟩
    refine ⟨Nat.le_trans (pickS_len _ _ _ _) hz, (pickS its l u c), ?_, ⟨_, Heap.get?_push_size _ rfl, rfl, _, rfl⟩⟩
    unfold pickS
    rw [← r.length]
    exact vals_pick r (fun m => (slA xs.length l u c + (m : Int) * c).toNat) _
/-- t[lo:hi:c], t a tuple -/
def uSt (ue : UE) (ul uh us : UO) : UE := fun ε A => ue ε fun p ε1 => ul ε1 fun l ε2 => uh ε2 fun h ε3 => us ε3 fun o ε4 => match seqOf p ε4, o with
  | some (false, ds), some c => (c ≠ 0 ∧ slN ds.length l h c ≤ 1000000) ∧ A (.d (.tup (pickS ds l h c))) ε4
  | _, _ => False
theorem q_st {ue : UE} {ul uh us : UO} (he : QE X F e ue) (hl : QO X F lo ul) (hh : QO X F hi uh) (hs : QO X F (some st) us) : QE X F (.Subscript e (.Slice lo hi (some st) p2) pos) (uSt ue ul uh us) := by
  obtain ⟨t, p, s⟩ := he.ex
  obtain ⟨tl, pl, sl⟩ := hl.ex
  obtain ⟨th, ph, sh⟩ := hh.ex
  obtain ⟨ts, ps, ss⟩ := hs.ex
  refine ⟨_, pe_st p pl ph ps, fun R h c => s R h fun p ε1 v H1 Hs1 h1 R1 s1 r1 => sl R1 h1 fun l ε2 H2 Hs2 h2 R2 s2 => sh R2 h2 fun u ε3 H3 Hs3 h3 R3 s3 => ss R3 h3 fun o ε4 H4 Hs4 h4 R4 s4 => ?_⟩
  have r4 := ((r1.same s2).same s3).same s4
  have c4 := c.after (((s1.trans s2).trans s3).trans s4)
  split at h4
  · rename_i ds k e1
    obtain ⟨a, vs, rfl, t1, q1⟩ := seqOf_ok R4 r4 e1
    refine ⟨k, a, vs, rfl, h4.1.1, rfl, q1, by rw [t1.len]; exact le_line h4.1.2, fun z => ?_, fun _ q hq => c4.new h4.2 R4 hq (.tup (.of upd_same) ?_)⟩
    · refine c4.now h4.2 R4 (?_ : Rp X.K Hs4 _ _)
      rw [t1.len] at z
      rw [pickS_whole z]
      exact tupOf_ok R4 r4 e1
    · have := t1.pick (fun m => (slA ds.length l u k + (m : Int) * k).toNat) (List.range (slN ds.length l u k))
      unfold pickS
      rw [t1.len]
      exact this.same (same_new (none_of_same R4.sub hq))
  · exact h4.elim
end
theorem filterMap_cg {α β : Type} {f g : α → Option β} : ∀ {l : List α}, (∀ m ∈ l, f m = g m) → l.filterMap f = l.filterMap g
  | [], _ => rfl
  | m :: l, h => by
    have h1 := h m List.mem_cons_self
    have ih := filterMap_cg (l := l) fun x hx => h x (List.mem_cons_of_mem _ hx)
    simp only [List.filterMap_cons, h1, ih]
/-- the turn back to front -/
theorem pickS_rev {α : Type} (xs : List α) : pickS xs none none (-1) = xs.reverse := by
  have e1 : slA xs.length none none (-1) = xs.length - 1 := rfl
  have e2 : slN xs.length none none (-1) = xs.length := by
    show (if (-1 : Int) > 0 then (if (xs.length : Int) - 1 < -1 then (-1 - ((xs.length : Int) - 1) - 1) / (-1) + 1 else 0) else (if (xs.length : Int) - 1 > -1 then ((xs.length : Int) - 1 - -1 - 1) / (- -1) + 1 else 0)).toNat = _
    rw [if_neg (by decide)]
    split
    · rw [show (- -1 : Int) = 1 from rfl, Int.ediv_one]
      omega
    · omega
  unfold pickS
  rw [e1, e2]
  have e : xs.reverse = (List.range xs.length).filterMap fun m => xs.reverse[m]? := by
    have := filterMap_all xs.reverse
    rw [List.length_reverse] at this
    exact this.symm
  rw [e]
  refine filterMap_cg fun m hm => ?_
  have hm := List.mem_range.mp hm
  rw [List.getElem?_reverse hm]
  congr 1
  omega
/-- each c-th from the place k on -/
theorem pickS_from {α : Type} (xs : List α) {k c : Nat} (hk : k < c) (h : xs.length % c = 0) : pickS xs (some (k : Int)) none (c : Int) = (List.range (xs.length / c)).filterMap fun m => xs[k + m * c]? := by
  have hc : 0 < c := by omega
  have dm : xs.length / c * c = xs.length := Nat.div_mul_cancel (Nat.dvd_of_mod_eq_zero h)
  have ea : Builtin.Slice.sliceAdjust (some (k : Int)) none (c : Int) (xs.length : Int) = (min (k : Int) xs.length, (xs.length : Int)) := by
    unfold Builtin.Slice.sliceAdjust
    have n1 : ¬ ((c : Int) < 0) := by omega
    have n2 : ¬ ((k : Int) < 0) := by omega
    simp only [n1, n2, if_false]
  have e1 : slA xs.length (some (k : Int)) none (c : Int) = min (k : Int) xs.length := by
    unfold slA
    rw [ea]
  have e2 : slN xs.length (some (k : Int)) none (c : Int) = xs.length / c := by
    unfold slN
    rw [ea]
    unfold Builtin.Slice.slicePlaces
    rw [if_pos (show (c : Int) > 0 by omega)]
    generalize hq : xs.length / c = q at dm
    rw [← dm]
    rcases Nat.eq_zero_or_pos q with z | z
    · subst z
      rw [Nat.zero_mul]
      rw [if_neg (by omega)]
      rfl
    · have hcq : c ≤ q * c := Nat.le_mul_of_pos_left c z
      rw [if_pos (by omega), show min (k : Int) ((q * c : Nat) : Int) = k by omega]
      have : ((((q * c : Nat) : Int)) - k - 1) / (c : Int) = (q : Int) - 1 := by
        have e3 : (((q * c : Nat) : Int)) - k - 1 = ((c : Int) - 1 - k) + ((q : Int) - 1) * c := by
          rw [Int.natCast_mul, Int.sub_mul, Int.one_mul]
          omega
        rw [e3, Int.add_mul_ediv_right _ _ (by omega), Int.ediv_eq_zero_of_lt (by omega) (by omega), Int.zero_add]
      show ((((q * c : Nat) : Int) - k - 1) / (c : Int) + 1).toNat = q
      rw [this]
      omega
  unfold pickS
  rw [e1, e2]
  refine filterMap_cg fun m hm => ?_
  have hm := List.mem_range.mp hm
  congr 1
  have h1 : m * c + c ≤ xs.length := by
    have := Nat.mul_le_mul_right c (show m + 1 ≤ xs.length / c from hm)
    rw [Nat.add_mul, Nat.one_mul] at this
    omega
  have h2 : min (k : Int) (xs.length : Int) = k := by omega
  rw [h2, ← Int.natCast_mul]
  omega
end Pu

set_option Elab.async false
set_option linter.all false
set_option maxRecDepth 100000
set_option maxHeartbeats 4000000
/-! Dict comprehensions whose keys are tuples; what such a dict holds. -/
namespace Pu
open PySem PySem.Spec PyProof.Rows L2 Gd RZ HT
section
variable {X : Cx} {pins : List (Addr × Obj)} {σ : L2.St} {H H' : Hp} {sh : Shared} {d : Addr} {y v : V} {u r : Value} {A : Around} {E : Value → Shared → Prop} {Q : Unit → Shared → Prop}
/-- a pair put into a dict with tuple keys -/
theorem put_tup (hu : A.units < cLine) (J : Inv X pins σ H sh) {kvs : List (List Key × V)} {k : List Key} {b : Addr} (at1 : H d = some (.dT kvs)) (at2 : H b = some (.tup (k.map kV))) (few : kvs.length < sizeLine) (rv : RelV v r)
    (go : ∀ z, Inv X pins σ (upd H d (.dT (putK kvs k v))) z → Q () z) : wpAny (model X.prog X.w) A (dictSet d (.ref b) r) Q E sh := by
  obtain ⟨n1, n2, xs, rel, dd⟩ := dt_of J.hok at1
  have l1 : xs.length ≤ sizeLine := (Paired.length rel).symm ▸ n1
  have l2 : (putK kvs k v).length ≤ sizeLine := Nat.le_trans (length_putK kvs k v) few
  refine wpAny_dictSet_heap (hsz := l1) hu (key_of J.hok at2) dd fun h' dd' sb => go _ ?_
  obtain ⟨o, es, ep, g1, g2, g3, g4, _, g5⟩ := dd'
  have keep := (rel.put k at2 rv).keeps (H' := upd H d (.dT (putK kvs k v))) fun c ys ec => (upd_ne (ne_of ec at1 fun z => nomatch z)).trans ec
  exact d_write J (by rw [at1]; exact True.intro) sb ⟨o, g1⟩ ⟨l2, n2, _, keep, o, es, ep, g1, g2, g3, g4, g5⟩
end
/-- {k: v for target in iter if ..}, the keys tuples: D the new dict -/
def tDcT (wi : TI) (g : TG) (tt : TT) (tk tv : TE) (vs : List Nat) : TE := fun σ H Q => wi σ H fun J H1 => ∀ D, H1 D = none → ∃ W : Nat → Nat → Hp → Prop, (∃ m, W 0 m (upd H1 D (.dT []))) ∧ ∀ i m H, W i m H →
  (J.stop i H ∧ Q (.ref D) H) ∨ (J.go i H ∧ ∃ Ne : Hp → Prop, (∀ H', Ne H' → ∃ m', m' < m ∧ W (i + 1) m' H') ∧ ∀ x H', J.yld i H x H' → g x (L2.wipe σ vs) H' fun σ2 H2 => L2.wipe σ2 vs = L2.wipe σ vs ∧ tt σ2 H2 fun b H3 =>
    if b = true then tk σ2 H3 fun y H4 => tv σ2 H4 fun z H5 => ∃ kvs k a, y = .ref a ∧ H5 a = some (.tup (k.map kV)) ∧ H5 D = some (.dT kvs) ∧ kvs.length < sizeLine ∧ Ne (upd H5 D (.dT (putK kvs k z))) else Ne H3)
section
variable {X : Cx}
abbrev InBlk (X : Cx) (scope : Scope) (p : Cx → Prop) : Prop := ∀ (s : Shared) (H : Hp) (C : Addr) (cl : List (Str × Addr)) (fp : List Addr), p (X.blk s H scope (compEnvC scope cl C X.env) fp)
theorem dcT_core {pins : List (Addr × Obj)} {z : Shared} {σ : L2.St} {H : Hp} {Q : VK} {kx vx tg iter : Expr} {ifs : List Expr} {scope : Scope} {own : List (Str × Nat)} {pos pos2 : Pos} {wi : TI} {g : TG} {tt : TT} {tk tv : TE} {use : Option (Value → Sem Unit)} {Qf : Value → Shared → Prop}
    (calm : X.calm = true) (nd : X.N.Nodup) (hu : X.A.units < cLine) (J0 : Inv X pins σ H z) (hi : PI X tg iter wi) (ok : BlkOk X.N X.env.scope scope own) (hg : InBlk X scope fun Y => PG Y tg g) (ht : InBlk X scope fun Y => PTs Y ifs tt) (hk : InBlk X scope fun Y => PE Y kx tk) (hv : InBlk X scope fun Y => PE Y vx tv)
    (plain : ∀ x, foldedSetIterable iter X.env x = pure x) (h : tDcT wi g tt tk tv (own.map (·.2)) σ H Q)
    (fin : ∀ D C z' m H', Inv X pins σ H' z' → Q (.ref D) H' → z'.heap.Ns C m → FpOk X pins H' C → compPost (model X.prog X.w) X.A X.xe use Qf (.ref D) C (.ok .next) z') :
    wpAny (model X.prog X.w) X.A (comprehension (.DictComp kx vx [⟨tg, iter, ifs, 0⟩] scope pos) scope X.env pos2 newDict false (eval iter X.env) use) Qf X.xe z := by
  refine wpAny_comprehension_free (use := use) rfl plain (closure_ok fun y hy e => (ok.free y hy e).elim (fun q => J0.ok.has _ (.inl q)) fun q => J0.ok.has _ (.inr q)) ok.kind (fun y hy e => by rw [ok.uniq y hy, e]) ?_
  refine thn (hi.run pins z σ H _ J0 h) fun _ z1 k1 => thn k1 fun vi z2 ⟨it, fp, tn, It, H2, ei, J2, T, st2, f2, q⟩ => ?_
  subst ei
  refine wpAny_newObj_type (newEnv_comp ?_)
  generalize eD : z2.heap.objs.size = D
  have freeD : H2 D = none := J2.hok.fresh (Nat.le_of_eq eD)
  obtain ⟨W, ⟨m0, w0⟩, turn⟩ := q D freeD
  generalize ez : ({ z2 with heap := z2.heap.push { cls := .type "dict", data := .dict #[] } } : Shared) = z3
  have hz3 : z3.heap = z2.heap.push { cls := .type "dict", data := .dict #[] } := by rw [← ez]
  have J3 : Inv X pins σ (upd H2 D (.dT [])) z3 := by
    rw [← ez, ← eD]
    exact J2.laid (t' := z2.toks) (fun b o e => Heap.get?_push_of_some _ e) (Nat.le_refl _) (dt_empty z2.heap J2.big)
  have f3 : ∀ b ∈ fp, FpOk X pins (upd H2 D (.dT [])) b ∧ b < z3.heap.objs.size := fun b hb => by
    obtain ⟨o, e, _⟩ := T.obj _ _ st2 b hb
    have lt := Heap.lt_size e
    refine ⟨⟨by rw [upd_ne (by rw [← eD]; exact Nat.ne_of_lt lt)]; exact (f2 b hb).1, (f2 b hb).2⟩, ?_⟩
    rw [hz3, Heap.size_push]
    exact Nat.lt_succ_of_lt lt
  have st3 : tn 0 z3.heap := T.keep _ _ _ st2 fun b _ o e => by rw [hz3]; exact Heap.get?_push_of_some _ e
  have J4 := block_start J3 ok nd f3
  generalize eC : cellsFrom (z3.heap.objs.size + 1) scope.names (cloFrom X.env.cells scope.names []) = cl at J4
  have pg := hg z3 (upd H2 D (.dT [])) z3.heap.objs.size cl fp
  have pt := ht z3 (upd H2 D (.dT [])) z3.heap.objs.size cl fp
  have pk := hk z3 (upd H2 D (.dT [])) z3.heap.objs.size cl fp
  have pv := hv z3 (upd H2 D (.dT [])) z3.heap.objs.size cl fp
  show codeAny _ _ (.compStart (.DictComp kx vx [⟨tg, iter, ifs, 0⟩] scope pos) 0 (.ref it) (.ref D) (compEnvC scope cl z3.heap.objs.size X.env)) (compPost (model X.prog X.w) X.A X.xe use Qf (.ref D) z3.heap.objs.size) { z3 with heap := pushCells (z3.heap.push { cls := .type "dict", data := .dict #[] }) scope.names }
  have nof : ∀ b ∈ fp, (upd H2 D (.dT [])) b = none := fun b hb => (f3 b hb).1.1
  generalize eE : compEnvC scope cl z3.heap.objs.size X.env = ce at J4 pg pt pk pv ⊢
  have locE : ce.locals = z3.heap.objs.size := eE ▸ rfl
  generalize upd H2 D (.dT []) = H3 at J3 J4 pg pt pk pv w0 nof f3
  generalize e4 : ({ z3 with heap := pushCells (z3.heap.push { cls := .type "dict", data := .dict #[] }) scope.names } : Shared) = z4 at J4 ⊢
  have st4 : tn 0 z4.heap := T.keep _ _ _ st3 fun b _ o e => e4 ▸ pushCells_keeps _ _ _ _ (Heap.get?_push_of_some _ e)
  have fpOk : ∀ {σ' : L2.St} {H' : Hp} {z' : Shared}, Inv (X.blk z3 H3 scope ce fp) [] σ' H' z' → (∀ b ∈ fp, H' b = none) → ∀ b ∈ fp, FpOk (X.blk z3 H3 scope ce fp) [] H' b := fun K n b hb =>
    ⟨n b hb, (K.ok.exf b hb).1, K.ok.exfs b hb, .inl hb, fun x c e => (K.ok.exf b hb).2 x c e, fun p hp => absurd (show p ∈ ([] : List (Addr × Obj)) ++ [] from hp) (by simp)⟩
  suffices loop : codeAny (model X.prog X.w) X.A (.compLoop (.DictComp kx vx [⟨tg, iter, ifs, 0⟩] scope pos) 0 (.ref it) (.ref D) ce) (compPost (model X.prog X.w) X.A X.xe use Qf (.ref D) z3.heap.objs.size) z4 from codeAny_compStart_dict loop (T.self X.A 0 _ _ _ st4 loop)
  refine compLoop_anyD (fun n z' => ∃ i H', Inv (X.blk z3 H3 scope ce fp) [] (L2.wipe σ (own.map (·.2))) H' z' ∧ tn i z'.heap ∧ (∀ b ∈ fp, H' b = none) ∧ W i n H') ?_ m0 ⟨0, H3, J4, st4, nof, w0⟩
  rintro n z5 ⟨i, H5, J5, st5, n5, w5⟩
  rcases turn i n H5 w5 with ⟨stop, done⟩ | ⟨go, Ne, hNe, step⟩
  · refine thnF (T.done (X.blk z3 H3 scope ce fp) rfl rfl rfl calm i [] z5 _ H5 (fun _ _ => False) J5 (fpOk J5 n5) st5 stop) fun _ z6 ⟨e6, J6⟩ => ?_
    subst e6
    have J7 : Inv X pins σ H5 z6 := J3.call' (ch := fp) J6.os J6.base J6.hok J6.bare fun b hb => ⟨(f3 b hb).1.2.2.2.1, (f3 b hb).1.2.1, (f3 b hb).1.2.2.2.2.1, (f3 b hb).1.2.2.2.2.2⟩
    obtain ⟨m, ns, _⟩ := J6.loc
    have ns : z6.heap.Ns ce.locals m := ns
    have nC : H5 ce.locals = none := J6.free
    rw [locE] at ns nC
    exact fin D z3.heap.objs.size z6 m H5 J7 done ns (J3.fpOk (Nat.le_refl _) nC)
  · refine thnF (T.item (X.blk z3 H3 scope ce fp) rfl rfl rfl calm i [] z5 _ H5 (fun _ _ => False) J5 (fpOk J5 n5) st5 go) fun _ z6 ⟨u, e6, k6⟩ => ?_
    subst e6
    refine thnF k6 fun _ z7 ⟨x, H7, J7, r7, y7, st7, n7⟩ => ?_
    refine thnF (pg.run _ z7 _ H7 x u _ (J7.pinned (fpOk J7 n7) (T.obj _ _ st7)) r7 (step x H7 y7)) fun _ z8 ⟨σ8, H8, J8, we, q8⟩ => ?_
    refine thnF (pt.run _ z8 σ8 H8 _ J8 q8) fun b z9 ⟨H9, J9, q9⟩ => ?_
    have back : ∀ {z' : Shared} {H' : Hp}, Inv (X.blk z3 H3 scope ce fp) ([] ++ pinsAt fp z7.heap) σ8 H' z' → Ne H' → ∃ m, m < n ∧ ∃ i H', Inv (X.blk z3 H3 scope ce fp) [] (L2.wipe σ (own.map (·.2))) H' z' ∧ tn i z'.heap ∧ (∀ b ∈ fp, H' b = none) ∧ W i m H' := fun {z' H'} K ne => by
      obtain ⟨m', lt, w'⟩ := hNe H' ne
      have pinned : ∀ b ∈ fp, ∀ o, z7.heap.get? b = some o → z'.heap.get? b = some o ∧ H' b = none := fun b hb o e => by
        have := K.pin (b, o) (List.mem_append_right _ (List.mem_append_right _ (mem_pinsAt hb e)))
        exact ⟨this.1, this.2.1⟩
      have len : (L2.wipe σ (own.map (·.2))).length = σ8.length := by rw [← we, wipe_length]
      refine ⟨m', lt, i + 1, H', (K.unpinned (pins := [])).weak len (fun j v e => (wipe_some (we ▸ e)).1), T.keep _ _ _ st7 fun b hb o e => (pinned b hb o e).1, fun b hb => ?_, w'⟩
      obtain ⟨o, e, _⟩ := T.obj _ _ st7 b hb
      exact (pinned b hb o e).2
    cases b with
    | false =>
      simp only [Bool.false_eq_true, if_false] at q9 ⊢
      exact back J9 q9
    | true =>
      simp only [if_true] at q9 ⊢
      refine thnF (pk.run _ z9 σ8 H9 _ J9 q9) fun _ z10 ⟨yk, H10, J10, r10, q10⟩ => ?_
      refine thnF (pv.run _ z10 σ8 H10 _ J10 q10) fun _ z11 ⟨yv, H11, J11, r11, kvs, k, a, ek, at1, at2, few, ne⟩ => ?_
      subst ek
      cases r10
      exact put_tup (X := X.blk z3 H3 scope ce fp) hu J11 at2 at1 few r11 fun z12 J12 => back J12 ne
end
end Pu

set_option Elab.async false
set_option linter.all false
set_option maxRecDepth 100000
set_option maxHeartbeats 4000000
/-! Dicts with tuple keys, read without the heap. -/
namespace Pu
open PySem PySem.Spec PyProof.Rows L2 Gd RZ
section
variable {X : Cx}
theorem pe_dcT {kx vx tg iter : Expr} {ifs : List Expr} {scope : Scope} {own : List (Str × Nat)} {pos : Pos} {wi : TI} {g : TG} {tt : TT} {tk tv : TE} (calm : X.calm = true) (nd : X.N.Nodup) (hu : X.A.units < cLine) (hi : PI X tg iter wi) (ok : BlkOk X.N X.env.scope scope own)
    (hg : InBlk X scope fun Y => PG Y tg g) (ht : InBlk X scope fun Y => PTs Y ifs tt) (hk : InBlk X scope fun Y => PE Y kx tk) (hv : InBlk X scope fun Y => PE Y vx tv) (plain : ∀ x, foldedSetIterable iter X.env x = pure x := by intro _; rfl) :
    PE X (.DictComp kx vx [⟨tg, iter, ifs, 0⟩] scope pos) (tDcT wi g tt tk tv (own.map (·.2))) := by
  refine ⟨fun pins z σ H Q J h => ?_⟩
  rw [arm_eval_DictComp]
  refine dcT_core calm nd hu J hi ok hg ht hk hv plain h fun D C z' m H' J' q ns f => ⟨m, ns, fun h' sb => ?_⟩
  exact ⟨.ref D, H', J'.turned (t' := z'.toks) (fun b o hb e => (sb.2 b hb).trans e) f.1 f.2.1 f.2.2.2.1 f.2.2.2.2.1 f.2.2.2.2.2, rfl, q⟩
end
/-- a key: a new tuple of whole numbers -/
def tKy (K : PySem.W.Frag) (F : Fd) (u : UA) : TE := fun σ H Q => ∃ (fa : Option Addr) (G Hs : Hp) (ε : En) (A : List Int → En → Prop), RepE K F fa G Hs H σ ε ∧ (u ε fun ds ε' => ∃ ns : List Int, ds = ns.map D.int ∧ A ns ε') ∧
  ∀ ns ε' a H' Hs', A ns ε' → RepE K F fa G Hs' H' σ ε' → Same Hs Hs' → Hs' a = some (.tup (ns.map V.int)) → Q (.ref a) H'
section
variable {X : Cx} {F : Fd} {es : List Expr} {u : UA} {pos : Pos} {k : Nat}
theorem ky_tup (h : QA X F es u) (few : es.length ≤ 1000 := by decide) : PE X (.Tuple es k pos) (tKy X.K F u) := by
  obtain ⟨t, p, s⟩ := h.ex
  refine ⟨fun pins z σ H Q J ⟨fa, G, Hs, ε, A, R, h, c⟩ => (pe_tup p).run pins z σ H Q J ?_⟩
  refine s R h fun ds ε1 vs H1 Hs1 ⟨ns, e1, a1⟩ l1 R1 s1 r1 => ⟨?_, fun q hq => ?_⟩
  · rw [r1.len, l1]
    exact Nat.le_of_lt (small1000 few)
  · subst e1
    have := r1.ints
    subst this
    exact c ns ε1 q _ _ a1 (R1.new hq) (s1.trans (same_new (none_of_same R1.sub hq))) upd_same
end
/-! ### pairs -/
/-- what is held for pairs of keys and data -/
def RpP (K : PySem.W.Frag) (H : Hp) (kvs : List (List Key × V)) (acc : List (List Int × D)) : Prop := kvs.map (·.1) = acc.map (fun p => p.1.map Sum.inl) ∧ RpA K H (kvs.map (·.2)) (acc.map (·.2))
theorem RpP.same {K : PySem.W.Frag} {H H' : Hp} {kvs : List (List Key × V)} {acc : List (List Int × D)} (h : RpP K H kvs acc) (s : Same H H') : RpP K H' kvs acc := ⟨h.1, h.2.same s⟩
theorem inl_inj : ∀ {xs ys : List Int}, xs.map (Sum.inl : Int → Key) = ys.map Sum.inl → xs = ys
  | [], [], _ => rfl
  | x :: xs, y :: ys, h => by
    rw [List.map_cons, List.map_cons, List.cons.injEq] at h
    rw [Sum.inl.inj h.1, inl_inj h.2]
  | [], _ :: _, h => by simp at h
  | _ :: _, [], h => by simp at h
theorem RpP.put {K : PySem.W.Frag} {H : Hp} {kvs : List (List Key × V)} {acc : List (List Int × D)} {ns : List Int} {v : V} {x : D} (h : RpP K H kvs acc) (new : ∀ p ∈ acc, p.1 ≠ ns) (r : Rp K H v x) :
    putK kvs (ns.map Sum.inl) v = kvs ++ [(ns.map Sum.inl, v)] ∧ RpP K H (kvs ++ [(ns.map Sum.inl, v)]) (acc ++ [(ns, x)]) := by
  refine ⟨?_, ?_, ?_⟩
  · unfold putK
    rw [if_neg]
    intro q
    obtain ⟨kv, hkv, e⟩ := List.any_eq_true.mp q
    have e := of_decide_eq_true e
    have m : kv.1 ∈ kvs.map (·.1) := List.mem_map.mpr ⟨kv, hkv, rfl⟩
    rw [h.1] at m
    obtain ⟨p, hp, e2⟩ := List.mem_map.mp m
    exact new p hp (inl_inj (e2.trans e))
  · rw [List.map_append, List.map_append, h.1]
    rfl
  · rw [List.map_append, List.map_append]
    exact h.2.append (.cons r .nil)
theorem RpP.len {K : PySem.W.Frag} {H : Hp} {kvs : List (List Key × V)} {acc : List (List Int × D)} (h : RpP K H kvs acc) : kvs.length = acc.length := by
  have := congrArg List.length h.1
  rwa [List.length_map, List.length_map] at this
/-! ### dict comprehensions -/
def DcX (ug : UG) (ut : UT) (uk : UA) (uv : UE) (vs : List Nat) (A : List (List Int × D) → En → Prop) (_t : Tg (ug, ut, uk, uv, vs, A)) (ds : List D) (ε1 : En) : Prop := ds.length ≤ 1000000 ∧ ∃ Inv : Nat → List (List Int × D) → En → Prop, Inv 0 [] (wipeE ε1 vs) ∧
  (∀ i d acc ε2, ds[i]? = some d → Inv i acc ε2 → ug d ε2 fun ε3 => ut ε3 fun b ε4 => if b = true then uk ε4 fun ks ε5 => ∃ ns : List Int, ks = ns.map D.int ∧ uv ε5 fun p ε6 => asD p ε6 fun x ε7 => (∀ p ∈ acc, p.1 ≠ ns) ∧ Inv (i + 1) (acc ++ [(ns, x)]) (wipeE ε7 vs) else Inv (i + 1) acc (wipeE ε4 vs)) ∧
  ∀ acc ε2, Inv ds.length acc ε2 → A acc ε2
def uDc (ui : UA) (ug : UG) (ut : UT) (uk : UA) (uv : UE) (vs : List Nat) : UE := fun ε A => ui ε fun ds ε1 => DcX ug ut uk uv vs (fun acc ε2 => A (.d (.dcT (acc.map fun p => p.1.map Sum.inl) (acc.map (·.2)))) ε2) .mk ds ε1
section
variable {K : PySem.W.Frag} {F : Fd} {fa : Option Addr} {G Hs H : Hp} {σ : L2.St} {ε : En}
/-- another object where a guard stands -/
theorem RepE.reguardO {a : Addr} {o1 o2 : HO} (hG : G a = none) (R : RepE K F fa (upd G a o1) Hs H σ ε) : RepE K F fa (upd G a o2) Hs (upd H a o2) σ ε := by
  obtain ⟨R1, h1, h2, h3, h4⟩ := RepE.unguard hG R
  refine ⟨fun b o q => ?_, fun b o q => ?_, fun d q => ?_, R.len, R.sh, fun j oj dj q => ?_, R.fdS, R.inj⟩
  · rw [upd_ne (fun z => by subst z; rw [h1] at q; cases q)]
    exact R.sub b o q
  · by_cases hb : b = a
    · subst hb
      rw [upd_same] at q ⊢
      exact ⟨q, h1⟩
    · rw [upd_ne hb] at q ⊢
      exact R1.grd b o q
  · obtain ⟨q1, q2, o, q3, q4⟩ := R1.fd d q
    have ne : d ≠ a := fun z => by subst z; exact h2 q
    exact ⟨q1, by rw [upd_ne ne]; exact q2, o, by rw [upd_ne ne]; exact q3, q4⟩
  · obtain ⟨b, ws, q1, q2, q3, q4, q5, q6⟩ := R1.ow j oj dj q
    have ne : b ≠ a := fun z => by subst z; exact h4 j oj dj q q1
    exact ⟨b, ws, q1, q2, by rw [upd_ne ne]; exact q3, q4, by rw [upd_ne ne]; exact q5, q6⟩
end
section
variable {X : Cx} {F : Fd} {kx vx tg iter : Expr} {ifs : List Expr} {scope : Scope} {own : List (Str × Nat)} {pos : Pos} {ui : UA} {ug : UG} {ut : UT} {uk : UA} {uv : UE} {is : List Nat}
theorem dcT {K : PySem.W.Frag} {vs : List Nat} (hsub : ∀ i ∈ is, i ∈ vs) {wi : TI} (s : ∀ {fa : Option Addr} {G Hs H : Hp} {σ : L2.St} {ε : En} {A : List D → En → Prop} {R : It → Hp → Prop}, RepE K F fa G Hs H σ ε → ui ε A →
    (∀ ds ε' J H' Hs', A ds ε' → RepE K F fa G Hs' H' σ ε' → Same Hs Hs' → WalkQ K Hs' J ds → R J H') → wi σ H R)
    {fa : Option Addr} {G Hs H : Hp} {σ : L2.St} {ε : En} {A : PV → En → Prop} {Q : VK} (R : RepE K F fa G Hs H σ ε) (h : uDc ui ug ut uk uv vs ε A) (c : Ck K F fa G Hs σ A Q) :
    tDcT wi (tG K F is ug) (tT K F ut) (tKy K F uk) (tE K F uv) vs σ H Q := by
  refine s R h fun ds ε1 J H1 Hs1 h1 R1 e1 w => fun Da hDa => ?_
  obtain ⟨hl, Inv, i0, step, fin⟩ := h1
  obtain ⟨Gd, Y, w, hG, hY⟩ := w.ex
  obtain ⟨Rb, hGa⟩ := R1.bare (o := .dT []) hDa
  let Pv : Nat → Hp → Prop := fun i H' => ∃ acc kvs ε0 Hs', Inv i acc (wipeE ε0 vs) ∧ RepE K F fa (upd G Da (.dT kvs)) Hs' H' (L2.wipe σ vs) (wipeE ε0 vs) ∧ Same Hs1 Hs' ∧ RpP K Hs' kvs acc ∧ acc.length ≤ i
  have P0 : Pv 0 (upd H1 Da (.dT [])) := ⟨[], [], ε1, Hs1, i0, Rb.wipe vs, Same.refl _, ⟨rfl, .nil⟩, Nat.le_refl _⟩
  have PG : ∀ i H', Pv i H' → Gd H' := fun i H' ⟨_, _, _, Hs', _, R', e', _⟩ => hG Hs' H' e' R'.sub
  have stepP : ∀ i x H' H3, i < ds.length → Pv i H' → Y i H' x H3 → tG K F is ug x (L2.wipe σ vs) H3 fun σ2 H2 => L2.wipe σ2 vs = L2.wipe σ vs ∧ tT K F ut σ2 H2 fun b H3 =>
      if b = true then tKy K F uk σ2 H3 fun y H4 => tE K F uv σ2 H4 fun z H5 => ∃ kvs k a, y = .ref a ∧ H5 a = some (.tup (k.map kV)) ∧ H5 Da = some (.dT kvs) ∧ kvs.length < sizeLine ∧ Pv (i + 1) (upd H5 Da (.dT (putK kvs k z))) else Pv (i + 1) H3 := by
    rintro i x H' H3 hi ⟨acc, kvs, ε0, Hs', a, R', e', ra, la⟩ y
    obtain ⟨d, ed, hd⟩ := hY i Hs' H' x H3 e' R'.sub y hi
    suffices go : ∀ {Hs3 : Hp}, RepE K F fa (upd G Da (.dT kvs)) Hs3 H3 (L2.wipe σ vs) (wipeE ε0 vs) → Same Hs1 Hs3 → RpP K Hs3 kvs acc → Rp K Hs3 x d → _ by
      rcases hd with ⟨rfl, rx⟩ | ⟨T, o, f1, rfl, rx, rfl⟩
      · exact go R' e' ra rx
      · have s1 := same_new (o := o) (none_of_same R'.sub f1)
        exact go (R'.new f1) (e'.trans s1) (ra.same s1) rx
    intro Hs3 R3 e3 ra3 rx
    refine ⟨fa, _, Hs3, _, d, _, R3, rx, step i d acc _ ed a, fun ε4 σ4 H4 Hs4 a4 R4 e4 l4 g4 => ?_⟩
    have we : L2.wipe σ4 vs = L2.wipe σ vs := by
      rw [← wipe_wipe σ vs]
      exact wipe_agree l4 fun i hi => g4 i fun z => hi (hsub i z)
    refine ⟨we, fa, _, Hs4, _, _, R4, a4, fun b ε5 H5 Hs5 a5 R5 e5 => ?_⟩
    cases b with
    | false =>
      refine ⟨acc, kvs, ε5, Hs5, a5, ?_, (e3.trans e4).trans e5, (ra3.same e4).same e5, Nat.le_succ_of_le la⟩
      rw [← we]
      exact R5.wipe vs
    | true =>
      refine ⟨fa, _, Hs5, _, _, R5, a5, fun ns' ε6 ka H6 Hs6 a6 R6 e6 hk6 => ?_⟩
      refine ⟨fa, _, Hs6, _, _, R6, a6, fun p ε7 yv H7 Hs7 a7 R7 e7 r7 => ?_⟩
      obtain ⟨Hs8, ε8, z, e8, R8, rz, new, a8⟩ := asD_ok R7 r7 a7
      have ra8 := ((ra3.same e4).same e5).same (e6.trans (e7.trans e8))
      obtain ⟨pe, pr⟩ := ra8.put new rz
      refine ⟨kvs, ns'.map Sum.inl, ka, rfl, ?_, (R8.grd Da _ upd_same).1, ?_, acc ++ [(ns', z)], kvs ++ [(ns'.map Sum.inl, yv)], ε8, Hs8, a8, ?_, ((e3.trans e4).trans e5).trans (e6.trans (e7.trans e8)), pr, ?_⟩
      · have z6 := R8.sub _ _ ((e7.trans e8) _ _ hk6)
        rw [z6, List.map_map]
        rfl
      · rw [ra8.len, sizeLine_eq]
        omega
      · rw [← we, pe]
        exact (R8.wipe vs).reguardO hGa
      · rw [List.length_append, List.length_singleton]
        omega
  refine ⟨fun i m H' => m = ds.length - i ∧ i ≤ ds.length ∧ Pv i H', ⟨ds.length, rfl, Nat.zero_le _, P0⟩, ?_⟩
  rintro i m H' ⟨rfl, hi, p⟩
  have q := PG i H' p
  by_cases hlt : i < ds.length
  · exact .inr ⟨w.goes i H' hlt q, Pv (i + 1), fun H4 p' => ⟨ds.length - (i + 1), by omega, rfl, hlt, p'⟩, fun x H4 y => stepP i x H' H4 hlt p (w.yields i H' x H4 hlt q y)⟩
  · have e : i = ds.length := by omega
    subst e
    refine .inl ⟨w.stops H' q, ?_⟩
    obtain ⟨acc, kvs, ε0, Hs', a, R', e', ra, la⟩ := p
    obtain ⟨R2, k1, k2, k3, k4⟩ := RepE.unguard hGa (R'.unwipe)
    have s1 : Same Hs' (upd Hs' Da (.dT kvs)) := same_new k1
    exact c (.d _) _ _ _ _ (fin acc _ a) (R2.adopt k1 hGa k2 k4 k3) ((e1.trans e').trans s1) (.dcT upd_same ra.1 (ra.2.same s1))
theorem q_dc {es : List Expr} {k : Nat} {kp : Pos} (calm : X.calm = true) (nd : X.N.Nodup) (hu : X.A.units < cLine) (hi : QI X F tg iter ui) (ok : BlkOk X.N X.env.scope scope own) (hg : InBlk X scope fun Y => QG Y F tg is ug) (ht : InBlk X scope fun Y => QTs Y F ifs ut)
    (hk : InBlk X scope fun Y => QA Y F es uk) (hv : InBlk X scope fun Y => QE Y F vx uv) (few : es.length ≤ 1000 := by decide) (hsub : ∀ i ∈ is, i ∈ own.map (·.2) := by decide) (plain : ∀ x, foldedSetIterable iter X.env x = pure x := by intro _; rfl) :
    QE X F (.DictComp (.Tuple es k kp) vx [⟨tg, iter, ifs, 0⟩] scope pos) (uDc ui ug ut uk uv (own.map (·.2))) := by
  obtain ⟨t, p, s⟩ := hi.ex
  exact ⟨_, pe_dcT (g := tG X.K F is ug) (tt := tT X.K F ut) (tk := tKy X.K F uk) (tv := tE X.K F uv) calm nd hu p ok (fun a b c d e => (hg a b c d e).can) (fun a b c d e => (ht a b c d e).ex) (fun a b c d e => ky_tup (hk a b c d e) few) (fun a b c d e => (hv a b c d e).can) plain, fun R h c => dcT hsub s R h c⟩
/-- d[a, ..], there -/
def uDg (i : Nat) (us : UA) : UE := fun ε A => match ε.sl[i]? with
  | some (.sh (.dcT ks ds)) => us ε fun xs ε1 => ∃ ns : List Int, xs = ns.map D.int ∧ ∃ (j : Nat) (x : D), ks[j]? = some (ns.map Sum.inl) ∧ ds[j]? = some x ∧ (∀ m, m < j → ks[m]? ≠ some (ns.map Sum.inl)) ∧ A (.d x) ε1
  | _ => False
theorem valV_at : ∀ {kvs : List (List Key × V)} {k : List Key} {j : Nat} {v : V}, (kvs.map (·.1))[j]? = some k → (kvs.map (·.2))[j]? = some v → (∀ m, m < j → (kvs.map (·.1))[m]? ≠ some k) → valV kvs k = some v
  | [], k, j, v, h, _, _ => by simp at h
  | kv :: kvs, k, 0, v, h1, h2, _ => by
    have e1 : kv.1 = k := Option.some.inj h1
    have e2 : kv.2 = v := Option.some.inj h2
    unfold valV
    rw [List.find?_cons_of_pos (by simp [e1])]
    exact congrArg some e2
  | kv :: kvs, k, j + 1, v, h1, h2, h3 => by
    have n0 : ¬ kv.1 = k := fun z => h3 0 (Nat.succ_pos _) (congrArg some z)
    unfold valV
    rw [List.find?_cons_of_neg (by simp [n0])]
    exact valV_at (kvs := kvs) h1 h2 fun m hm => h3 (m + 1) (Nat.succ_lt_succ hm)
theorem q_dg {i : Nat} {x : Str} {p2 kp : Pos} {es : List Expr} {k : Nat} {us : UA} (hu : X.A.units + 1 < cLine) (ha : QA X F es us) (few : es.length ≤ 1000 := by decide) (hN : X.N[i]? = some x := by rfl) (hv : Vis X.env.scope x := by first | exact Or.inl rfl | exact Or.inr (Or.inl rfl) | exact Or.inr (Or.inr rfl))
    (hd : (x == ("__debug__" : Str)) = false := by decide) (hcd : (x == ("__classdict__" : Str)) = false := by decide) (hs : NoSl (.Tuple es k kp) := by intro _ _; rfl) : QE X F (.Subscript (.Name x p2) (.Tuple es k kp) pos) (uDg i us) := by
  refine ⟨_, pe_dget hu (pe_var hN hv hd hcd) (ky_tup ha few) hs, fun {fa G Hs H σ ε A Q} R h c => ?_⟩
  unfold uDg at h
  split at h
  · rename_i ks ds e
    obtain ⟨v, h1, h2⟩ := R.sh i _ e
    cases h2 with
    | dcT z1 z2 z3 =>
      refine ⟨_, h1, fa, G, Hs, ε, fun ns ε1 => ∃ (j : Nat) (x : D), ks[j]? = some (ns.map Sum.inl) ∧ ds[j]? = some x ∧ (∀ m, m < j → ks[m]? ≠ some (ns.map Sum.inl)) ∧ A (.d x) ε1, R, h, ?_⟩
      · rintro ns ε1 a H1 Hs1 ⟨j, x, k1, k2, k3, a1⟩ R1 s1 q
        rename_i kvs da
        obtain ⟨u, k4, ru⟩ := z3.get k2
        have kk := k1
        rw [← z2] at kk
        have k3' := k3
        rw [← z2] at k3'
        refine ⟨_, u, rfl, ?_, c (.d x) ε1 u H1 Hs1 a1 R1 s1 (ru.same s1)⟩
        rw [← valV_at kk k4 k3']
        refine .t (R1.sub _ _ (s1 _ _ z1)) (k := ns.map Sum.inl) ?_
        rw [List.map_map]
        exact R1.sub _ _ q
  · exact h.elim
end
end Pu
namespace Pu
theorem hu_lt1 {a b : Nat} (h : a + 64 < b) : a + 1 < b := by omega
theorem hu_lt {a b : Nat} (h : a + 64 < b) : a < b := by omega
end Pu

set_option Elab.async false
set_option linter.all false
set_option maxRecDepth 100000
/-! The readings unfolded. -/
namespace Pu
open PySem PySem.Spec PyProof.Rows L2 Gd RZ
theorem r_Rg3 (u u2 u3 : UE) (ε : En) (A : List D → En → Prop) : uRg3 u u2 u3 ε A = (u ε fun p ε1 => u2 ε1 fun q ε2 => u3 ε2 fun r ε3 => match p, q, r with
  | .d (.int i), .d (.int j), .d (.int c) => (-1000000 ≤ i ∧ i ≤ 1000000 ∧ -1000000 ≤ j ∧ j ≤ 1000000 ∧ 1 ≤ c ∧ c ≤ 1000000) ∧ A ((List.range (rgN i j c)).map fun k => .int (i + (k : Nat) * c)) ε3
  | _, _, _ => False) := propext Iff.rfl
theorem r_St (ue : UE) (ul uh us : UO) (ε : En) (A : PV → En → Prop) : uSt ue ul uh us ε A = (ue ε fun p ε1 => ul ε1 fun l ε2 => uh ε2 fun h ε3 => us ε3 fun o ε4 => match seqOf p ε4, o with
  | some (false, ds), some c => (c ≠ 0 ∧ slN ds.length l h c ≤ 1000000) ∧ A (.d (.tup (pickS ds l h c))) ε4
  | _, _ => False) := propext Iff.rfl
theorem r_Dc (ui : UA) (ug : UG) (ut : UT) (uk : UA) (uv : UE) (vs : List Nat) (ε : En) (A : PV → En → Prop) : uDc ui ug ut uk uv vs ε A = (ui ε fun ds ε1 => DcX ug ut uk uv vs (fun acc ε2 => A (.d (.dcT (acc.map fun p => p.1.map Sum.inl) (acc.map (·.2)))) ε2) .mk ds ε1) := propext Iff.rfl
theorem r_Dg (i : Nat) (us : UA) (ε : En) (A : PV → En → Prop) : uDg i us ε A = (match ε.sl[i]? with
  | some (.sh (.dcT ks ds)) => us ε fun xs ε1 => ∃ ns : List Int, xs = ns.map D.int ∧ ∃ (j : Nat) (x : D), ks[j]? = some (ns.map Sum.inl) ∧ ds[j]? = some x ∧ (∀ m, m < j → ks[m]? ≠ some (ns.map Sum.inl)) ∧ A (.d x) ε1
  | _ => False) := propext Iff.rfl
end Pu

set_option Elab.async false
set_option linter.all false
set_option maxRecDepth 100000
set_option maxHeartbeats 4000000
/-! sorted(set(a list of tuples)), the whole numbers in them of any sign. -/
namespace Ts
open PySem PyProof.Rows
/-- the rank of a row of whole numbers: shifted by c, they are digits below B -/
def rk (c B : Int) (ns : List Int) : Int := TS.code B (ns.map (· + c))
def Dg (c B : Int) (ns : List Int) : Prop := ∀ x ∈ ns, 0 ≤ x + c ∧ x + c < B
theorem Dg.bd {c B : Int} {ns : List Int} (h : Dg c B ns) : TS.Bd B (ns.map (· + c)) := fun m hm => by
  obtain ⟨x, hx, rfl⟩ := List.mem_map.mp hm
  exact h x hx
theorem Dg.tail {c B x : Int} {ns : List Int} (h : Dg c B (x :: ns)) : Dg c B ns := fun y hy => h y (List.mem_cons_of_mem _ hy)
theorem rk_same {c B x : Int} {r q : List Int} (hl : r.length = q.length) : rk c B (x :: r) < rk c B (x :: q) ↔ rk c B r < rk c B q := TS.code_same (by rw [List.length_map, List.length_map, hl])
theorem rk_lt {c B x y : Int} {r q : List Int} (hl : r.length = q.length) (hr : Dg c B r) (hq : Dg c B q) (h : x < y) : rk c B (x :: r) < rk c B (y :: q) := TS.code_lt (by rw [List.length_map, List.length_map, hl]) hr.bd hq.bd (Int.add_lt_add_right h c)
section
variable {prog : Program} {w : World} {A : Around} {E : Value → Shared → Prop} {s : Shared}
theorem lex_rk {c B : Int} {b : Bool} {Q : Bool → Shared → Prop} {us vs : List Value} {ns ms : List Int} (i : Nat) (iu : IntsAre us ns) (iv : IntsAre vs ms) (hl : ns.length = ms.length) (d1 : Dg c B ns) (d2 : Dg c B ms) (h : Q (decide (rk c B ns < rk c B ms)) s) :
    PySem.W.KatLex prog w A b false Q (us.zip vs) i s := by
  induction iu generalizing vs ms i with
  | nil =>
    cases iv with
    | nil => exact PySem.W.kat_nil (by rwa [decide_eq_false (Int.lt_irrefl _)] at h)
    | cons q t iv => cases hl
  | @cons x t us ns iu ih =>
    cases iv with
    | nil => cases hl
    | @cons y t2 vs ms iv =>
      have hl2 : ns.length = ms.length := Nat.succ.inj hl
      refine PySem.W.kat_cons (wpAny_eqBool_int ?_)
      by_cases e : x = y
      · subst e
        rw [beq_self_eq_true, ]
        rw [decide_eq_decide.mpr (rk_same hl2)] at h
        exact PySem.W.kat_yes (by first | exact ih (i + 1) iv hl2 d1.tail d2.tail h | exact ih _ _ (i + 1) iv hl2 d1.tail d2.tail h)
      · rw [show (x == y) = false from beq_eq_false_iff_ne.mpr e]
        have dd : (rk c B (x :: ns) < rk c B (y :: ms)) ↔ x < y := by
          refine ⟨fun z => ?_, fun z => rk_lt hl2 d1.tail d2.tail z⟩
          rcases Int.lt_trichotomy x y with k | k | k
          · exact k
          · exact absurd k e
          · exact absurd (rk_lt hl2.symm d2.tail d1.tail k) (by omega)
        rw [decide_eq_decide.mpr dd] at h
        exact PySem.W.kat_no (TS.oneLt_ints _ h)
/-- rows of d whole numbers -/
def Rows (h : Heap) (d : Nat) (c B : Int) (vs : List Value) : Prop := ∀ v ∈ vs, ∃ ns, TS.TupInts h v ns ∧ ns.length = d ∧ Dg c B ns
theorem Rows.keep {h h' : Heap} {d : Nat} {c B : Int} {vs : List Value} (x : Rows h d c B vs) (k : ∀ b o, h.get? b = some o → o.cls = .type "tuple" → h'.get? b = some o) : Rows h' d c B vs := fun v hv =>
  (x v hv).elim fun ns z => ⟨ns, z.1.keeps k, z.2⟩
theorem heads {h : Heap} {d : Nat} {c B : Int} (d1 : 1 ≤ d) : ∀ vs : List Value, Rows h d c B vs → ∃ fs, PySem.W.KatTups h vs fs ∧ fs.length = vs.length ∧ ∀ f ∈ fs, ∃ n t, f = Value.int n t
  | [], _ => ⟨[], PySem.W.KatTups.nil, rfl, fun f hf => (List.not_mem_nil hf).elim⟩
  | v :: vs, x => by
    obtain ⟨fs, k, len, alli⟩ := heads d1 vs fun u hu => x u (List.mem_cons_of_mem _ hu)
    obtain ⟨ns, ⟨a, xs, rfl, ⟨o, at1, cl1, n, dt1⟩, iv⟩, ln, _⟩ := x v List.mem_cons_self
    have l2 := iv.length
    obtain ⟨y, ys, e⟩ : ∃ y ys, xs.toList = y :: ys := List.exists_cons_of_length_pos (by omega)
    have hy := iv.all y (by rw [e]; exact List.mem_cons_self)
    have first : xs[0]? = some y := by
      have := congrArg (fun l : List Value => l[0]?) e
      simpa using this
    exact ⟨y :: fs, PySem.W.KatTups.cons at1 cl1 dt1 first k, by rw [List.length_cons, List.length_cons, len], fun f hf => (List.mem_cons.mp hf).elim (fun z => z ▸ hy) (alli f)⟩
theorem kind_rk {d : Nat} {c B : Int} {vs : List Value} (d1 : 1 ≤ d) (two : 2 ≤ vs.length) (x : Rows s.heap d c B vs) (r : Value → Int) (hr : ∀ v ∈ vs, ∀ ns, TS.TupInts s.heap v ns → r v = rk c B ns) (Q : SortKind → Shared → Prop)
    (h : ∀ κ, TS.Cmp prog w A s κ (pairsOf vs) r → Q κ s) : wpAny (model prog w) A (keyKind' vs.toArray) Q E s := by
  obtain ⟨fs, k, len, alli⟩ := heads d1 vs x
  refine PySem.W.kat_kind (T := Value.type "int") k (by omega) (fun f hf => ?_) rfl (h _ fun p q hp hq Q1 E1 hQ => ?_)
  · obtain ⟨n, t, rfl⟩ := alli f hf
    exact PySem.W.Looks.of_pure rfl
  rw [pairsOf_toList] at hp hq
  have mp := (mem_zip_self hp).2
  have mq := (mem_zip_self hq).2
  obtain ⟨ns, tp, lp, dp⟩ := x _ mp
  obtain ⟨ms, tq, lq, dq⟩ := x _ mq
  rw [hr _ mp _ tp, hr _ mq _ tq] at hQ
  obtain ⟨a1, xs, e1, ⟨o1, at1, cl1, n1, dt1⟩, i1⟩ := tp
  obtain ⟨a2, ys, e2, ⟨o2, at2, cl2, n2, dt2⟩, i2⟩ := tq
  rw [e1, e2]
  refine PySem.W.kat_lt at1 dt1 at2 dt2 ?_
  have l1 := i1.length
  have l2 := i2.length
  rw [Array.length_toList] at l1 l2
  rw [show decide (xs.size < ys.size) = false from decide_eq_false (by omega)]
  exact lex_rk 0 i1 i2 (by omega) dp dq hQ
theorem sort_rk {a : Addr} {vs : List Value} {n d : Nat} {c B : Int} {Q : Value → Shared → Prop} (at0 : s.heap.get? a = some (seqObj "list" vs.toArray n)) (few : vs.length < 64) (d1 : 1 ≤ d) (x : Rows s.heap d c B vs)
    (h : ∀ out : Array Value, out.toList.Perm vs → out.toList.Pairwise (fun u v => rk c B (TS.intsOf s.heap u) ≤ rk c B (TS.intsOf s.heap v)) → Q .none { s with heap := sortedHeap s.heap a vs out }) :
    wpAny (model prog w) A (call (.builtin "list.sort") [.ref a]) Q E s := by
  have keep : ∀ b o, s.heap.get? b = some o → o.cls = .type "tuple" → (TS.midHeap s.heap a vs).get? b = some o := fun b o e cl => by
    refine TS.midHeap_old (fun z => ?_) e
    subst z
    rw [at0] at e
    have e' := Option.some.inj e
    rw [← e'] at cl
    have cl' : Value.type "list" = Value.type "tuple" := cl
    injection cl' with cl'
    exact absurd cl' (by decide)
  refine wpAny_call_entry slot_list_sort ⟨_, at0, rfl⟩ entry_list_sort (SK.plain_sort (r := fun v => rk c B (TS.intsOf s.heap v)) at0 few (fun two Q1 hQ => ?_) fun ps out h1 h2 h3 => ⟨_, rfl, ?_⟩) (args_list_sort _)
  · refine kind_rk (s := { s with heap := TS.midHeap s.heap a vs }) d1 two (x.keep keep) _ (fun v hv ns t => ?_) Q1 hQ
    obtain ⟨ns0, t0, _⟩ := x v hv
    show rk c B (TS.intsOf s.heap v) = rk c B ns
    rw [t0.ints, t.ints.symm.trans (t0.keeps keep).ints]
  · obtain ⟨p, o⟩ := TS.out_rank (r := fun v => rk c B (TS.intsOf s.heap v)) h1 h2 h3
    exact h out p o
end
end Ts

namespace L2
open PySem PySem.Spec PyProof.Rows
section
variable {P : Program} {w : World} {A : Around} {E : Value → Shared → Prop} {s : Shared}
theorem sorted_rk {a : Addr} {L : List (Addr × List Int)} {es : Array (Int × Value)} {ep : Nat} {t : SetTable} {Q : Value → Shared → Prop} (S : SetTR P w s.heap a L es ep t) (calm : A.handled = none) {d : Nat} {c B : Int} (d1 : 1 ≤ d) (hB : ∀ p ∈ L, p.2.length = d ∧ Ts.Dg c B p.2)
    (go : ∀ z p (out : Array Value) (e : Nat) (M : List (Addr × List Int)), (∀ b o, s.heap.get? b = some o → z.heap.get? b = some o) → z.gens = s.gens → z.os = s.os → s.heap.objs.size ≤ p → z.heap.get? p = some (seqObj "list" out e) → out.toList = M.map (fun q => Value.ref q.1) → M.Perm L →
      M.Pairwise (fun q r => Ts.rk c B q.2 ≤ Ts.rk c B r.2) → Q (.ref p) z) : wpAny (model P w) A (call (.builtin "sorted") [.ref a]) Q E s := by
  obtain ⟨o, at0, ex0, dt0⟩ := S.ob
  have few := S.few
  have sz := S.size
  refine Calls.call_function_entry kind_sorted plain_sorted entry_sorted (args_sorted1 _) ?_
  unfold Builtin.«sorted»
  refine wpAny_bind (m := checkCount "sorted" 1 1 _) (wpAny_pure (wpAny_bind ?_))
  refine collect_set (A := A.in1) calm ⟨o, at0, ex0.1, dt0⟩ S.fits (by unfold scanBound; omega) S.tab.ris S.led fun z1 vs kp sz1 g1 o1 pm => ?_
  have re : es.toList.map (·.2) = L.map fun q => Value.ref q.1 := by
    rw [S.rows, rowsOf, List.map_map]
    rfl
  rw [re] at pm
  have same : ∀ q ∈ L, ∀ r ∈ L, q.1 = r.1 → q = r := fun q hq r hr e => Prod.ext e (IsTupleKey.inj (S.tup q hq) (e ▸ S.tup r hr))
  have back : ∀ us : List Value, (∀ v ∈ us, v ∈ L.map fun q => Value.ref q.1) → ∃ M : List (Addr × List Int), us = M.map (fun q => Value.ref q.1) ∧ ∀ q ∈ M, q ∈ L := by
    intro us
    induction us with
    | nil => exact fun _ => ⟨[], rfl, fun q h => (List.not_mem_nil h).elim⟩
    | cons v us ih =>
      intro h
      obtain ⟨q, hq, e⟩ := List.mem_map.mp (h v List.mem_cons_self)
      obtain ⟨M, eM, hM⟩ := ih fun u hu => h u (List.mem_cons_of_mem _ hu)
      exact ⟨q :: M, by rw [List.map_cons, e, eM], fun r hr => (List.mem_cons.mp hr).elim (fun z => z ▸ hq) (hM r)⟩
  have ndr : (L.map fun q => Value.ref q.1).Nodup := List.pairwise_map.mpr ((nodup_of_map S.nd).imp_of_mem fun {q r} hq hr ne e => ne (same q hq r hr (Value.ref.inj e)))
  have fewv : vs.length < 64 := by rw [pm.length_eq, List.length_map]; exact few
  refine wpAny_bind (wpAny_newList ?_ (by rw [sizeLine_eq]; omega))
  have atL : (z1.heap.push (seqObj "list" vs.toArray 0)).get? z1.heap.objs.size = some (seqObj "list" vs.toArray 0) := Heap.get?_push_size _ rfl
  have tk : ∀ q ∈ L, TS.TupInts (z1.heap.push (seqObj "list" vs.toArray 0)) (.ref q.1) q.2 := fun q hq => tupInts_of (P := P) (w := w) (isT_keep (S.tup q hq) fun b u e => Heap.get?_push_of_some _ (kp b u e))
  have rows : Ts.Rows (z1.heap.push (seqObj "list" vs.toArray 0)) d c B vs := fun v hv => by
    obtain ⟨q, hq, rfl⟩ := List.mem_map.mp (pm.mem_iff.mp hv)
    exact ⟨q.2, tk q hq, hB q hq⟩
  refine wpAny_bind (wpAny_holding (Ts.sort_rk (s := { z1 with heap := z1.heap.push (seqObj "list" vs.toArray 0) }) atL fewv d1 rows fun out p1 p2 => ?_))
  obtain ⟨e, hc⟩ := sortedHeap_at (vs := vs) (out := out) atL
  obtain ⟨M, eM, hM⟩ := back out.toList fun v hv => pm.mem_iff.mp (p1.mem_iff.mp hv)
  have pr : (M.map fun q => Value.ref q.1).Perm (L.map fun q => Value.ref q.1) := eM ▸ p1.trans pm
  have pM : M.Perm L := by
    refine (List.perm_ext_iff_of_nodup (nodup_of_map (pr.nodup_iff.mpr ndr)) (nodup_of_map S.nd)).mpr fun q => ⟨hM q, fun hq => ?_⟩
    obtain ⟨r, hr, er⟩ := List.mem_map.mp (pr.mem_iff.mpr (List.mem_map.mpr ⟨q, hq, rfl⟩))
    exact same r (hM r hr) q hq (Value.ref.inj er) ▸ hr
  have pw : M.Pairwise (fun q r => Ts.rk c B q.2 ≤ Ts.rk c B r.2) := by
    rw [eM] at p2
    refine (List.pairwise_map.mp p2).imp_of_mem fun {q r} hq hr le => ?_
    rwa [(tk q (hM q hq)).ints, (tk r (hM r hr)).ints] at le
  refine wpAny_pure ⟨_, rfl, go _ z1.heap.objs.size out e M (fun b u hb => ?_) g1 o1 sz1 hc eM pM pw⟩
  have lt := Heap.lt_size (kp b u hb)
  show (sortedHeap (z1.heap.push (seqObj "list" vs.toArray 0)) z1.heap.objs.size vs out).get? b = some u
  rw [sortedHeap_old (Nat.ne_of_lt lt) (by rw [size_push']; exact Nat.lt_succ_of_lt lt)]
  exact Heap.get?_push_of_some _ (kp b u hb)
end
section
variable {X : Cx}
/-- sorted(set of tuples), the numbers of any sign -/
def rSortedR (K : PySem.W.Frag) (P : Program) (w : World) : List V → Hp → VK → Prop := fun vs H Q => ∃ (a : Addr) (L : List (Addr × List Int)) (d : Nat) (c B : Int), vs = [V.ref a] ∧ H a = some (SetTO P w a L) ∧ (∀ p ∈ L, SqT K H p.1 (p.2.map V.int)) ∧ 1 ≤ d ∧ (∀ p ∈ L, p.2.length = d ∧ Ts.Dg c B p.2) ∧
  ∀ (M : List (Addr × List Int)) (p : Addr), M.Perm L → (M.map (·.2)).Nodup → M.length < 64 → M.Pairwise (fun q r => Ts.rk c B q.2 ≤ Ts.rk c B r.2) → H p = none → Q (.ref p) (upd H p (.lst (M.map fun q => V.ref q.1)))
theorem cr_sortedR (calm : X.calm = true) : CallR X (.builtin "sorted") (rSortedR X.K X.prog X.w) := by
  intro pins s σ H vs us Q J r h
  obtain ⟨a, L, d, c, B, rfl, at0, tups, d1, hB, q⟩ := h
  obtain ⟨es, ep, t, S⟩ := (show SetT0 X.prog X.w s.heap a L from (J.hok a _ at0).1).full fun p hp => J.isT (tups p hp)
  rw [Vals.ref1 r]
  refine sorted_rk S (J.ok.hd calm) d1 hB fun z p out e M kp g o hp hg eo pm pw => ?_
  have few : M.length < 64 := by rw [pm.length_eq]; exact S.few
  have fresh : H p = none := J.hok.fresh hp
  have vals : Vals (M.map fun q => V.ref q.1) out.toList := eo ▸ vals_of_refs M
  have J2 : Inv X pins σ (upd H p (.lst (M.map fun q => V.ref q.1))) { s with heap := z.heap, gens := z.gens, drawn := z.drawn, toks := z.toks } :=
    J.call (ch := []) (Un.laid kp hp fresh) (J.hok.laid kp hp ⟨by rw [List.length_map, sizeLine_eq]; omega, out.toList, e, vals, hg⟩) (g ▸ J.bare) (fun _ y => nomatch y)
  have ez : z = { s with heap := z.heap, gens := z.gens, drawn := z.drawn, toks := z.toks } := by
    cases z
    cases s
    cases o
    rfl
  rw [ez]
  exact ⟨.ref p, _, J2, rfl, q M p pm ((pm.map (·.2)).nodup_iff.mpr S.nd) few pw fresh⟩
end
end L2

set_option Elab.async false
set_option linter.all false
set_option maxRecDepth 100000
set_option maxHeartbeats 4000000
/-! sorted(set(x)) of rows, in, index, read without the heap. -/
namespace Pu
open PySem PySem.Spec PyProof.Rows L2 Gd RZ
theorem hr65 {k : Nat} {A : Around} (r : Room k A) : A.units + 65 < cLine := by have := r.un; omega
/-! ### in -/
def uIn (neg : Bool) : U2 := fun p q ε A =>
  match p with
  | .d (.int i) => match seqOf q ε with
    | some (_, ds) => ∃ ns : List Int, ds = ns.map D.int ∧ A (.d (.bl (if neg = true then !decide (i ∈ ns) else decide (i ∈ ns)))) ε
    | none => False
  | p => match dataOf p ε, dataOf q ε with
    | some d, some (.lst ds) => (okC 20 d = true ∧ okC 20 (.lst ds) = true) ∧ A (.d (.bl (if neg = true then !ds.any fun z => eqD z d else ds.any fun z => eqD z d))) ε
    | _, _ => False
theorem any_ints (i : Int) (ns : List Int) : inV (.int i) (ns.map V.int) = decide (i ∈ ns) := by
  unfold inV
  rw [List.any_map, Bool.eq_iff_iff, List.any_eq_true, decide_eq_true_eq]
  constructor
  · rintro ⟨x, hx, e⟩
    have : x = i := by simpa [eqV] using e
    exact this ▸ hx
  · intro h
    exact ⟨i, h, by simp [eqV]⟩
theorem flat_ints (ns : List Int) : (ns.map V.int).all flatV = true := by
  rw [List.all_eq_true]
  intro v hv
  obtain ⟨x, _, rfl⟩ := List.mem_map.mp hv
  rfl
theorem any_py (ds : List D) (d : D) : (pyA ds).any (fun z => PyData.eqv z d.py) = ds.any fun z => eqD z d := by
  rw [pyA_map, List.any_map]
  rfl
section
variable {K : PySem.W.Frag} {F : Fd}
theorem op_inA {X : Cx} (hu : X.A.units + 65 < cLine) : OpR X (compareOp .In) (fun x y H Q => rIn X.K false x y H Q ∨ rInD X.K x y H Q) := OpR.or op_in_seq (op_inD hu)
theorem op_ninA {X : Cx} (hu : X.A.units + 65 < cLine) : OpR X (compareOp .NotIn) (fun x y H Q => rIn X.K true x y H Q ∨ rNotInD X.K x y H Q) := OpR.or op_notIn_seq (op_notInD hu)
theorem l_inA : LOp K F (fun x y H Q => rIn K false x y H Q ∨ rInD K x y H Q) (uIn false) := by
  refine ⟨fun {fa G Hs H σ ε v1 v2 p1 p2 A Q} R r1 r2 h c => ?_⟩
  unfold uIn at h
  split at h
  · cases r1
    rename_i i
    split at h
    · rename_i b ds e
      obtain ⟨ns, rfl, h⟩ := h
      obtain ⟨a, vs, rfl, t1, q1⟩ := seqOf_ok R r2 e
      have := t1.ints
      subst this
      refine .inl ⟨a, _, rfl, ?_, rfl, flat_ints ns, ?_⟩
      · cases b with
        | true => exact .inl (.inl q1)
        | false => exact .inr q1
      · rw [if_neg (by decide), any_ints]
        exact c.now h R (.bl _)
    · exact h.elim
  · split at h
    · rename_i d ds e1 e2
      obtain ⟨⟨o1, o2⟩, h⟩ := h
      have z := rp_dp (dataOf_ok R r2 e2) (okC_ok _ _ o2).1
      refine .inr ⟨_, pyA ds, rp_dp (dataOf_ok R r1 e1) (okC_ok _ _ o1).1, by simpa only [D.py] using z, okC_shaped o1, by have := okC_shaped o2; simpa only [D.py] using this, ?_⟩
      rw [any_py]
      exact c.now h R (.bl _)
    · exact h.elim
theorem l_ninA : LOp K F (fun x y H Q => rIn K true x y H Q ∨ rNotInD K x y H Q) (uIn true) := by
  refine ⟨fun {fa G Hs H σ ε v1 v2 p1 p2 A Q} R r1 r2 h c => ?_⟩
  unfold uIn at h
  split at h
  · cases r1
    rename_i i
    split at h
    · rename_i b ds e
      obtain ⟨ns, rfl, h⟩ := h
      obtain ⟨a, vs, rfl, t1, q1⟩ := seqOf_ok R r2 e
      have := t1.ints
      subst this
      refine .inl ⟨a, _, rfl, ?_, rfl, flat_ints ns, ?_⟩
      · cases b with
        | true => exact .inl (.inl q1)
        | false => exact .inr q1
      · rw [if_pos rfl, any_ints]
        exact c.now h R (.bl _)
    · exact h.elim
  · split at h
    · rename_i d ds e1 e2
      obtain ⟨⟨o1, o2⟩, h⟩ := h
      have z := rp_dp (dataOf_ok R r2 e2) (okC_ok _ _ o2).1
      refine .inr ⟨_, pyA ds, rp_dp (dataOf_ok R r1 e1) (okC_ok _ _ o1).1, by simpa only [D.py] using z, okC_shaped o1, by have := okC_shaped o2; simpa only [D.py] using this, ?_⟩
      rw [any_py]
      exact c.now h R (.bl _)
    · exact h.elim
end
theorem any_rows (ns : List Int) (nss : List (List Int)) : ((nss.map fun r => (D.tup (r.map D.int))).any fun z => eqD z (.tup (ns.map D.int))) = decide (ns ∈ nss) := by
  rw [List.any_map, Bool.eq_iff_iff, List.any_eq_true, decide_eq_true_eq]
  constructor
  · rintro ⟨x, hx, e⟩
    have e : eqD (.tup (x.map D.int)) (.tup (ns.map D.int)) = true := e
    rw [eqD_tups] at e
    exact of_decide_eq_true e ▸ hx
  · intro h
    refine ⟨ns, h, ?_⟩
    show eqD (.tup (ns.map D.int)) (.tup (ns.map D.int)) = true
    rw [eqD_tups, decide_eq_true rfl]
theorem okC_rows (k : Nat) (nss : List (List Int)) : okC (k + 2) (.lst (nss.map fun r => (D.tup (r.map D.int)))) = true := by
  show (nss.map fun r => (D.tup (r.map D.int))).all (okC (k + 1)) = true
  rw [List.all_eq_true]
  intro d hd
  obtain ⟨r, _, rfl⟩ := List.mem_map.mp hd
  exact okC_ints k r
/-! ### x.index(y) -/
def uIxN (i : Nat) (ub : UE) : UE := fun ε A => match ε.sl[i]? with
  | some (.sh (.lst ds)) => ub ε fun q ε2 => match dataOf q ε2 with
    | some d => (okC 20 d = true ∧ okC 20 (.lst ds) = true) ∧ ∃ j : Nat, (∃ z, ds[j]? = some z ∧ eqD z d = true) ∧ (∀ (m : Nat) (z : D), m < j → ds[m]? = some z → eqD z d = false) ∧ A (.d (.int (j : Nat))) ε2
    | none => False
  | _ => False
section
variable {X : Cx} {F : Fd} {o e : Expr} {ua ub : UE} {apos cpos : Pos}
theorem q_index {i : Nat} {x : Str} {p2 : Pos} (hu : X.A.units + 65 < cLine) (hb : QE X F e ub) (pe : ∀ {to : TE} {t : TA}, PE X (.Name x p2) to → PA X [e] t → PE X (.Call (.Attribute (.Name x p2) "index" apos) [e] [] cpos) (tBM X.K "list" (rIndexD X.K) to t))
    (hN : X.N[i]? = some x := by rfl) (hv : Vis X.env.scope x := by first | exact Or.inl rfl | exact Or.inr (Or.inl rfl) | exact Or.inr (Or.inr rfl))
    (hd : (x == ("__debug__" : Str)) = false := by decide) (hcd : (x == ("__classdict__" : Str)) = false := by decide) (hst : starEach [e] X.env = (false, eval e X.env) :: starEach [] X.env := by rfl) :
    QE X F (.Call (.Attribute (.Name x p2) "index" apos) [e] [] cpos) (uIxN i ub) := by
  obtain ⟨t, p, s⟩ := hb.ex
  refine ⟨_, pe (pe_var hN hv hd hcd) (pa_cons p pa_nil hst), fun {fa G Hs H σ ε A Q} R h c => ?_⟩
  unfold uIxN at h
  split at h
  · rename_i ds e
    obtain ⟨v, hw, rv⟩ := R.sh i _ e
    cases rv with
    | lst z tl =>
      refine ⟨_, hw, .inl ⟨rfl, _, .inl (rd_same R.sub z)⟩, s R h fun q ε1 w H1 Hs1 h1 R1 s1 r1 => ?_⟩
      split at h1
      · rename_i d e2
        obtain ⟨⟨o1, o2⟩, j, ⟨y, k1, k2⟩, k3, h1⟩ := h1
        have zz := rp_dp (Rp.same (Rp.same (.lst z tl) s1) R1.sub) (okC_ok _ _ o2).1
        refine ⟨_, w, d.py, pyA ds, j, y.py, rfl, rfl, by simpa only [D.py] using zz, rp_dp (dataOf_ok R1 r1 e2) (okC_ok _ _ o1).1, by have := okC_shaped o2; simpa only [D.py] using this, okC_shaped o1, ?_, k2, fun m z' hm hz => ?_, (c.after s1).now h1 R1 (.int _)⟩
        · rw [pyA_map, List.getElem?_map, k1]
          rfl
        · rw [pyA_map, List.getElem?_map] at hz
          cases q0 : ds[m]? with
          | none => rw [q0] at hz; cases hz
          | some x0 =>
            rw [q0] at hz
            cases hz
            exact k3 m x0 hm q0
      · exact h1.elim
  · exact h.elim
end
/-! ### sorted(set(x)) -/
theorem RpA.rows {K : PySem.W.Frag} {Hs : Hp} : ∀ {nss : List (List Int)} {vs : List V}, RpA K Hs vs (nss.map fun r => (D.tup (r.map D.int))) → ∃ ks : List (Addr × List Int), vs = ks.map (fun p => V.ref p.1) ∧ ks.map (·.2) = nss ∧ ∀ p ∈ ks, SqT K Hs p.1 (p.2.map V.int)
  | [], _, .nil => ⟨[], rfl, rfl, fun p h => (List.not_mem_nil h).elim⟩
  | r :: nss, _, .cons h t => by
    obtain ⟨ks, e1, e2, hs⟩ := RpA.rows t
    cases h with
    | @tup a us _ z ti =>
      have := ti.ints
      subst this
      refine ⟨(a, r) :: ks, by rw [List.map_cons, e1], by rw [List.map_cons, e2], fun p hp => ?_⟩
      rcases List.mem_cons.mp hp with y | y
      · rw [y]; exact z
      · exact hs p y
theorem rows_rp {K : PySem.W.Frag} {Hs : Hp} : ∀ {M : List (Addr × List Int)}, (∀ p ∈ M, SqT K Hs p.1 (p.2.map V.int)) → RpA K Hs (M.map fun q => V.ref q.1) ((M.map (·.2)).map fun r => (D.tup (r.map D.int)))
  | [], _ => .nil
  | p :: M, h => .cons (.tup (h p List.mem_cons_self) (rpa_ints _)) (rows_rp fun q hq => h q (List.mem_cons_of_mem _ hq))
/-- the rows' order -/
def srt (c B : Int) (out : List (List Int)) : Prop := out.Pairwise fun x y => Ts.rk c B x ≤ Ts.rk c B y
def uSs (ua : UE) : UA := fun ε A => ua ε fun p ε1 => match seqOf p ε1 with
  | some (true, ds) => ∃ (nss : List (List Int)) (d : Nat) (c B : Int), (ds = nss.map (fun r => (D.tup (r.map D.int))) ∧ nss.length < 64 ∧ 1 ≤ d ∧ ∀ ns ∈ nss, ns.length = d ∧ Ts.Dg c B ns) ∧
    ∀ out : List (List Int), out.Nodup → (∀ x, x ∈ out ↔ x ∈ nss) → srt c B out → A (out.map fun r => (D.tup (r.map D.int))) ε1
  | _ => False
section
variable {X : Cx} {F : Fd} {e : Expr} {ua : UE}
theorem qn_ss (hu : X.A.units + 64 < cLine) {es : Expr} (p2 : ∀ {te : TE}, PE X e te → PE X es (tCB (rSortedR X.K X.prog X.w) (tCons (tCB (rSetOfT X.K X.prog X.w) (tCons te tNil)) tNil))) (ha : QE X F e ua) : QN X F es (uSs ua) := by
  obtain ⟨t, p, s⟩ := ha.ex
  refine ⟨_, p2 p, fun R h c => s R h fun p1 ε1 v H1 Hs1 h1 R1 s1 r1 => ?_⟩
  split at h1
  · rename_i ds e1
    obtain ⟨nss, d, k, B, ⟨rfl, few, d1, hB⟩, h1⟩ := h1
    obtain ⟨a, vs, rfl, t1, q1⟩ := seqOf_ok R1 r1 e1
    obtain ⟨ks, rfl, e2, hks⟩ := t1.rows
    have lks : ks.length = nss.length := by rw [← e2, List.length_map]
    refine ⟨a, ks, rfl, .inl q1, fun p hp => R1.sub.sqT (hks p hp), by omega, fun b L hb sub all => ?_⟩
    obtain ⟨Rb, hG⟩ := R1.bare (o := SetTO X.prog X.w b L) hb
    have R2 := (RepE.unguard hG Rb).1
    have tups : ∀ p ∈ L, SqT X.K Hs1 p.1 (p.2.map V.int) := fun p hp => hks p (sub p hp)
    refine ⟨b, L, d, k, B, rfl, upd_same, fun p hp => R2.sub.sqT (tups p hp), d1, fun p hp => hB _ ?_, fun M q pm nd _ pw hq => ?_⟩
    · rw [← e2]
      exact List.mem_map.mpr ⟨p, sub p hp, rfl⟩
    · refine (c.after s1).new (h1 (M.map (·.2)) nd (fun x => ?_) (List.pairwise_map.mpr pw)) R2 hq (rows_rp fun p hp => tups p (pm.mem_iff.mp hp))
      constructor
      · intro hx
        obtain ⟨p, hp, rfl⟩ := List.mem_map.mp hx
        rw [← e2]
        exact List.mem_map.mpr ⟨p, sub p (pm.mem_iff.mp hp), rfl⟩
      · intro hx
        rw [← e2] at hx
        obtain ⟨p, hp, rfl⟩ := List.mem_map.mp hx
        exact (pm.map (·.2)).mem_iff.mpr (all p hp)
  · exact h1.elim
end
/-! ### is True -/
section
variable {K : PySem.W.Frag} {F : Fd}
def uIsB (neg : Bool) : U2 := fun p q ε A => match p, q with
  | .d (.bl a), .d (.bl b) => A (.d (.bl (if neg = true then !decide (a = b) else decide (a = b)))) ε
  | _, _ => False
theorem l_isBl : LOp K F rIsB (uIsB false) := by
  refine ⟨fun {fa G Hs H σ ε v1 v2 p1 p2 A Q} R r1 r2 h c => ?_⟩
  unfold uIsB at h
  split at h
  · cases r1
    cases r2
    exact ⟨_, _, rfl, rfl, c.now h R (.bl _)⟩
  · exact h.elim
theorem l_notBl : LOp K F rNotB (uIsB true) := by
  refine ⟨fun {fa G Hs H σ ε v1 v2 p1 p2 A Q} R r1 r2 h c => ?_⟩
  unfold uIsB at h
  split at h
  · cases r1
    cases r2
    exact ⟨_, _, rfl, rfl, c.now h R (.bl _)⟩
  · exact h.elim
end
end Pu

set_option Elab.async false
set_option linter.all false
set_option maxRecDepth 100000
/-! The readings unfolded. -/
namespace Pu
open PySem PySem.Spec PyProof.Rows L2 Gd RZ
theorem r_In (neg : Bool) (p : PV) (q : PV) (ε : En) (A : PV → En → Prop) : uIn neg p q ε A = (match p with
  | .d (.int i) => match seqOf q ε with
    | some (_, ds) => ∃ ns : List Int, ds = ns.map D.int ∧ A (.d (.bl (if neg = true then !decide (i ∈ ns) else decide (i ∈ ns)))) ε
    | none => False
  | p => match dataOf p ε, dataOf q ε with
    | some d, some (.lst ds) => (okC 20 d = true ∧ okC 20 (.lst ds) = true) ∧ A (.d (.bl (if neg = true then !ds.any fun z => eqD z d else ds.any fun z => eqD z d))) ε
    | _, _ => False) := propext Iff.rfl
theorem r_IxN (i : Nat) (ub : UE) (ε : En) (A : PV → En → Prop) : uIxN i ub ε A = (match ε.sl[i]? with
  | some (.sh (.lst ds)) => ub ε fun q ε2 => match dataOf q ε2 with
    | some d => (okC 20 d = true ∧ okC 20 (.lst ds) = true) ∧ ∃ j : Nat, (∃ z, ds[j]? = some z ∧ eqD z d = true) ∧ (∀ (m : Nat) (z : D), m < j → ds[m]? = some z → eqD z d = false) ∧ A (.d (.int (j : Nat))) ε2
    | none => False
  | _ => False) := propext Iff.rfl
theorem r_Ss (ua : UE) (ε : En) (A : List D → En → Prop) : uSs ua ε A = (ua ε fun p ε1 => match seqOf p ε1 with
  | some (true, ds) => ∃ (nss : List (List Int)) (d : Nat) (c B : Int), (ds = nss.map (fun r => (D.tup (r.map D.int))) ∧ nss.length < 64 ∧ 1 ≤ d ∧ ∀ ns ∈ nss, ns.length = d ∧ Ts.Dg c B ns) ∧
    ∀ out : List (List Int), out.Nodup → (∀ x, x ∈ out ↔ x ∈ nss) → srt c B out → A (out.map fun r => (D.tup (r.map D.int))) ε1
  | _ => False) := propext Iff.rfl
theorem r_IsB (neg : Bool) (p : PV) (q : PV) (ε : En) (A : PV → En → Prop) : uIsB neg p q ε A = (match p, q with
  | .d (.bl a), .d (.bl b) => A (.d (.bl (if neg = true then !decide (a = b) else decide (a = b)))) ε
  | _, _ => False) := propext Iff.rfl
end Pu

set_option Elab.async false
set_option linter.all false
/-! Products of voices: rows, parts, mirrors, echoes. -/
namespace Pm
open Pv
/-- all below two to the b -/
def Bd (b : Nat) (xs : List Int) : Prop := ∀ x ∈ xs, x.natAbs < 2 ^ b
theorem Bd.mono {a b : Nat} {xs : List Int} (h : Bd a xs) (hab : a ≤ b) : Bd b xs := fun x hx => Nat.lt_of_lt_of_le (h x hx) (Nat.pow_le_pow_right (by decide) hab)
theorem bd_per {b : Nat} {xs : List Int} (h : Bd b xs) (i : Int) : (per xs i).natAbs < 2 ^ b := by
  have hp := Nat.two_pow_pos b
  have := per_abs (B := 2 ^ b - 1) (fun x hx => by have := h x hx; omega) i
  omega
theorem bd_of {n b : Nat} {F : Int → Int} (h : ∀ i, (F i).natAbs < 2 ^ b) : Bd b (of n F) := fun x hx => by
  unfold of at hx
  obtain ⟨j, _, rfl⟩ := List.mem_map.mp hx
  exact h j
theorem bd_conv {n a b : Nat} {F G : Int → Int} (hn : n ≤ 32) (h : ∀ i, (F i).natAbs < 2 ^ a) (g : ∀ i, (G i).natAbs < 2 ^ b) (i : Int) : (conv n F G i).natAbs < 2 ^ (a + b + 5) := by
  have h1 := Nat.two_pow_pos a
  have h2 := Nat.two_pow_pos b
  have e := conv_abs (n := n) (F := F) (G := G) (B := 2 ^ a - 1) (C := 2 ^ b - 1) (fun i => by have := h i; omega) (fun i => by have := g i; omega) i
  have m1 : (2 ^ a - 1) * (2 ^ b - 1) < 2 ^ a * 2 ^ b := Nat.mul_lt_mul_of_lt_of_le (by omega) (by omega) h2
  have m2 : n * ((2 ^ a - 1) * (2 ^ b - 1)) ≤ 32 * ((2 ^ a - 1) * (2 ^ b - 1)) := Nat.mul_le_mul_right _ hn
  rw [Nat.pow_add, Nat.pow_add]
  omega
/-- the weights while the row j is added, k beats in -/
def part (n : Nat) (W F G : Int → Int) (j k : Nat) : Int → Int := fun b => W b + if (b - j) % n < (k : Int) then F j * G (b - j) else 0
theorem part_zero {n : Nat} (hn : 0 < n) (W F G : Int → Int) (j : Nat) : of n (part n W F G j 0) = of n W := of_congr fun b _ => by
  unfold part
  have := Int.emod_nonneg ((b : Int) - j) (show (n : Int) ≠ 0 by omega)
  rw [if_neg (by omega), Int.add_zero]
theorem part_all {n : Nat} (hn : 0 < n) (W F G : Int → Int) (j : Nat) : of n (part n W F G j n) = of n (fun b => W b + F j * G (b - j)) := of_congr fun b _ => by
  unfold part
  have := Int.emod_lt_of_pos ((b : Int) - j) (show (0 : Int) < n by omega)
  rw [if_pos this]
theorem part_step {n : Nat} {W F G : Int → Int} {j k : Nat} (g : Per n G) (hj : j < n) (hk : k < n) :
    (of n (part n W F G j k)).set ((j + k) % n) (part n W F G j k (((j + k) % n : Nat) : Int) + F j * G k) = of n (part n W F G j (k + 1)) := by
  have hn : 0 < n := by omega
  have hb : (j + k) % n < n := Nat.mod_lt _ hn
  refine List.ext_getElem (by rw [List.length_set, of_len, of_len]) fun b h1 h2 => ?_
  rw [of_len] at h2
  have e2 := of_get (F := part n W F G j (k + 1)) h2
  rw [List.getElem?_eq_getElem (by rw [of_len]; exact h2)] at e2
  rw [Option.some.inj e2, List.getElem_set]
  have ib := beat_iff hj hk h2
  by_cases e : (j + k) % n = b
  · rw [if_pos e, e]
    have em : ((b : Int) - j) % n = k := ib.mpr e.symm
    have eg : G ((b : Int) - j) = G k := by rw [← g.mod hn ((b : Int) - j), em]
    unfold part
    rw [em, if_neg (by omega), if_pos (by omega), eg, Int.add_zero]
  · rw [if_neg e]
    have e1 := of_get (F := part n W F G j k) h2
    rw [List.getElem?_eq_getElem (by rw [of_len]; exact h2)] at e1
    rw [Option.some.inj e1]
    have nm : ¬ ((b : Int) - j) % n = k := fun z => e (ib.mp z).symm
    unfold part
    by_cases c : ((b : Int) - j) % n < (k : Int)
    · rw [if_pos c, if_pos (by omega)]
    · rw [if_neg c, if_neg (by omega)]
/-- what the first j rows make -/
def rows (F G : Int → Int) (j : Nat) : Int → Int := fun b => S j fun i => F i * G (b - i)
theorem rows_succ (F G : Int → Int) (j : Nat) (b : Int) : rows F G j b + F j * G (b - j) = rows F G (j + 1) b := rfl
theorem rows_all (n : Nat) (F G : Int → Int) : rows F G n = conv n F G := rfl
theorem zeros (n : Nat) (F G : Int → Int) : List.replicate n (0 : Int) = of n (rows F G 0) := by
  refine List.ext_getElem (by rw [List.length_replicate, of_len]) fun i h1 h2 => ?_
  rw [of_len] at h2
  have z := of_get (F := rows F G 0) h2
  rw [List.getElem?_eq_getElem (by rw [of_len]; exact h2)] at z
  rw [Option.some.inj z, List.getElem_replicate]
  rfl
theorem step_at {n j k : Nat} (hn : 0 < n) : ((j : Int) + (k : Int)) % (n : Int) = (((j + k) % n : Nat) : Int) := by
  rw [Int.natCast_emod, Int.natCast_add]
/-- the product, the mirror, the echo, the cross echo -/
def mulV (xs ys : List Int) : List Int := of xs.length (conv xs.length (per xs) (per ys))
def mir (xs : List Int) : List Int := of xs.length fun i => per xs (-i)
def turnV (xs : List Int) (k : Int) : List Int := of xs.length fun i => per xs (i - k)
def crossV (xs ys : List Int) : List Int := mulV xs (mir ys)
theorem mul_len (xs ys : List Int) : (mulV xs ys).length = xs.length := of_len _ _
theorem mir_len (xs : List Int) : (mir xs).length = xs.length := of_len _ _
theorem turn_len (xs : List Int) (k : Int) : (turnV xs k).length = xs.length := of_len _ _
theorem cross_len (xs ys : List Int) : (crossV xs ys).length = xs.length := of_len _ _
theorem per_mir {xs : List Int} (h : 0 < xs.length) (i : Int) : per (mir xs) i = per xs (-i) := per_of (per_per xs).neg h i
theorem per_mul {xs ys : List Int} (h : 0 < xs.length) (hl : ys.length = xs.length) (i : Int) : per (mulV xs ys) i = conv xs.length (per xs) (per ys) i := per_of (per_conv (hl ▸ per_per ys)) h i
theorem per_turn {xs : List Int} (h : 0 < xs.length) (k i : Int) : per (turnV xs k) i = per xs (i - k) := per_of ((per_per xs).shift (-k)) h i
theorem per_cross {xs ys : List Int} (h : 0 < xs.length) (hl : ys.length = xs.length) (i : Int) : per (crossV xs ys) i = conv xs.length (per xs) (fun i => per ys (-i)) i := by
  unfold crossV
  rw [per_mul h (by rw [mir_len, hl])]
  exact conv_congr (fun _ => rfl) (fun i => per_mir (by omega) i) i
theorem bd_mul {a b : Nat} {xs ys : List Int} (hn : xs.length ≤ 32) (h : Bd a xs) (g : Bd b ys) : Bd (a + b + 5) (mulV xs ys) := bd_of fun i => bd_conv hn (bd_per h) (bd_per g) i
theorem bd_mir {a : Nat} {xs : List Int} (h : Bd a xs) : Bd a (mir xs) := bd_of fun i => bd_per h _
theorem bd_turn {a : Nat} {xs : List Int} (k : Int) (h : Bd a xs) : Bd a (turnV xs k) := bd_of fun i => bd_per h _
theorem bd_cross {a b : Nat} {xs ys : List Int} (hn : xs.length ≤ 32) (h : Bd a xs) (g : Bd b ys) : Bd (a + b + 5) (crossV xs ys) := bd_mul hn h (bd_mir g)
/-- the cross echo by sums -/
theorem cross_sum {xs ys : List Int} (h : 0 < xs.length) (hl : ys.length = xs.length) : crossV xs ys = of xs.length fun k => S xs.length fun j => per xs (j + k) * per ys j := by
  refine of_congr fun k _ => ?_
  have pY := hl ▸ per_per ys
  have e1 : conv xs.length (per xs) (per (mir ys)) k = S xs.length fun j => per xs j * per ys (j - k) := S_congr fun j _ => by
    rw [per_mir (by omega)]
    congr 2
    omega
  rw [e1]
  have p : Per xs.length fun j => per xs j * per ys (j - k) := (per_per xs).mul (pY.shift (-k))
  rw [← S_shift p k]
  exact S_congr fun j _ => by
    show per xs (j + k) * per ys (j + k - k) = _
    congr 2
    omega
theorem eq_of_per {xs ys : List Int} (hl : xs.length = ys.length) (h : ∀ j : Nat, j < xs.length → per xs j = per ys j) : xs = ys := by
  rw [← of_per ys]
  exact of_eq hl fun j hj => h j (by omega)
theorem cross_mir {xs ys : List Int} (h : 0 < xs.length) (hl : ys.length = xs.length) : crossV ys xs = mir (crossV xs ys) := by
  refine eq_of_per (by rw [cross_len, mir_len, cross_len, hl]) fun j _ => ?_
  have pX := per_per xs
  have pY := hl ▸ per_per ys
  rw [per_mir (by rw [cross_len]; exact h), per_cross h hl, per_cross (by omega) hl.symm, hl, conv_comm pY pX.neg, ← conv_mirror pX pY.neg]
  exact conv_congr (fun _ => rfl) (fun i => by show _ = per ys (- -i); rw [Int.neg_neg]) _
theorem echo_mir {xs : List Int} (h : 0 < xs.length) : mir (crossV xs xs) = crossV xs xs := (cross_mir h rfl).symm
theorem sum_of (n : Nat) (F : Int → Int) : (of n F).sum = S n F := by
  induction n with
  | zero => rfl
  | succ n ih =>
    have : of (n + 1) F = of n F ++ [F n] := by
      unfold of
      rw [List.range_succ, List.map_append]
      rfl
    rw [this, List.sum_append, ih]
    show S n F + (F n + 0) = S n F + F n
    rw [Int.add_zero]
theorem sum_per (xs : List Int) : xs.sum = S xs.length (per xs) := by
  rw [← sum_of, of_per]
theorem echo_total {xs ys : List Int} (h : 0 < xs.length) (hl : ys.length = xs.length) : (crossV xs ys).sum = xs.sum * ys.sum := by
  have pY := hl ▸ per_per ys
  rw [sum_per, cross_len, S_congr (G := conv xs.length (per xs) (fun i => per ys (-i))) (fun j _ => per_cross h hl j), conv_total pY.neg, sum_per xs, sum_per ys, S_neg pY, hl]
theorem echo_zero {xs : List Int} (h : 0 < xs.length) : per (crossV xs xs) 0 = (xs.map fun w => w * w).sum := by
  rw [per_cross h rfl]
  have e : xs.map (fun w => w * w) = of xs.length fun i => per xs i * per xs i := by
    refine List.ext_getElem (by rw [List.length_map, of_len]) fun i h1 h2 => ?_
    rw [of_len] at h2
    have z := of_get (F := fun i => per xs i * per xs i) h2
    rw [List.getElem?_eq_getElem (by rw [of_len]; exact h2)] at z
    rw [Option.some.inj z, List.getElem_map, per_get h2]
  rw [e, sum_of]
  exact S_congr fun j _ => by
    show per xs j * per xs (-(0 - j)) = _
    congr 2
    omega
end Pm

set_option Elab.async false
set_option linter.all false
/-! Echoes: of the others, of products, counted by pairs. -/
namespace Pm
open Pv
def lateV (xs : List Int) : List Int := xs.map fun w => 1 - w
theorem late_len (xs : List Int) : (lateV xs).length = xs.length := List.length_map _
theorem per_late {xs : List Int} (h : 0 < xs.length) (i : Int) : per (lateV xs) i = 1 - per xs i := by
  have b0 := Int.emod_nonneg i (show (xs.length : Int) ≠ 0 by omega)
  have b1 := Int.emod_lt_of_pos i (show (0 : Int) < (xs.length : Int) by omega)
  obtain ⟨j, hj⟩ : ∃ j : Nat, i % (xs.length : Int) = j := ⟨(i % (xs.length : Int)).toNat, by omega⟩
  have e1 : per (lateV xs) i = per (lateV xs) j := by
    rw [← (per_per (lateV xs)).mod (by rw [late_len]; exact h) i, late_len, hj]
  have e2 : per xs i = per xs j := by
    rw [← (per_per xs).mod h i, hj]
  rw [e1, e2, per_get (by rw [late_len]; omega), per_get (by omega)]
  exact List.getElem_map _
theorem S_sub (n : Nat) (F G : Int → Int) : S n (fun j => F j - G j) = S n F - S n G := by
  have e : S n (fun j => F j + (-1) * G j) = S n F + (-1) * S n G := by rw [S_add, S_mulL]
  rw [S_congr (G := fun j => F j + (-1) * G j) fun j _ => by omega, e]
  omega
theorem S_const (n : Nat) (c : Int) : S n (fun _ => c) = n * c := by
  induction n with
  | zero => show (0 : Int) = _; simp
  | succ n ih =>
    show S n (fun _ => c) + c = _
    rw [ih, Int.natCast_succ, Int.add_mul, Int.one_mul]
/-- the echo of the others -/
theorem per_cross_late {xs : List Int} (h : 0 < xs.length) (i : Int) : per (crossV (lateV xs) (lateV xs)) i = per (crossV xs xs) i + xs.length - 2 * xs.sum := by
  rw [per_cross (by rw [late_len]; exact h) rfl, per_cross h rfl, late_len]
  have e1 : conv xs.length (per (lateV xs)) (fun i => per (lateV xs) (-i)) i = S xs.length fun j => 1 - per xs j - per xs (-(i - j)) + per xs j * per xs (-(i - j)) := S_congr fun j _ => by
    show per (lateV xs) j * per (lateV xs) (-(i - j)) = _
    rw [per_late h, per_late h, Int.mul_sub, Int.sub_mul, Int.sub_mul]
    omega
  have e2 : S xs.length (fun j => per xs (-(i - j))) = xs.sum := by
    rw [sum_per, ← S_shift (per_per xs) (-i)]
    exact S_congr fun j _ => by congr 1; omega
  rw [e1, S_add, S_sub, S_sub, S_const, e2, ← sum_per, Int.mul_one]
  have e3 : S xs.length (fun j => per xs j * per xs (-(i - j))) = conv xs.length (per xs) (fun i => per xs (-i)) i := rfl
  rw [e3]
  omega
theorem cross_late {xs : List Int} (h : 0 < xs.length) : crossV (lateV xs) (lateV xs) = (crossV xs xs).map fun w => w + xs.length - 2 * xs.sum := by
  refine eq_of_per (by rw [cross_len, late_len, List.length_map, cross_len]) fun j hj => ?_
  rw [cross_len, late_len] at hj
  rw [per_cross_late h, per_get (xs := List.map _ _) (by rw [List.length_map, cross_len]; exact hj), List.getElem_map, ← per_get]
theorem same_late {xs : List Int} (h : 0 < xs.length) : (crossV xs xs = crossV (lateV xs) (lateV xs)) ↔ (xs.length : Int) = 2 * xs.sum := by
  constructor
  · intro e
    have := per_cross_late h 0
    rw [← e] at this
    omega
  · intro e
    refine eq_of_per (by rw [cross_len, cross_len, late_len]) fun j hj => ?_
    rw [per_cross_late h]
    omega
/-- the echo of a product -/
theorem conv_congrP {n : Nat} {F F' G G' : Int → Int} (h : ∀ i, F i = F' i) (g : ∀ i, G i = G' i) : conv n F G = conv n F' G' := by
  rw [funext h, funext g]
theorem echo_mul {xs ys : List Int} (h : 0 < xs.length) (hl : ys.length = xs.length) : crossV (mulV xs ys) (mulV xs ys) = mulV (crossV xs xs) (crossV ys ys) := by
  have pX := per_per xs
  have pY := hl ▸ per_per ys
  refine eq_of_per (by rw [cross_len, mul_len, mul_len, cross_len]) fun j _ => ?_
  rw [per_cross (by rw [mul_len]; exact h) rfl, per_mul (by rw [cross_len]; exact h) (by rw [cross_len, cross_len, hl]), mul_len, cross_len]
  have e1 : per (mulV xs ys) = conv xs.length (per xs) (per ys) := funext fun i => per_mul h hl i
  have e2 : (fun i => per (mulV xs ys) (-i)) = conv xs.length (fun i => per xs (-i)) (fun i => per ys (-i)) := funext fun i => by
    rw [per_mul h hl, conv_mirror pX pY]
  have e3 : per (crossV xs xs) = conv xs.length (per xs) (fun i => per xs (-i)) := funext fun i => per_cross h rfl i
  have e4 : per (crossV ys ys) = conv xs.length (per ys) (fun i => per ys (-i)) := funext fun i => by rw [per_cross (by omega) rfl, hl]
  rw [e2, e1, e3, e4]
  have nX := pX.neg
  have nY := pY.neg
  have pXX := per_conv (F := per xs) nX
  -- (x y) (x' y') = (x x') (y y')
  rw [conv_assoc pY (per_conv nY), conv_assoc nX (per_conv nY)]
  refine conv_congr (fun _ => rfl) (fun i => ?_) _
  rw [← conv_assoc nX nY, conv_congr (fun i => conv_comm pY nX i) (fun _ => rfl), conv_assoc pY nY]
theorem mir_mir {xs : List Int} (h : 0 < xs.length) : mir (mir xs) = xs := by
  refine eq_of_per (by rw [mir_len, mir_len]) fun j _ => ?_
  rw [per_mir (by rw [mir_len]; exact h), per_mir h, Int.neg_neg]
theorem cross_mirs {xs : List Int} (h : 0 < xs.length) : crossV (mir xs) (mir xs) = crossV xs xs := by
  refine eq_of_per (by rw [cross_len, cross_len, mir_len]) fun j _ => ?_
  rw [per_cross (by rw [mir_len]; exact h) rfl, per_cross h rfl, mir_len, conv_congr (fun i => per_mir h i) (fun i => by rw [per_mir h, Int.neg_neg]), conv_comm (per_per xs).neg (per_per xs)]
theorem echo_crossed {xs ys : List Int} (h : 0 < xs.length) (hl : ys.length = xs.length) : crossV (crossV xs ys) (crossV xs ys) = mulV (crossV xs xs) (crossV ys ys) := by
  unfold crossV
  rw [show mulV (mulV xs (mir ys)) (mir (mulV xs (mir ys))) = crossV (mulV xs (mir ys)) (mulV xs (mir ys)) from rfl, echo_mul h (by rw [mir_len, hl]), cross_mirs (by omega)]
  rfl
theorem bd_sum {b : Nat} {xs : List Int} (hn : xs.length ≤ 32) (h : Bd b xs) : xs.sum.natAbs < 2 ^ (b + 5) := by
  have h1 := Nat.two_pow_pos b
  have e := S_abs (n := xs.length) (F := per xs) (B := 2 ^ b - 1) fun j _ => by have := bd_per h j; omega
  rw [← sum_per] at e
  have m2 : xs.length * (2 ^ b - 1) ≤ 32 * (2 ^ b - 1) := Nat.mul_le_mul_right _ hn
  rw [Nat.pow_add]
  omega
end Pm

set_option Elab.async false
set_option linter.all false
/-! Pairs of strokes by their distance. -/
namespace Pm
open Pv
def atL (l : List Int) (i : Int) : Int := l.getD i.toNat 0
theorem atL_get {l : List Int} {i : Nat} (h : i < l.length) : atL l i = l[i] := by
  unfold atL
  rw [Int.toNat_natCast, List.getD_eq_getElem?_getD, List.getElem?_eq_getElem h]
  rfl
theorem atL_left {l m : List Int} {i : Nat} (h : i < l.length) : atL (l ++ m) i = atL l i := by
  rw [atL_get h, atL_get (by rw [List.length_append]; omega), List.getElem_append_left h]
theorem atL_last (l : List Int) (x : Int) : atL (l ++ [x]) l.length = x := by
  rw [atL_get (by simp)]
  simp
/-- the sum over all pairs, the later first -/
def pairs (g : Int → Int → Int) (l : List Int) : Int := S l.length fun i => S i.toNat fun j => g (atL l i) (atL l j)
theorem pairs_snoc (g : Int → Int → Int) (l : List Int) (x : Int) : pairs g (l ++ [x]) = pairs g l + S l.length fun j => g x (atL l j) := by
  unfold pairs
  rw [List.length_append, List.length_singleton]
  show S l.length _ + _ = _
  dsimp only
  rw [Int.toNat_natCast, atL_last]
  congr 1
  · exact S_congr fun i hi => by
      rw [Int.toNat_natCast]
      exact S_congr fun j hj => by rw [atL_left hi, atL_left (by omega)]
  · exact S_congr fun j hj => by rw [atL_left hj]
/-- where the strokes are -/
def spots (v : Int → Int) (n : Nat) : List Int := ((List.range n).filter fun (k : Nat) => decide (v k = 1)).map fun (k : Nat) => (k : Int)
theorem spots_succ (v : Int → Int) (n : Nat) : spots v (n + 1) = if v n = 1 then spots v n ++ [(n : Int)] else spots v n := by
  unfold spots
  rw [List.range_succ, List.filter_append, List.map_append]
  by_cases h : v n = 1
  · simp [h]
  · simp [h]
theorem spots_sum (v f : Int → Int) (n : Nat) : (S (spots v n).length fun j => f (atL (spots v n) j)) = S n fun a => if v a = 1 then f a else 0 := by
  induction n with
  | zero => rfl
  | succ n ih =>
    show _ = (S n fun a => if v a = 1 then f a else 0) + (if v n = 1 then f n else 0)
    rw [spots_succ]
    by_cases h : v n = 1
    · rw [if_pos h, if_pos h, ← ih, List.length_append, List.length_singleton]
      show S _ _ + _ = _
      dsimp only
      rw [atL_last]
      congr 1
      exact S_congr fun j hj => by rw [atL_left hj]
    · rw [if_neg h, if_neg h, ← ih, Int.add_zero]
theorem spots_pairs (v : Int → Int) (g : Int → Int → Int) (n : Nat) : pairs g (spots v n) = S n fun a => if v a = 1 then S a.toNat fun c => if v c = 1 then g a c else 0 else 0 := by
  induction n with
  | zero => rfl
  | succ n ih =>
    show _ = (S n fun a => if v a = 1 then S a.toNat fun c => if v c = 1 then g a c else 0 else 0) + (if v n = 1 then S (n : Int).toNat fun c => if v c = 1 then g n c else 0 else 0)
    rw [spots_succ]
    by_cases h : v n = 1
    · rw [if_pos h, if_pos h, pairs_snoc, ih, spots_sum v (g n), Int.toNat_natCast]
    · rw [if_neg h, if_neg h, ih, Int.add_zero]
theorem S_low {n k : Nat} (h : k ≤ n) (f : Int → Int) : (S n fun j => if j < (k : Int) then f j else 0) = S k f := by
  induction n with
  | zero =>
    obtain rfl : k = 0 := by omega
    rfl
  | succ n ih =>
    show (S n fun j => if j < (k : Int) then f j else 0) + (if (n : Int) < k then f n else 0) = _
    by_cases e : k = n + 1
    · subst e
      rw [if_pos (by omega)]
      show _ = S n f + f n
      congr 1
      exact S_congr fun j hj => if_pos (by omega)
    · rw [if_neg (by omega), ih (by omega), Int.add_zero]
theorem S_high {n d : Nat} (h : d ≤ n) (f : Int → Int) : (S n fun a => if (d : Int) ≤ a then f a else 0) = S (n - d) fun j => f (j + d) := by
  induction n with
  | zero =>
    obtain rfl : d = 0 := by omega
    rfl
  | succ n ih =>
    show (S n fun a => if (d : Int) ≤ a then f a else 0) + (if (d : Int) ≤ n then f n else 0) = _
    by_cases e : d = n + 1
    · subst e
      rw [if_neg (by omega), Nat.sub_self, Int.add_zero, S_congr (G := fun _ => 0) fun j hj => if_neg (by omega), S_zero]
      rfl
    · rw [if_pos (by omega), ih (by omega), show n + 1 - d = (n - d) + 1 by omega]
      show _ = S (n - d) _ + f (((n - d : Nat) : Int) + d)
      congr 2
      omega
theorem S_pick {a : Nat} {d : Int} (hd : 0 < d) (f : Int → Int) : (S a fun c => if c = a - d then f c else 0) = if d ≤ a then f (a - d) else 0 := by
  by_cases h : d ≤ (a : Int)
  · rw [if_pos h]
    obtain ⟨s, hs⟩ : ∃ s : Nat, (a : Int) - d = s := ⟨((a : Int) - d).toNat, by omega⟩
    rw [hs, ← S_one (n := a) (s := s) f (by omega)]
    exact S_congr fun j _ => by
      by_cases e : (j : Int) = s
      · rw [if_pos e, if_pos e, Int.one_mul]
      · rw [if_neg e, if_neg e, Int.zero_mul]
  · rw [if_neg h, S_congr (G := fun _ => 0) fun j _ => if_neg (by omega), S_zero]
/-- apart by k, around the clock -/
def apart (n : Nat) (k : Int) (a c : Int) : Int := if min (a - c) (n - (a - c)) = k then 1 else 0
/-- pairs whose later is d beats behind the earlier -/
def far (v : Int → Int) (n : Nat) (d : Int) : Int := S n fun a => v a * if d ≤ a then v (a - d) else 0
theorem pairs_far {v : Int → Int} {n k : Nat} (hv : ∀ i, v i = 0 ∨ v i = 1) (h0 : 0 < k) (h1 : 2 * k ≤ n) :
    pairs (apart n k) (spots v n) = far v n k + if 2 * k = n then 0 else far v n (n - k) := by
  have one : ∀ i x, (if v i = 1 then x else 0) = v i * x := fun i x => by
    rcases hv i with e | e
    · rw [e, if_neg (by decide), Int.zero_mul]
    · rw [e, if_pos rfl, Int.one_mul]
  rw [spots_pairs]
  by_cases e : 2 * k = n
  · rw [if_pos e, Int.add_zero]
    unfold far
    refine S_congr fun a ha => ?_
    rw [one, Int.toNat_natCast]
    congr 1
    rw [← S_pick (a := a) (d := k) (by omega) v]
    refine S_congr fun c hc => ?_
    rw [one]
    unfold apart
    by_cases z : (c : Int) = a - k
    · rw [if_pos z, if_pos (by omega), Int.mul_one]
    · rw [if_neg z, if_neg (by omega), Int.mul_zero]
  · rw [if_neg e]
    unfold far
    rw [← S_add]
    refine S_congr fun a ha => ?_
    rw [one, Int.toNat_natCast, ← Int.mul_add]
    congr 1
    rw [← S_pick (a := a) (d := k) (by omega) v, ← S_pick (a := a) (d := n - k) (by omega) v, ← S_add]
    refine S_congr fun c hc => ?_
    rw [one]
    unfold apart
    by_cases z : (c : Int) = a - k
    · rw [if_pos z, if_pos (by omega), if_neg (by omega), Int.mul_one, Int.add_zero]
    · rw [if_neg z]
      by_cases y : (c : Int) = a - (n - k)
      · rw [if_pos y, if_pos (by omega), Int.mul_one, Int.zero_add]
      · rw [if_neg y, if_neg (by omega), Int.mul_zero, Int.add_zero]
theorem echo_far {xs : List Int} {k : Nat} (h0 : 0 < k) (h1 : k < xs.length) : per (crossV xs xs) k = far (per xs) xs.length k + far (per xs) xs.length (xs.length - k) := by
  have h : 0 < xs.length := by omega
  have pX := per_per xs
  rw [per_cross h rfl]
  unfold far
  have e1 : (S xs.length fun a => per xs a * if ((xs.length : Int) - k) ≤ a then per xs (a - (xs.length - k)) else 0) = S xs.length fun j => if j < (k : Int) then per xs (j + (xs.length - k)) * per xs j else 0 := by
    rw [S_low (by omega) fun j => per xs (j + (xs.length - k)) * per xs j]
    have z := S_high (n := xs.length) (d := xs.length - k) (by omega) fun a => per xs a * per xs (a - (xs.length - k))
    rw [show xs.length - (xs.length - k) = k by omega] at z
    rw [S_congr (n := k) (G := fun j => per xs (j + (xs.length - k : Nat)) * per xs (j + (xs.length - k : Nat) - (xs.length - k))) fun j _ => by
      rw [show ((xs.length - k : Nat) : Int) = (xs.length : Int) - k by omega]
      congr 2
      omega, ← z]
    refine S_congr fun a _ => ?_
    rw [show ((xs.length - k : Nat) : Int) = (xs.length : Int) - k by omega]
    by_cases y : (xs.length : Int) - k ≤ a
    · rw [if_pos y, if_pos y]
    · rw [if_neg y, if_neg y, Int.mul_zero]
  rw [e1, ← S_add]
  refine S_congr fun j _ => ?_
  show per xs j * per xs (-(k - j)) = _
  rw [show -((k : Int) - j) = j - k by omega]
  by_cases z : (k : Int) ≤ j
  · rw [if_pos z, if_neg (by omega), Int.add_zero]
  · rw [if_neg z, if_pos (by omega), Int.mul_zero, Int.zero_add, Int.mul_comm]
    congr 1
    rw [← pX ((j : Int) - k)]
    congr 1
    omega
/-- the intervals of a voice of strokes, by the echo and by pairs -/
theorem pairs_echo {xs : List Int} {k : Nat} (hv : ∀ x ∈ xs, 0 ≤ x ∧ x ≤ 1) (h0 : 0 < k) (h1 : 2 * k ≤ xs.length) :
    pairs (apart xs.length k) (spots (per xs) xs.length) = if 2 * k = xs.length then per (crossV xs xs) k / 2 else per (crossV xs xs) k := by
  have hp : ∀ i, per xs i = 0 ∨ per xs i = 1 := fun i => by
    have b0 := Int.emod_nonneg i (show (xs.length : Int) ≠ 0 by omega)
    have b1 := Int.emod_lt_of_pos i (show (0 : Int) < (xs.length : Int) by omega)
    unfold per
    rw [List.getD_eq_getElem?_getD, List.getElem?_eq_getElem (by omega), Option.getD_some]
    have := hv _ (List.getElem_mem (l := xs) (n := (i % (xs.length : Int)).toNat) (by omega))
    omega
  rw [pairs_far hp h0 h1, echo_far h0 (by omega)]
  by_cases e : 2 * k = xs.length
  · rw [if_pos e, if_pos e, show ((xs.length : Int) - k) = k by omega]
    omega
  · rw [if_neg e, if_neg e]
theorem spots_lt (v : Int → Int) (n : Nat) : ∀ i : Nat, i < (spots v n).length → 0 ≤ atL (spots v n) i ∧ atL (spots v n) i < n := by
  intro i hi
  rw [atL_get hi]
  have := List.getElem_mem hi
  unfold spots at this
  obtain ⟨k, hk, e⟩ := List.mem_map.mp this
  have := List.mem_range.mp (List.mem_filter.mp hk).1
  have e : (k : Int) = (spots v n)[i] := e
  omega
theorem spots_mono (v : Int → Int) : ∀ (n i j : Nat), j < i → i < (spots v n).length → atL (spots v n) j < atL (spots v n) i
  | 0, i, j, _, h => by simp [spots] at h
  | n + 1, i, j, hj, h => by
    rw [spots_succ] at h ⊢
    by_cases e : v n = 1
    · rw [if_pos e] at h ⊢
      rw [List.length_append, List.length_singleton] at h
      by_cases z : i = (spots v n).length
      · subst z
        rw [atL_last, atL_left hj]
        exact (spots_lt v n j hj).2
      · rw [atL_left (by omega), atL_left (by omega)]
        exact spots_mono v n i j hj (by omega)
    · rw [if_neg e] at h ⊢
      exact spots_mono v n i j hj h
theorem of_add {m s : Nat} {F : Int → Int} {x : Int} (hs : s < m) : (of m F).set s (F s + x) = of m fun b => F b + if b = s then x else 0 := by
  refine List.ext_getElem (by rw [List.length_set, of_len, of_len]) fun b h1 h2 => ?_
  rw [of_len] at h2
  have e2 := of_get (F := fun b => F b + if b = (s : Int) then x else 0) h2
  rw [List.getElem?_eq_getElem (by rw [of_len]; exact h2)] at e2
  rw [Option.some.inj e2, List.getElem_set]
  have e1 := of_get (F := F) h2
  rw [List.getElem?_eq_getElem (by rw [of_len]; exact h2)] at e1
  by_cases e : s = b
  · rw [if_pos e, e, if_pos rfl]
  · rw [if_neg e, if_neg (by omega), Option.some.inj e1, Int.add_zero]
/-- pairs so far -/
def cnt (n : Nat) (l : List Int) (i j : Nat) : Int → Int := fun b => (S i fun i' => S i'.toNat fun j => apart n (b + 1) (atL l i') (atL l j)) + S j fun j' => apart n (b + 1) (atL l i) (atL l j')
theorem cnt_zero (m n : Nat) (l : List Int) : List.replicate m (0 : Int) = of m (cnt n l 0 0) := by
  refine List.ext_getElem (by rw [List.length_replicate, of_len]) fun i h1 h2 => ?_
  rw [of_len] at h2
  have z := of_get (F := cnt n l 0 0) h2
  rw [List.getElem?_eq_getElem (by rw [of_len]; exact h2)] at z
  rw [Option.some.inj z, List.getElem_replicate]
  rfl
theorem cnt_row (n : Nat) (l : List Int) (i : Nat) : cnt n l i i = cnt n l (i + 1) 0 := funext fun b => by
  unfold cnt
  show _ = (_ + S (i : Int).toNat _) + 0
  rw [Int.toNat_natCast, Int.add_zero]
theorem cnt_step {n m : Nat} {l : List Int} {i j s : Nat} (hs : s < m) (e : min (atL l i - atL l j) (n - (atL l i - atL l j)) = s + 1) : (of m (cnt n l i j)).set s (cnt n l i j s + 1) = of m (cnt n l i (j + 1)) := by
  rw [of_add hs]
  refine of_congr fun b _ => ?_
  unfold cnt
  show _ = _ + (_ + apart n (b + 1) (atL l i) (atL l j))
  rw [Int.add_assoc]
  congr 2
  unfold apart
  rw [e]
  by_cases z : (b : Int) = s
  · rw [if_pos z, if_pos (by omega)]
  · rw [if_neg z, if_neg (by omega)]
theorem cnt_all (n : Nat) (l : List Int) : cnt n l l.length 0 = fun b => pairs (apart n (b + 1)) l := funext fun b => Int.add_zero _
/-- what intervals_of finds is what the pairs tell -/
theorem intervals_eq {xs : List Int} (hv : ∀ x ∈ xs, 0 ≤ x ∧ x ≤ 1) : of (xs.length / 2) (cnt xs.length (spots (per xs) xs.length) (spots (per xs) xs.length).length 0) = of (xs.length / 2) fun b => if 2 * (b + 1) = xs.length then per (crossV xs xs) (b + 1) / 2 else per (crossV xs xs) (b + 1) := by
  rw [cnt_all]
  refine of_congr fun b hb => ?_
  have := pairs_echo (k := b + 1) hv (by omega) (by omega)
  rw [Int.natCast_add] at this
  rw [show ((b : Int) + 1) = (b : Int) + ((1 : Nat) : Int) from rfl, this]
  by_cases z : 2 * (b + 1) = xs.length
  · rw [if_pos z, if_pos (by omega)]
  · rw [if_neg z, if_neg (by omega)]
end Pm

set_option Elab.async false
set_option linter.all false
/-! Voices on changed clocks: folded, spread, repeated, stretched, joined; their products and echoes. -/
namespace Pm
open Pv
theorem S_append (a b : Nat) (G : Int → Int) : S (a + b) G = S a G + S b fun t => G (a + t) := by
  induction b with
  | zero => show S a G = S a G + 0; rw [Int.add_zero]
  | succ b ih =>
    show S (a + b) G + G ((a + b : Nat) : Int) = S a G + (S b (fun t => G (a + t)) + G (a + b))
    rw [ih, Int.natCast_add, Int.add_assoc]
/-- a window of m blocks of d, row by row -/
theorem S_blocks (d m : Nat) (G : Int → Int) : S (m * d) G = S d fun i => S m fun t => G (i + t * d) := by
  induction m with
  | zero =>
    rw [Nat.zero_mul]
    show (0 : Int) = S d fun _ => 0
    rw [S_zero]
  | succ m ih =>
    rw [Nat.succ_mul, S_append, ih, ← S_add]
    refine S_congr fun i _ => ?_
    show S m _ + G (((m * d : Nat) : Int) + i) = S m _ + G (i + m * d)
    rw [Int.natCast_mul, Int.add_comm ((m : Int) * d)]
theorem _root_.Pv.Per.mulN {n : Nat} {F : Int → Int} (h : Per n F) (k : Nat) (i : Int) : F (i + k * n) = F i := by
  induction k with
  | zero => rw [Int.natCast_zero, Int.zero_mul, Int.add_zero]
  | succ k ih => rw [Int.natCast_succ, Int.add_mul, Int.one_mul, ← Int.add_assoc, h, ih]
theorem _root_.Pv.Per.times {n : Nat} {F : Int → Int} (h : Per n F) (k : Nat) : Per (k * n) F := fun i => by
  rw [Int.natCast_mul]
  exact h.mulN k i
/-! ### folded -/
/-- of m * d beats to d -/
def fold (d m : Nat) (F : Int → Int) : Int → Int := fun b => S m fun t => F (b + t * d)
theorem per_row {d m : Nat} {F : Int → Int} (h : Per (m * d) F) (b : Int) : Per m fun t => F (b + t * d) := fun t => by
  show F (b + (t + m) * d) = _
  rw [Int.add_mul, ← Int.add_assoc, ← Int.natCast_mul]
  exact h _
theorem per_fold {d m : Nat} {F : Int → Int} (h : Per (m * d) F) : Per d (fold d m F) := fun b => by
  unfold fold
  rw [← S_shift (per_row h b) 1]
  refine S_congr fun t _ => ?_
  congr 1
  rw [Int.add_mul, Int.one_mul]
  omega
theorem fold_neg {d m : Nat} {F : Int → Int} (h : Per (m * d) F) (b : Int) : fold d m (fun i => F (-i)) b = fold d m F (-b) := by
  unfold fold
  rw [← S_neg (per_row h (-b))]
  refine S_congr fun t _ => ?_
  show F (-(b + t * d)) = F (-b + -t * d)
  congr 1
  rw [Int.neg_add, Int.neg_mul]
theorem conv_fold {d m : Nat} {F G : Int → Int} (g : Per (m * d) G) (b : Int) : fold d m (conv (m * d) F G) b = conv d (fold d m F) (fold d m G) b := by
  unfold conv
  show S m (fun t => S (m * d) fun j => F j * G (b + t * d - j)) = _
  rw [S_swap]
  have e : ∀ j : Int, (S m fun t => F j * G (b + t * d - j)) = F j * fold d m G (b - j) := fun j => by
    rw [S_mulL]
    unfold fold
    congr 1
    exact S_congr fun t _ => by congr 1; omega
  rw [S_congr (G := fun j => F j * fold d m G (b - j)) fun j _ => e j, S_blocks]
  refine S_congr fun i _ => ?_
  show S m (fun t => F (i + t * d) * fold d m G (b - (i + t * d))) = fold d m F i * fold d m G (b - i)
  have e2 : ∀ t : Nat, fold d m G (b - (i + t * d)) = fold d m G (b - i) := fun t => by
    have := (per_fold g).mulN t (b - (i + t * d))
    rw [← this]
    congr 1
    omega
  rw [S_congr (G := fun t => F (i + t * d) * fold d m G (b - i)) fun t _ => by rw [e2], S_mulR]
  rfl
def foldV (xs : List Int) (d : Nat) : List Int := of d (fold d (xs.length / d) (per xs))
theorem fold_len (xs : List Int) (d : Nat) : (foldV xs d).length = d := of_len _ _
section
variable {xs ys : List Int} {d : Nat}
theorem div_mul (h : xs.length % d = 0) : xs.length / d * d = xs.length := Nat.div_mul_cancel (Nat.dvd_of_mod_eq_zero h)
theorem pos_div (h : xs.length % d = 0) (h0 : 0 < xs.length) : 0 < d := by
  rcases Nat.eq_zero_or_pos d with z | z
  · subst z
    rw [Nat.mod_zero] at h
    omega
  · exact z
theorem per_foldV (h : xs.length % d = 0) (h0 : 0 < xs.length) (b : Int) : per (foldV xs d) b = fold d (xs.length / d) (per xs) b :=
  per_of (per_fold (by rw [div_mul h]; exact per_per xs)) (pos_div h h0) b
theorem fold_mul (h : xs.length % d = 0) (h0 : 0 < xs.length) (hl : ys.length = xs.length) : foldV (mulV xs ys) d = mulV (foldV xs d) (foldV ys d) := by
  have hd := pos_div h h0
  have hm := div_mul h
  refine eq_of_per (by rw [fold_len, mul_len, fold_len]) fun j _ => ?_
  rw [per_foldV (by rw [mul_len]; exact h) (by rw [mul_len]; exact h0), per_mul (by rw [fold_len]; exact hd) (by rw [fold_len, fold_len]), mul_len, fold_len]
  have e : per (mulV xs ys) = conv (xs.length / d * d) (per xs) (per ys) := funext fun i => by rw [per_mul h0 hl, hm]
  rw [e, conv_fold (by rw [hm]; exact hl ▸ per_per ys)]
  refine (conv_congr (fun i => per_foldV h h0 i) (fun i => ?_) _).symm
  rw [per_foldV (by rw [hl]; exact h) (by omega), hl]
theorem fold_mir (h : xs.length % d = 0) (h0 : 0 < xs.length) : foldV (mir xs) d = mir (foldV xs d) := by
  have hd := pos_div h h0
  refine eq_of_per (by rw [fold_len, mir_len, fold_len]) fun j _ => ?_
  rw [per_foldV (by rw [mir_len]; exact h) (by rw [mir_len]; exact h0), per_mir (by rw [fold_len]; exact hd), per_foldV h h0, mir_len, show per (mir xs) = fun i => per xs (-i) from funext fun i => per_mir h0 i]
  exact fold_neg (by rw [div_mul h]; exact per_per xs) _
theorem fold_echo (h : xs.length % d = 0) (h0 : 0 < xs.length) : foldV (crossV xs xs) d = crossV (foldV xs d) (foldV xs d) := by
  unfold crossV
  rw [fold_mul h h0 (mir_len xs), fold_mir h h0]
end
/-! ### repeated -/
def repV (xs : List Int) (k : Nat) : List Int := of (k * xs.length) (per xs)
theorem rep_len (xs : List Int) (k : Nat) : (repV xs k).length = k * xs.length := of_len _ _
theorem per_rep {xs : List Int} {k : Nat} (h : 0 < xs.length) (hk : 0 < k) (i : Int) : per (repV xs k) i = per xs i := per_of ((per_per xs).times k) (Nat.mul_pos hk h) i
theorem of_snoc (n : Nat) (F : Int → Int) : of (n + 1) F = of n F ++ [F n] := by
  unfold of
  rw [List.range_succ, List.map_append]
  rfl
theorem of_app (a b : Nat) (F : Int → Int) : of (a + b) F = of a F ++ of b fun i => F (a + i) := by
  induction b with
  | zero => rw [show of 0 (fun i => F (a + i)) = [] from rfl, List.append_nil]; rfl
  | succ b ih =>
    rw [show a + (b + 1) = (a + b) + 1 from rfl, of_snoc, of_snoc, ih, List.append_assoc, Int.natCast_add]
theorem rep_eq (xs : List Int) (k : Nat) : (List.replicate k xs).flatten = repV xs k := by
  induction k with
  | zero =>
    unfold repV
    rw [Nat.zero_mul]
    rfl
  | succ k ih =>
    unfold repV
    rw [Nat.succ_mul, Nat.add_comm (k * xs.length), of_app, List.replicate_succ, List.flatten_cons, ih, of_per]
    congr 1
    unfold repV
    exact of_congr fun j _ => by rw [Int.add_comm, per_per]
theorem rep_echo {xs : List Int} {k : Nat} (h : 0 < xs.length) (hk : 0 < k) : crossV (repV xs k) (repV xs k) = (repV (crossV xs xs) k).map fun w : Int => w * (k : Int) := by
  have hl : (repV (crossV xs xs) k).length = k * xs.length := by rw [rep_len, cross_len]
  refine eq_of_per (by rw [cross_len, List.length_map, rep_len, hl]) fun j hj => ?_
  rw [cross_len, rep_len] at hj
  rw [per_cross (by rw [rep_len]; exact Nat.mul_pos hk h) rfl, per_get (xs := List.map _ _) (by rw [List.length_map, hl]; exact hj), List.getElem_map, ← per_get, per_rep (by rw [cross_len]; exact h) hk, per_cross h rfl, rep_len,
    conv_congr (fun i => per_rep h hk i) (fun i => per_rep h hk (-i))]
  unfold conv
  have p : Per xs.length fun i => per xs i * per xs (-(j - i)) := (per_per xs).mul fun i => by
    show per xs (-(j - (i + xs.length))) = per xs (-(j - i))
    rw [← per_per xs (-(j - i))]
    congr 1
    omega
  rw [S_blocks, S_congr (G := fun i => per xs i * per xs (-(j - i)) * k) (fun i _ => ?_), S_mulR]
  rw [S_congr (G := fun _ => per xs i * per xs (-(j - i))) (fun t _ => p.mulN t i), S_const, Int.mul_comm]
end Pm

set_option Elab.async false
set_option linter.all false
/-! Voices spread, stretched, joined. -/
namespace Pm
open Pv
theorem S_single {n : Nat} {G : Int → Int} (hn : 0 < n) (h : ∀ j : Nat, 0 < j → j < n → G j = 0) : S n G = G 0 := by
  obtain ⟨m, rfl⟩ : ∃ m, n = m + 1 := ⟨n - 1, by omega⟩
  rw [S_front, S_congr (G := fun _ => 0) (fun j hj => ?_), S_zero, Int.add_zero]
  have := h (j + 1) (by omega) (by omega)
  rwa [Int.natCast_add] at this
/-! ### spread -/
def spr (s : Nat) (F : Int → Int) : Int → Int := fun b => if b % s = 0 then F (b / s) else 0
theorem per_spr {n s : Nat} {F : Int → Int} (hs : 0 < s) (h : Per n F) : Per (n * s) (spr s F) := fun b => by
  unfold spr
  have e1 : (b + ((n * s : Nat) : Int)) % (s : Int) = b % s := by rw [Int.natCast_mul, Int.add_mul_emod_self_right]
  have e2 : (b + ((n * s : Nat) : Int)) / (s : Int) = b / s + n := by rw [Int.natCast_mul, Int.add_mul_ediv_right _ _ (by omega)]
  rw [e1, e2, h]
theorem spr_row {s : Nat} {F : Int → Int} (hs : 0 < s) (t : Int) (r : Nat) (h0 : 0 < r) (h1 : r < s) : spr s F (r + t * s) = 0 := by
  unfold spr
  rw [if_neg]
  rw [Int.add_mul_emod_self_right, Int.emod_eq_of_lt (by omega) (by omega)]
  omega
theorem spr_at {s : Nat} {F : Int → Int} (hs : 0 < s) (t : Int) : spr s F (t * s) = F t := by
  unfold spr
  rw [if_pos (Int.mul_emod_left _ _), Int.mul_ediv_cancel _ (by omega)]
def spreadV (xs : List Int) (s : Nat) : List Int := of (xs.length * s) (spr s (per xs))
theorem spread_len (xs : List Int) (s : Nat) : (spreadV xs s).length = xs.length * s := of_len _ _
theorem per_spread {xs : List Int} {s : Nat} (h : 0 < xs.length) (hs : 0 < s) (i : Int) : per (spreadV xs s) i = spr s (per xs) i := per_of (per_spr hs (per_per xs)) (Nat.mul_pos h hs) i
theorem spread_echo {xs : List Int} {s : Nat} (h : 0 < xs.length) (hs : 0 < s) : crossV (spreadV xs s) (spreadV xs s) = spreadV (crossV xs xs) s := by
  refine eq_of_per (by rw [cross_len, spread_len, spread_len, cross_len]) fun b _ => ?_
  rw [per_cross (by rw [spread_len]; exact Nat.mul_pos h hs) rfl, per_spread (by rw [cross_len]; exact h) hs, spread_len, conv_congr (fun i => per_spread h hs i) (fun i => per_spread h hs (-i))]
  generalize (b : Int) = b
  unfold conv
  rw [S_blocks, S_single hs fun r r0 r1 => ?_]
  · have e : ∀ t : Int, (0 : Int) + t * s = t * s := fun t => Int.zero_add _
    have e2 : ∀ t : Int, spr s (per xs) (0 + t * s) * spr s (per xs) (-(b - (0 + t * s))) = if b % s = 0 then per xs t * per xs (-(b / s - t)) else 0 := fun t => by
      rw [e, spr_at hs]
      by_cases hb : b % s = 0
      · rw [if_pos hb]
        have eb : b = b / s * s := by have := Int.mul_ediv_add_emod b s; rw [hb, Int.add_zero, Int.mul_comm] at this; exact this.symm
        have e3 : -(b - t * s) = (-(b / s - t)) * s := by
          rw [Int.neg_mul, Int.sub_mul, ← eb]
        rw [e3, spr_at hs]
      · rw [if_neg hb]
        unfold spr
        rw [if_neg, Int.mul_zero]
        intro z
        apply hb
        have hd := Int.dvd_of_emod_eq_zero z
        have : (s : Int) ∣ b - t * s := (Int.dvd_neg).mp hd
        have h2 : (s : Int) ∣ b := by
          have := Int.dvd_add this (Int.dvd_mul_left t (s : Int))
          rwa [Int.sub_add_cancel] at this
        exact Int.emod_eq_zero_of_dvd h2
    rw [S_congr (G := fun t => if b % s = 0 then per xs t * per xs (-(b / s - t)) else 0) fun t _ => e2 t]
    unfold spr
    by_cases hb : b % s = 0
    · rw [if_pos hb, per_cross h rfl]
      exact S_congr fun t _ => if_pos hb
    · rw [if_neg hb]
      rw [S_congr (G := fun _ => 0) fun t _ => if_neg hb, S_zero]
  · rw [S_congr (G := fun _ => 0) (fun t _ => by rw [spr_row hs t r r0 r1, Int.zero_mul]), S_zero]
/-! ### stretched -/
def ind (n : Nat) (a : Int) : Int := if a % n = 0 then 1 else 0
theorem ind_neg (n : Nat) (a : Int) : ind n (-a) = ind n a := by
  unfold ind
  have : ((-a) % (n : Int) = 0) = (a % (n : Int) = 0) := propext ⟨fun z => Int.emod_eq_zero_of_dvd ((Int.dvd_neg).mp (Int.dvd_of_emod_eq_zero z)), fun z => Int.emod_eq_zero_of_dvd ((Int.dvd_neg).mpr (Int.dvd_of_emod_eq_zero z))⟩
  simp only [this]
theorem ind_per (n : Nat) (a c : Int) : ind n (a + c * n) = ind n a := by
  unfold ind
  rw [Int.add_mul_emod_self_right]
theorem ind_at {n : Nat} (c : Int) {i : Nat} (hi : i < n) : ind n (c - i) = if (i : Int) = c % n then 1 else 0 := by
  unfold ind
  have h0 : (0 : Int) < n := by omega
  have : ((c - i) % (n : Int) = 0) = ((i : Int) = c % n) := propext ⟨fun z => by
      have hd := Int.dvd_of_emod_eq_zero z
      have := Int.emod_emod_of_dvd c (Int.dvd_refl (n : Int))
      have e := (Int.emod_emod_of_dvd (c - i) (Int.dvd_refl (n : Int)))
      have h2 : c % n = (i : Int) % n := by
        have h3 : c = (c - i) + i := by omega
        obtain ⟨q, hq⟩ := hd
        rw [h3, hq, Int.add_comm, Int.add_mul_emod_self_left]
      rw [h2, Int.emod_eq_of_lt (by omega) (by omega)], fun z => by
      rw [z, ← Int.emod_add_mul_ediv c n, Int.add_sub_assoc, ← Int.emod_add_mul_ediv c n]
      have : c % (n : Int) + (n * (c / n) - (c % n + n * (c / n)) % n) = n * (c / n) := by
        rw [Int.add_mul_emod_self_left, Int.emod_emod]
        omega
      have e : (c % (n : Int) + n * (c / n)) = c := Int.emod_add_mul_ediv c n
      rw [e] at *
      rw [this, Int.mul_emod_right]⟩
  simp only [this]
theorem pick {n : Nat} {H : Int → Int} (hn : 0 < n) (h : Per n H) (c : Int) : S n (fun i => ind n (c - i) * H i) = H c := by
  have c0 := Int.emod_nonneg c (show (n : Int) ≠ 0 by omega)
  have c1 := Int.emod_lt_of_pos c (show (0 : Int) < n by omega)
  obtain ⟨s, hs⟩ : ∃ s : Nat, c % (n : Int) = s := ⟨(c % (n : Int)).toNat, by omega⟩
  rw [S_congr (G := fun i => (if i = (s : Int) then 1 else 0) * H i) fun i hi => by rw [ind_at c hi, hs], S_one H (by omega), ← hs, h.mod hn]
def str (n : Nat) (k : Int) (F : Int → Int) : Int → Int := fun b => S n fun j => ind n (j * k - b) * F j
section
variable {n : Nat} {k : Int} {F G : Int → Int}
theorem per_str : Per n (str n k F) := fun b => S_congr fun j _ => by
  have : (j : Int) * k - (b + n) = (j * k - b) + (-1) * n := by omega
  rw [this, ind_per]
theorem ind_perj (c k : Int) (j : Int) : ind n ((j + n) * k - c) = ind n (j * k - c) := by
  have : (j + n) * k - c = (j * k - c) + k * n := by rw [Int.add_mul, Int.mul_comm (n : Int)]; omega
  rw [this, ind_per]
theorem str_neg (f : Per n F) (b : Int) : str n k (fun i => F (-i)) b = str n k F (-b) := by
  unfold str
  have p : Per n fun j => ind n (j * k - -b) * F j := fun j => by
    show ind n ((j + n) * k - -b) * F (j + n) = _
    rw [ind_perj, f]
  rw [← S_neg p]
  refine S_congr fun j _ => ?_
  show ind n (j * k - b) * F (-j) = ind n (-j * k - -b) * F (-j)
  rw [← ind_neg]
  congr 2
  rw [Int.neg_mul]
  omega
theorem conv_str (hn : 0 < n) (g : Per n G) (b : Int) : conv n (str n k F) (str n k G) b = str n k (conv n F G) b := by
  have e1 : conv n (str n k F) (str n k G) b = S n fun j => F j * str n k G (b - j * k) := by
    unfold conv
    have : ∀ i : Int, str n k F i * str n k G (b - i) = S n fun j => F j * (ind n (j * k - i) * str n k G (b - i)) := fun i => by
      show S n (fun j => ind n (j * k - i) * F j) * _ = _
      rw [← S_mulR]
      exact S_congr fun j _ => by rw [Int.mul_comm (ind n _) (F j), Int.mul_assoc]
    rw [S_congr (G := fun i => S n fun j => F j * (ind n (j * k - i) * str n k G (b - i))) fun i _ => this i, S_swap]
    refine S_congr fun j _ => ?_
    show S n (fun i => F j * (ind n (j * k - i) * str n k G (b - i))) = _
    rw [S_mulL, pick hn (H := fun i => str n k G (b - i)) (Per.sub per_str b)]
  have e2 : str n k (conv n F G) b = S n fun j => F j * str n k G (b - j * k) := by
    unfold str conv
    have : ∀ m : Int, ind n (m * k - b) * (S n fun j => F j * G (m - j)) = S n fun j => F j * (ind n (m * k - b) * G (m - j)) := fun m => by
      rw [← S_mulL]
      exact S_congr fun j _ => by rw [← Int.mul_assoc, ← Int.mul_assoc, Int.mul_comm (ind n _)]
    rw [S_congr (G := fun m => S n fun j => F j * (ind n (m * k - b) * G (m - j))) fun m _ => this m, S_swap]
    refine S_congr fun j _ => ?_
    show S n (fun m => F j * (ind n (m * k - b) * G (m - j))) = _
    rw [S_mulL]
    congr 1
    have p : Per n fun m => ind n (m * k - b) * G (m - j) := fun m => by
      show ind n ((m + n) * k - b) * G (m + n - j) = _
      rw [ind_perj]
      congr 1
      rw [← g (m - j)]
      congr 1
      omega
    rw [← S_shift p j]
    refine S_congr fun l _ => ?_
    show ind n ((l + j) * k - b) * G (l + j - j) = _
    congr 2
    · rw [Int.add_mul]; omega
    · omega
  rw [e1, e2]
end
def strV (xs : List Int) (k : Int) : List Int := of xs.length (str xs.length k (per xs))
theorem str_len (xs : List Int) (k : Int) : (strV xs k).length = xs.length := of_len _ _
theorem per_strV {xs : List Int} (h : 0 < xs.length) (k i : Int) : per (strV xs k) i = str xs.length k (per xs) i := per_of per_str h i
theorem str_mul {xs ys : List Int} (h : 0 < xs.length) (hl : ys.length = xs.length) (k : Int) : strV (mulV xs ys) k = mulV (strV xs k) (strV ys k) := by
  refine eq_of_per (by rw [str_len, mul_len, mul_len, str_len]) fun j _ => ?_
  rw [per_strV (by rw [mul_len]; exact h), per_mul (by rw [str_len]; exact h) (by rw [str_len, str_len, hl]), mul_len, str_len, show per (mulV xs ys) = conv xs.length (per xs) (per ys) from funext fun i => per_mul h hl i,
    ← conv_str h (hl ▸ per_per ys)]
  refine (conv_congr (fun i => per_strV h k i) (fun i => ?_) _).symm
  rw [per_strV (by omega), hl]
theorem str_mir {xs : List Int} (h : 0 < xs.length) (k : Int) : strV (mir xs) k = mir (strV xs k) := by
  refine eq_of_per (by rw [str_len, mir_len, mir_len, str_len]) fun j _ => ?_
  rw [per_strV (by rw [mir_len]; exact h), per_mir (by rw [str_len]; exact h), per_strV h, mir_len, show per (mir xs) = fun i => per xs (-i) from funext fun i => per_mir h i, str_neg (per_per xs)]
theorem str_echo {xs : List Int} (h : 0 < xs.length) (k : Int) : strV (crossV xs xs) k = crossV (strV xs k) (strV xs k) := by
  unfold crossV
  rw [str_mul h (mir_len xs), str_mir h]
theorem str_back {xs : List Int} (h : 0 < xs.length) : strV xs (-1) = mir xs := by
  refine eq_of_per (by rw [str_len, mir_len]) fun b _ => ?_
  rw [per_strV h, per_mir h]
  unfold str
  rw [← pick h (per_per xs) (-b)]
  refine S_congr fun j _ => ?_
  congr 2
  omega
/-- what the first m beats make -/
def strP (n : Nat) (k : Int) (F : Int → Int) (m : Nat) : Int → Int := fun b => S m fun j => ind n (j * k - b) * F j
theorem strP_zero (n : Nat) (k : Int) (F : Int → Int) : List.replicate n (0 : Int) = of n (strP n k F 0) := by
  refine List.ext_getElem (by rw [List.length_replicate, of_len]) fun i h1 h2 => ?_
  rw [of_len] at h2
  have z := of_get (F := strP n k F 0) h2
  rw [List.getElem?_eq_getElem (by rw [of_len]; exact h2)] at z
  rw [Option.some.inj z, List.getElem_replicate]
  rfl
theorem strP_step {n : Nat} (hn : 0 < n) (k : Int) (F : Int → Int) (m s : Nat) (hs : (m * k) % (n : Int) = s) : (of n (strP n k F m)).set s (strP n k F m s + F m) = of n (strP n k F (m + 1)) := by
  have c1 := Int.emod_lt_of_pos (m * k) (show (0 : Int) < n by omega)
  rw [of_add (by omega)]
  refine of_congr fun b hb => ?_
  show _ = strP n k F m b + ind n (m * k - b) * F m
  rw [ind_at _ hb, hs]
  by_cases e : (b : Int) = s
  · rw [if_pos e, if_pos e, Int.one_mul]
  · rw [if_neg e, if_neg e, Int.zero_mul]
/-! ### turned -/
theorem cross_turns {xs ys : List Int} (h : 0 < xs.length) (hl : ys.length = xs.length) (k : Int) : crossV (turnV xs k) (turnV ys k) = crossV xs ys := by
  have pX := per_per xs
  have pY := hl ▸ per_per ys
  refine eq_of_per (by rw [cross_len, cross_len, turn_len]) fun b _ => ?_
  rw [per_cross (by rw [turn_len]; exact h) (by rw [turn_len, turn_len, hl]), per_cross h hl, turn_len, conv_congr (fun i => per_turn h k i) (fun i => per_turn (by omega) k (-i)), conv_turn pX (G := fun i => per ys (-i - k)) (fun i => by
    show per ys (-(i + xs.length) - k) = per ys (-i - k)
    rw [← pY (-(i + xs.length) - k)]
    congr 1
    omega)]
  unfold conv
  refine S_congr fun j _ => ?_
  show per xs j * per ys (-(b - k - j) - k) = per xs j * per ys (-(b - j))
  congr 2
  omega
theorem cross_turn {xs ys : List Int} (h : 0 < xs.length) (hl : ys.length = xs.length) (k : Int) : crossV (turnV xs k) ys = turnV (crossV xs ys) k := by
  have pX := per_per xs
  have pY := hl ▸ per_per ys
  refine eq_of_per (by rw [cross_len, turn_len, turn_len, cross_len]) fun b _ => ?_
  rw [per_cross (by rw [turn_len]; exact h) (by rw [turn_len, hl]), per_turn (by rw [cross_len]; exact h), per_cross h hl, turn_len, conv_congr (fun i => per_turn h k i) (fun i => rfl), conv_turn pX pY.neg]
/-! ### joined -/
theorem ind_inv {n m : Nat} {u : Int} (hu : ((n : Int) * u - 1) % m = 0) (a t : Int) : ind m (t * n - a) = ind m (a * u - t) := by
  have d0 := Int.dvd_of_emod_eq_zero hu
  unfold ind
  have : ((t * n - a) % (m : Int) = 0) = ((a * u - t) % (m : Int) = 0) := propext ⟨fun z => by
      have d1 := Int.dvd_of_emod_eq_zero z
      have d2 := Int.dvd_sub (Int.dvd_trans d0 (Int.dvd_mul_left t _)) (Int.dvd_trans d1 (Int.dvd_mul_right _ u))
      refine Int.emod_eq_zero_of_dvd ?_
      have e : t * (n * u - 1) - (t * n - a) * u = a * u - t := by
        rw [Int.mul_sub, Int.sub_mul, Int.mul_one, ← Int.mul_assoc]; omega
      rwa [e] at d2, fun z => by
      have d1 := Int.dvd_of_emod_eq_zero z
      have d2 := Int.dvd_sub (Int.dvd_trans d0 (Int.dvd_mul_left a _)) (Int.dvd_trans d1 (Int.dvd_mul_right _ (n : Int)))
      refine Int.emod_eq_zero_of_dvd ?_
      have e : a * (n * u - 1) - (a * u - t) * n = t * n - a := by
        rw [Int.mul_sub, Int.sub_mul, Int.mul_one, Int.mul_comm (n : Int) u, ← Int.mul_assoc]; omega
      rwa [e] at d2⟩
  simp only [this]
theorem S_steps {n m : Nat} {u : Int} (hm : 0 < m) (hu : ((n : Int) * u - 1) % m = 0) {Q : Int → Int} (q : Per m Q) (c : Int) : S m (fun t => Q (c + t * n)) = S m Q := by
  have e1 : ∀ t : Int, Q (c + t * n) = S m fun l => ind m (c + t * n - l) * Q l := fun t => (pick hm q _).symm
  rw [S_congr (G := fun t => S m fun l => ind m (c + t * n - l) * Q l) fun t _ => e1 t, S_swap]
  refine S_congr fun l _ => ?_
  show S m (fun t => ind m (c + t * n - l) * Q l) = Q l
  rw [S_mulR]
  have e2 : S m (fun t => ind m (c + t * n - l)) = 1 := by
    have : ∀ t : Int, ind m (c + t * n - l) = ind m ((l - c) * u - t) * 1 := fun t => by
      rw [← ind_inv hu, Int.mul_one]
      congr 1
      omega
    rw [S_congr (G := fun t => ind m ((l - c) * u - t) * 1) fun t _ => this t]
    exact pick (H := fun _ => 1) hm (fun _ => rfl) _
  rw [e2, Int.one_mul]
theorem S_coprime {n m : Nat} {u : Int} (hm : 0 < m) (hu : ((n : Int) * u - 1) % m = 0) {P Q : Int → Int} (p : Per n P) (q : Per m Q) : S (n * m) (fun j => P j * Q j) = S n P * S m Q := by
  rw [Nat.mul_comm, S_blocks, ← S_mulR]
  refine S_congr fun i _ => ?_
  show S m (fun t => P (i + t * n) * Q (i + t * n)) = _
  rw [S_congr (G := fun t => P i * Q (i + t * n)) fun t _ => by rw [p.mulN t i], S_mulL, S_steps hm hu q]
def joinV (xs ys : List Int) : List Int := of (xs.length * ys.length) fun b => per xs b * per ys b
theorem join_len (xs ys : List Int) : (joinV xs ys).length = xs.length * ys.length := of_len _ _
theorem per_joinF (xs ys : List Int) : Per (xs.length * ys.length) fun b => per xs b * per ys b := fun b => by
  show per xs (b + _) * per ys (b + _) = _
  rw [(per_per ys).times xs.length, Nat.mul_comm, (per_per xs).times ys.length]
theorem per_join {xs ys : List Int} (h : 0 < xs.length) (hy : 0 < ys.length) (i : Int) : per (joinV xs ys) i = per xs i * per ys i := per_of (per_joinF xs ys) (Nat.mul_pos h hy) i
theorem join_echo {xs ys : List Int} {u : Int} (h : 0 < xs.length) (hy : 0 < ys.length) (hu : ((xs.length : Int) * u - 1) % ys.length = 0) : crossV (joinV xs ys) (joinV xs ys) = joinV (crossV xs xs) (crossV ys ys) := by
  refine eq_of_per (by rw [cross_len, join_len, join_len, cross_len, cross_len]) fun b _ => ?_
  rw [per_cross (by rw [join_len]; exact Nat.mul_pos h hy) rfl, per_join (by rw [cross_len]; exact h) (by rw [cross_len]; exact hy), join_len, per_cross h rfl, per_cross hy rfl, conv_congr (fun i => per_join h hy i) (fun i => per_join h hy (-i))]
  unfold conv
  generalize (b : Int) = b
  have pX := per_per xs
  have pY := per_per ys
  rw [← S_coprime hy hu (pX.mul (pX.neg.sub b)) (pY.mul (pY.neg.sub b))]
  refine S_congr fun j _ => ?_
  show per xs j * per ys j * (per xs (-(b - j)) * per ys (-(b - j))) = per xs j * per xs (-(b - j)) * (per ys j * per ys (-(b - j)))
  rw [Int.mul_assoc, Int.mul_assoc, Int.mul_left_comm (per ys j)]
end Pm

set_option Elab.async false
set_option linter.all false
set_option maxRecDepth 100000
set_option maxHeartbeats 4000000
/-! Slices of lists of whole numbers, in the words of the mathematics. -/
namespace Pu
open PySem PySem.Spec PyProof.Rows L2 Gd RZ Pv Pm
theorem slN_from {n k c : Nat} (hk : k < c) (h : n % c = 0) : slN n (some (k : Int)) none (c : Int) = n / c := by
  have hc : 0 < c := by omega
  have dm : n / c * c = n := Nat.div_mul_cancel (Nat.dvd_of_mod_eq_zero h)
  have ea : Builtin.Slice.sliceAdjust (some (k : Int)) none (c : Int) (n : Int) = (min (k : Int) n, (n : Int)) := by
    unfold Builtin.Slice.sliceAdjust
    have n1 : ¬ ((c : Int) < 0) := by omega
    have n2 : ¬ ((k : Int) < 0) := by omega
    simp only [n1, n2, if_false]
  unfold slN
  rw [ea]
  unfold Builtin.Slice.slicePlaces
  rw [if_pos (show (c : Int) > 0 by omega)]
  generalize hq : n / c = q at dm
  rw [← dm]
  rcases Nat.eq_zero_or_pos q with z | z
  · subst z
    rw [Nat.zero_mul, if_neg (by omega)]
    rfl
  · have hcq : c ≤ q * c := Nat.le_mul_of_pos_left c z
    rw [if_pos (by omega), show min (k : Int) ((q * c : Nat) : Int) = k by omega]
    have : ((((q * c : Nat) : Int)) - k - 1) / (c : Int) = (q : Int) - 1 := by
      have e3 : (((q * c : Nat) : Int)) - k - 1 = ((c : Int) - 1 - k) + ((q : Int) - 1) * c := by
        rw [Int.natCast_mul, Int.sub_mul, Int.one_mul]
        omega
      rw [e3, Int.add_mul_ediv_right _ _ (by omega), Int.ediv_eq_zero_of_lt (by omega) (by omega), Int.zero_add]
    show ((((q * c : Nat) : Int) - k - 1) / (c : Int) + 1).toNat = q
    rw [this]
    omega
theorem rgN_from {n k c : Nat} (hk : k < c) (h : n % c = 0) : rgN (k : Int) (n : Int) (c : Int) = n / c := by
  have e := slN_from hk h
  have hc : 0 < c := by omega
  unfold slN Builtin.Slice.slicePlaces at e
  have ea : Builtin.Slice.sliceAdjust (some (k : Int)) none (c : Int) (n : Int) = (min (k : Int) n, (n : Int)) := by
    unfold Builtin.Slice.sliceAdjust
    have n1 : ¬ ((c : Int) < 0) := by omega
    have n2 : ¬ ((k : Int) < 0) := by omega
    simp only [n1, n2, if_false]
  rw [ea, if_pos (show (c : Int) > 0 by omega)] at e
  unfold rgN
  rw [← e]
  by_cases hkn : (k : Int) < n
  · rw [if_pos hkn, show min (k : Int) (n : Int) = k by omega, if_pos hkn]
  · rw [if_neg hkn, if_neg (by show ¬ min (k : Int) (n : Int) < n; omega)]
theorem filterMap_of {n : Nat} {f : Nat → Option Int} {F : Int → Int} (h : ∀ m : Nat, m < n → f m = some (F m)) : (List.range n).filterMap f = of n F := by
  unfold of
  have : ∀ l : List Nat, (∀ m ∈ l, m < n) → l.filterMap f = l.map fun m : Nat => F m := by
    intro l hl
    induction l with
    | nil => rfl
    | cons m l ih =>
      rw [List.filterMap_cons_some (h m (hl m List.mem_cons_self)), List.map_cons, ih fun x hx => hl x (List.mem_cons_of_mem _ hx)]
  exact this _ fun m hm => List.mem_range.mp hm
theorem map_filterMap {α β : Type} (g : α → β) (xs : List α) (f : Nat → Nat) (l : List Nat) : l.filterMap (fun m => (xs.map g)[f m]?) = (l.filterMap fun m => xs[f m]?).map g := by
  rw [List.map_filterMap]
  exact filterMap_cg fun m _ => List.getElem?_map ..
theorem pick_fold {xs : List Int} {j d : Nat} (hj : j < d) (h : xs.length % d = 0) : pickS (xs.map D.int) (some (j : Int)) none (d : Int) = (of (xs.length / d) fun t => per xs (j + t * d)).map D.int := by
  rw [pickS_from _ hj (by rw [List.length_map]; exact h), List.length_map, map_filterMap]
  congr 1
  refine filterMap_of fun m hm => ?_
  have dm : xs.length / d * d = xs.length := Nat.div_mul_cancel (Nat.dvd_of_mod_eq_zero h)
  have h1 : j + m * d < xs.length := by
    have := Nat.mul_le_mul_right d (show m + 1 ≤ xs.length / d from hm)
    rw [Nat.add_mul, Nat.one_mul] at this
    omega
  have e := per_get h1
  rw [Int.natCast_add, Int.natCast_mul] at e
  rw [e, List.getElem?_eq_getElem h1]
/-- the mirror: the first, then the others from their end -/
theorem mir_cons (x : Int) (t : List Int) : mir (x :: t) = x :: t.reverse := by
  refine List.ext_getElem (by rw [mir_len, List.length_cons, List.length_cons, List.length_reverse]) fun i h1 h2 => ?_
  rw [mir_len, List.length_cons] at h1
  have e := per_get (xs := mir (x :: t)) (j := i) (by rw [mir_len, List.length_cons]; exact h1)
  rw [← e, per_mir (by simp)]
  cases i with
  | zero =>
    have := per_get (xs := x :: t) (j := 0) (by simp)
    exact this
  | succ i =>
    have hp := per_per (x :: t) (-((i + 1 : Nat) : Int))
    have e2 : -((i + 1 : Nat) : Int) + ((x :: t).length : Nat) = ((t.length - i : Nat) : Int) := by
      rw [List.length_cons]
      omega
    rw [e2] at hp
    rw [← hp, per_get (by rw [List.length_cons]; omega)]
    obtain ⟨q, hq⟩ : ∃ q, t.length - i = q + 1 := ⟨t.length - i - 1, by omega⟩
    simp only [hq, List.getElem_cons_succ, List.getElem_reverse]
    congr 1
    omega
theorem cutA_first {α : Type} (x : α) (t : List α) : cutA (x :: t) none (some 1) = [x] := by
  unfold cutA
  show ((x :: t).drop 0).take (min 1 (t.length + 1) - 0) = [x]
  rw [show min 1 (t.length + 1) - 0 = 1 by omega]
  rfl
theorem cutA_rest {α : Type} (x : α) (t : List α) : cutA (x :: t) (some 1) none = t := by
  unfold cutA
  show ((x :: t).drop (min 1 (t.length + 1))).take (t.length + 1 - min 1 (t.length + 1)) = t
  rw [show min 1 (t.length + 1) = 1 by omega, List.drop_succ_cons, List.drop_zero, List.take_of_length_le (by omega)]
theorem bd_conv6 {n a b : Nat} {F G : Int → Int} (hn : n ≤ 64) (h : ∀ i, (F i).natAbs < 2 ^ a) (g : ∀ i, (G i).natAbs < 2 ^ b) (i : Int) : (conv n F G i).natAbs < 2 ^ (a + b + 6) := by
  have h1 := Nat.two_pow_pos a
  have h2 := Nat.two_pow_pos b
  have e := conv_abs (n := n) (F := F) (G := G) (B := 2 ^ a - 1) (C := 2 ^ b - 1) (fun i => by have := h i; omega) (fun i => by have := g i; omega) i
  have m1 : (2 ^ a - 1) * (2 ^ b - 1) < 2 ^ a * 2 ^ b := Nat.mul_lt_mul_of_lt_of_le (by omega) (by omega) h2
  have m2 : n * ((2 ^ a - 1) * (2 ^ b - 1)) ≤ 64 * ((2 ^ a - 1) * (2 ^ b - 1)) := Nat.mul_le_mul_right _ hn
  rw [Nat.pow_add, Nat.pow_add]
  omega
theorem bd_mul6 {a b : Nat} {xs ys : List Int} (hn : xs.length ≤ 64) (h : Bd a xs) (g : Bd b ys) : Bd (a + b + 6) (mulV xs ys) := bd_of fun i => bd_conv6 hn (bd_per h) (bd_per g) i
theorem bd_cross6 {a b : Nat} {xs ys : List Int} (hn : xs.length ≤ 64) (h : Bd a xs) (g : Bd b ys) : Bd (a + b + 6) (crossV xs ys) := bd_mul6 hn h (bd_mir g)
theorem bd_S {n a : Nat} {F : Int → Int} (hn : n ≤ 64) (h : ∀ i, (F i).natAbs < 2 ^ a) : (S n F).natAbs < 2 ^ (a + 6) := by
  have h1 := Nat.two_pow_pos a
  have e := S_abs (n := n) (F := F) (B := 2 ^ a - 1) fun j _ => by have := h j; omega
  have m2 : n * (2 ^ a - 1) ≤ 64 * (2 ^ a - 1) := Nat.mul_le_mul_right _ hn
  rw [Nat.pow_add]
  omega
theorem bd_fold {a d : Nat} {xs : List Int} (hn : xs.length ≤ 64) (h : Bd a xs) : Bd (a + 6) (foldV xs d) := bd_of fun i => bd_S (Nat.le_trans (Nat.div_le_self _ _) hn) fun t => bd_per h _
theorem bd_zero (a : Nat) : (0 : Int).natAbs < 2 ^ a := Nat.two_pow_pos a
theorem bd_spread {a s : Nat} {xs : List Int} (h : Bd a xs) : Bd a (spreadV xs s) := bd_of fun i => by
  unfold spr
  split
  · exact bd_per h _
  · exact bd_zero a
theorem bd_rep {a k : Nat} {xs : List Int} (h : Bd a xs) : Bd a (repV xs k) := bd_of fun i => bd_per h i
theorem bd_str {a : Nat} {xs : List Int} (hn : xs.length ≤ 64) (k : Int) (h : Bd a xs) : Bd (a + 6) (strV xs k) := bd_of fun i => bd_S hn fun j => by
  unfold ind
  split
  · rw [Int.one_mul]; exact bd_per h _
  · rw [Int.zero_mul]; exact bd_zero a
theorem bd_join {a b : Nat} {xs ys : List Int} (h : Bd a xs) (g : Bd b ys) : Bd (a + b) (joinV xs ys) := bd_of fun i => by
  rw [Int.natAbs_mul, Nat.pow_add]
  exact Nat.mul_lt_mul'' (bd_per h i) (bd_per g i)
theorem bd_map {a b : Nat} {xs : List Int} {f : Int → Int} (h : ∀ x ∈ xs, (f x).natAbs < 2 ^ b) : Bd b (xs.map f) := fun y hy => by
  obtain ⟨x, hx, rfl⟩ := List.mem_map.mp hy
  exact h x hx
/-- spread, item by item -/
theorem spread_app (xs : List Int) (x : Int) (s : Nat) (hs : 0 < s) : spreadV (xs ++ [x]) s = spreadV xs s ++ x :: List.replicate (s - 1) 0 := by
  unfold spreadV
  rw [List.length_append, List.length_singleton, Nat.add_mul, Nat.one_mul, of_app]
  congr 1
  · refine of_congr fun j hj => ?_
    unfold spr
    by_cases hz : (j : Int) % s = 0
    · rw [if_pos hz, if_pos hz]
      have hlt : j / s < xs.length := Nat.div_lt_of_lt_mul (by rw [Nat.mul_comm]; exact hj)
      rw [← Int.natCast_ediv, per_get (by rw [List.length_append]; omega), per_get hlt, List.getElem_append_left hlt]
    · rw [if_neg hz, if_neg hz]
  · obtain ⟨t, rfl⟩ : ∃ t, s = t + 1 := ⟨s - 1, by omega⟩
    rw [Nat.add_sub_cancel, Nat.add_comm t 1, of_app]
    have e0 : of 1 (fun i => spr (1 + t) (per (xs ++ [x])) (((xs.length * (1 + t) : Nat) : Int) + i)) = [x] := by
      show [spr (1 + t) (per (xs ++ [x])) (((xs.length * (1 + t) : Nat) : Int) + 0)] = [x]
      rw [Int.add_zero, Int.natCast_mul, spr_at (by omega), per_get (by simp)]
      simp
    rw [e0]
    show [x] ++ _ = [x] ++ _
    congr 1
    have ec : List.replicate t (0 : Int) = of t fun _ => 0 := by
      unfold of
      rw [List.map_const', List.length_range]
    rw [ec]
    refine of_congr fun j hj => ?_
    rw [Int.natCast_mul, Int.add_comm]
    have := spr_row (s := 1 + t) (F := per (xs ++ [x])) (by omega) xs.length (1 + j) (by omega) (by omega)
    rw [Int.natCast_add] at this
    exact this
end Pu
namespace Pu
theorem blt {c : Prop} [Decidable c] {z : D} (h : c) : [D.bl (decide c), z] = [D.bl true, z] := by rw [decide_eq_true h]
end Pu

set_option Elab.async false
set_option linter.all false
/-! Kin: all turns of a voice and of its mirror; how many there are. -/
namespace Pm
open Pv
/-- the voice comes round after k -/
def Rnd (xs : List Int) (k : Int) : Prop := ∀ i, per xs (i - k) = per xs i
theorem turn_eq {xs : List Int} (h : 0 < xs.length) (a b : Int) : turnV xs a = turnV xs b ↔ Rnd xs (a - b) := by
  constructor
  · intro e i
    have e1 := per_turn h a (i + b)
    have e2 := per_turn h b (i + b)
    rw [e, e2] at e1
    rw [show i - (a - b) = i + b - a by omega, ← e1]
    congr 1
    omega
  · intro r
    refine of_congr fun j _ => ?_
    have := r (j - b)
    rw [← this]
    congr 1
    omega
theorem Rnd.zero (xs : List Int) : Rnd xs 0 := fun i => by rw [Int.sub_zero]
theorem Rnd.add {xs : List Int} {a b : Int} (h : Rnd xs a) (g : Rnd xs b) : Rnd xs (a + b) := fun i => by
  rw [show i - (a + b) = (i - a) - b by omega, g, h]
theorem Rnd.neg {xs : List Int} {a : Int} (h : Rnd xs a) : Rnd xs (-a) := fun i => by
  have := h (i + a)
  rw [show i + a - a = i by omega] at this
  rw [show i - -a = i + a by omega]
  exact this.symm
theorem Rnd.mul {xs : List Int} {a : Int} (h : Rnd xs a) (m : Nat) : Rnd xs (m * a) := by
  induction m with
  | zero => rw [Int.natCast_zero, Int.zero_mul]; exact Rnd.zero xs
  | succ m ih => rw [Int.natCast_succ, Int.add_mul, Int.one_mul]; exact ih.add h
theorem Rnd.len (xs : List Int) : Rnd xs xs.length := fun i => by
  have := per_per xs (i - xs.length)
  rw [Int.sub_add_cancel] at this
  exact this.symm
theorem rnd_mir {xs : List Int} (h : 0 < xs.length) (k : Int) : Rnd (mir xs) k ↔ Rnd xs k := by
  constructor
  · intro r
    have : Rnd xs (-k) := fun i => by
      have := r (-i)
      rw [per_mir h, per_mir h] at this
      rw [show i - -k = -(-i - k) by omega, this, Int.neg_neg]
    have := this.neg
    rwa [Int.neg_neg] at this
  · intro r i
    rw [per_mir h, per_mir h]
    have := r.neg (-i)
    rw [← this]
    congr 1
    omega
/-- the period -/
theorem period (xs : List Int) (h : 0 < xs.length) : ∃ p : Nat, 0 < p ∧ Rnd xs p ∧ (∀ m : Nat, 0 < m → m < p → ¬ Rnd xs m) ∧ xs.length % p = 0 := by
  have ex : ∀ n : Nat, 0 < n → Rnd xs n → ∃ p : Nat, 0 < p ∧ p ≤ n ∧ Rnd xs p ∧ ∀ m : Nat, 0 < m → m < p → ¬ Rnd xs m := by
    intro n
    induction n using Nat.strongRecOn with
    | _ n ih =>
      intro h0 r
      by_cases z : ∃ m : Nat, 0 < m ∧ m < n ∧ Rnd xs m
      · obtain ⟨m, m0, mn, rm⟩ := z
        obtain ⟨p, a, b, c, d⟩ := ih m mn m0 rm
        exact ⟨p, a, by omega, c, d⟩
      · exact ⟨n, h0, Nat.le_refl _, r, fun m m0 mn rm => z ⟨m, m0, mn, rm⟩⟩
  obtain ⟨p, p0, pn, rp, least⟩ := ex xs.length h (Rnd.len xs)
  refine ⟨p, p0, rp, least, ?_⟩
  have r : Rnd xs ((xs.length % p : Nat) : Int) := by
    have e : ((xs.length % p : Nat) : Int) = xs.length + -((xs.length / p : Nat) * (p : Int)) := by
      have := Nat.mod_add_div xs.length p
      have h2 : (xs.length : Int) = ((xs.length % p : Nat) : Int) + (p : Int) * ((xs.length / p : Nat) : Int) := by
        rw [← Int.natCast_mul, ← Int.natCast_add, this]
      rw [Int.mul_comm]
      omega
    rw [e]
    exact (Rnd.len xs).add (rp.mul _).neg
  rcases Nat.eq_zero_or_pos (xs.length % p) with z | z
  · exact z
  · exact absurd r (least _ z (Nat.mod_lt _ p0))
theorem Rnd.mod {xs : List Int} {p : Nat} (p0 : 0 < p) (r : Rnd xs p) (k : Int) : Rnd xs (k - k % p) := by
  have e : k - k % p = (k / p) * p := by
    have := Int.mul_ediv_add_emod k p
    rw [Int.mul_comm] at this
    omega
  rw [e]
  rcases Int.le_total 0 (k / p) with z | z
  · obtain ⟨m, hm⟩ := Int.eq_ofNat_of_zero_le z
    rw [hm]
    exact r.mul m
  · obtain ⟨m, hm⟩ := Int.eq_ofNat_of_zero_le (show 0 ≤ -(k / p) by omega)
    have e : k / p * p = -((m : Int) * p) := by
      rw [← Int.neg_mul]
      congr 1
      omega
    rw [e]
    exact (r.mul m).neg
/-! ### all turns -/
def turnsL (xs : List Int) : List (List Int) := (List.range xs.length).map fun k : Nat => turnV xs k
def kinL (xs : List Int) : List (List Int) := turnsL xs ++ turnsL (mir xs)
theorem mem_turns {xs ys : List Int} (h : 0 < xs.length) : ys ∈ turnsL xs ↔ ∃ k : Int, turnV xs k = ys := by
  constructor
  · intro m
    obtain ⟨k, _, e⟩ := List.mem_map.mp m
    exact ⟨k, e⟩
  · rintro ⟨k, e⟩
    have c0 := Int.emod_nonneg k (show (xs.length : Int) ≠ 0 by omega)
    have c1 := Int.emod_lt_of_pos k (show (0 : Int) < xs.length by omega)
    refine List.mem_map.mpr ⟨(k % xs.length).toNat, List.mem_range.mpr (by omega), ?_⟩
    rw [← e, Int.toNat_of_nonneg c0]
    refine (turn_eq h _ _).mpr ?_
    have := ((Rnd.len xs).mod h k).neg
    rwa [Int.neg_sub] at this
theorem turn_turn {xs : List Int} (h : 0 < xs.length) (a b : Int) : turnV (turnV xs a) b = turnV xs (a + b) := by
  refine eq_of_per (by rw [turn_len, turn_len, turn_len]) fun j _ => ?_
  rw [per_turn (by rw [turn_len]; exact h), per_turn h, per_turn h]
  congr 1
  omega
theorem turn_zero (xs : List Int) : turnV xs 0 = xs := by
  refine eq_of_per (turn_len _ _) fun j hj => ?_
  rw [turn_len] at hj
  rw [per_turn (by omega), Int.sub_zero]
theorem mir_turn {xs : List Int} (h : 0 < xs.length) (a : Int) : mir (turnV xs a) = turnV (mir xs) (-a) := by
  refine eq_of_per (by rw [mir_len, turn_len, turn_len, mir_len]) fun j _ => ?_
  rw [per_mir (by rw [turn_len]; exact h), per_turn h, per_turn (by rw [mir_len]; exact h), per_mir h]
  congr 1
  omega
/-- a turn of the one, or of its mirror -/
theorem mem_kin {xs ys : List Int} (h : 0 < xs.length) : ys ∈ kinL xs ↔ (∃ k : Int, turnV xs k = ys) ∨ ∃ k : Int, turnV (mir xs) k = ys := by
  unfold kinL
  rw [List.mem_append, mem_turns h, mem_turns (by rw [mir_len]; exact h)]
theorem turn_sym {xs ys : List Int} (h : 0 < xs.length) (e : ∃ k : Int, turnV xs k = ys) : ∃ k : Int, turnV ys k = xs := by
  obtain ⟨k, rfl⟩ := e
  exact ⟨-k, by rw [turn_turn h, Int.add_right_neg, turn_zero]⟩
theorem mirt_sym {xs ys : List Int} (h : 0 < xs.length) (e : ∃ k : Int, turnV (mir xs) k = ys) : ∃ k : Int, turnV (mir ys) k = xs := by
  obtain ⟨k, rfl⟩ := e
  refine ⟨k, ?_⟩
  rw [mir_turn (by rw [mir_len]; exact h), mir_mir h, turn_turn h, Int.add_left_neg, turn_zero]
theorem kin_sym {xs ys : List Int} (h : 0 < xs.length) (e : ys ∈ kinL xs) : xs ∈ kinL ys := by
  have hl : ys.length = xs.length := by
    rcases (mem_kin h).mp e with ⟨k, rfl⟩ | ⟨k, rfl⟩
    · rw [turn_len]
    · rw [turn_len, mir_len]
  exact (mem_kin (by omega)).mpr (((mem_kin h).mp e).imp (turn_sym h) (mirt_sym h))
theorem kin_len {xs ys : List Int} (h : 0 < xs.length) (e : ys ∈ kinL xs) : ys.length = xs.length := by
  rcases (mem_kin h).mp e with ⟨k, rfl⟩ | ⟨k, rfl⟩
  · rw [turn_len]
  · rw [turn_len, mir_len]
theorem kin_sub {xs ys zs : List Int} (h : 0 < xs.length) (e : ys ∈ kinL xs) (g : zs ∈ kinL ys) : zs ∈ kinL xs := by
  have hl := kin_len h e
  rw [mem_kin h] at e ⊢
  rw [mem_kin (by omega)] at g
  rcases e with ⟨a, rfl⟩ | ⟨a, rfl⟩
  · rcases g with ⟨b, rfl⟩ | ⟨b, rfl⟩
    · exact .inl ⟨a + b, (turn_turn h a b).symm⟩
    · exact .inr ⟨-a + b, by rw [mir_turn h, turn_turn (by rw [mir_len]; exact h)]⟩
  · rcases g with ⟨b, rfl⟩ | ⟨b, rfl⟩
    · exact .inr ⟨a + b, (turn_turn (by rw [mir_len]; exact h) a b).symm⟩
    · exact .inl ⟨-a + b, by rw [mir_turn (by rw [mir_len]; exact h), mir_mir h, turn_turn h]⟩
theorem kin_same {xs ys : List Int} (h : 0 < xs.length) (e : ys ∈ kinL xs) (z : List Int) : z ∈ kinL ys ↔ z ∈ kinL xs :=
  ⟨kin_sub h e, kin_sub (by rw [kin_len h e]; exact h) (kin_sym h e)⟩
theorem kin_self {xs : List Int} (h : 0 < xs.length) : xs ∈ kinL xs := (mem_kin h).mpr (.inl ⟨0, turn_zero xs⟩)
/-! ### how many -/
theorem nodup_range_map {α : Type} {f : Nat → α} {p : Nat} (inj : ∀ a b : Nat, a < b → b < p → f a ≠ f b) : ((List.range p).map f).Nodup := by
  rw [List.Nodup, List.pairwise_map]
  have : ∀ n, (List.range n).Pairwise fun a b => a < b := fun n => List.pairwise_lt_range
  exact (this p).imp_of_mem fun {a b} _ hb lt => inj a b lt (List.mem_range.mp hb)
theorem turns_few {xs : List Int} (h : 0 < xs.length) {p : Nat} (p0 : 0 < p) (r : Rnd xs p) (least : ∀ m : Nat, 0 < m → m < p → ¬ Rnd xs m) : ((List.range p).map fun k : Nat => turnV xs k).Nodup ∧ ∀ ys, ys ∈ (List.range p).map (fun k : Nat => turnV xs k) ↔ ∃ k : Int, turnV xs k = ys := by
  refine ⟨nodup_range_map fun a b lt hb e => ?_, fun ys => ⟨fun m => ?_, ?_⟩⟩
  · have := ((turn_eq h _ _).mp e).neg
    rw [Int.neg_sub] at this
    refine least (b - a) (by omega) (by omega) ?_
    rwa [show ((b - a : Nat) : Int) = b - a by omega]
  · obtain ⟨k, _, e⟩ := List.mem_map.mp m
    exact ⟨k, e⟩
  · rintro ⟨k, e⟩
    have c0 := Int.emod_nonneg k (show (p : Int) ≠ 0 by omega)
    have c1 := Int.emod_lt_of_pos k (show (0 : Int) < p by omega)
    refine List.mem_map.mpr ⟨(k % p).toNat, List.mem_range.mpr (by omega), ?_⟩
    rw [← e, Int.toNat_of_nonneg c0]
    refine (turn_eq h _ _).mpr ?_
    have := (r.mod p0 k).neg
    rwa [Int.neg_sub] at this
theorem len_of_mem {α : Type} {a b : List α} (ha : a.Nodup) (hb : b.Nodup) (h : ∀ x, x ∈ a ↔ x ∈ b) : a.length = b.length := ((List.perm_ext_iff_of_nodup ha hb).mpr h).length_eq
/-- as many kin as the period has beats, or twice as many -/
theorem kin_many {xs : List Int} (h : 0 < xs.length) {out : List (List Int)} (nd : out.Nodup) (m : ∀ x, x ∈ out ↔ x ∈ kinL xs) : 2 * xs.length % out.length = 0 := by
  obtain ⟨p, p0, r, least, dv⟩ := period xs h
  have hm : 0 < (mir xs).length := by rw [mir_len]; exact h
  obtain ⟨n1, m1⟩ := turns_few h p0 r least
  obtain ⟨n2, m2⟩ := turns_few hm p0 ((rnd_mir h _).mpr r) fun k k0 kp z => least k k0 kp ((rnd_mir h _).mp z)
  by_cases z : ∃ k : Int, turnV xs k = mir xs
  · have e : out.length = p := by
      have := len_of_mem nd n1 fun x => by
        rw [m, mem_kin h, m1]
        refine ⟨fun y => y.elim id ?_, .inl⟩
        rintro ⟨k, rfl⟩
        obtain ⟨j, hj⟩ := z
        exact ⟨j + k, by rw [← turn_turn h, hj]⟩
      rwa [List.length_map, List.length_range] at this
    rw [e, Nat.mul_mod, dv, Nat.mul_zero, Nat.zero_mod]
  · have nd2 : ((List.range p).map (fun k : Nat => turnV xs k) ++ (List.range p).map (fun k : Nat => turnV (mir xs) k)).Nodup := by
      rw [List.nodup_append]
      refine ⟨n1, n2, fun a ha b hb e => ?_⟩
      subst e
      obtain ⟨k, hk⟩ := (m1 a).mp ha
      obtain ⟨j, hj⟩ := (m2 a).mp hb
      refine z ⟨k + -j, ?_⟩
      rw [← turn_turn h, hk, ← hj, turn_turn hm, Int.add_right_neg, turn_zero]
    have e : out.length = 2 * p := by
      have := len_of_mem nd nd2 fun x => by rw [m, mem_kin h, List.mem_append, m1, m2]
      rw [List.length_append, List.length_map, List.length_map, List.length_range] at this
      omega
    rw [e, Nat.mul_mod_mul_left, dv, Nat.mul_zero]
/-! ### the first of them -/
theorem perm_sorted {α : Type} {r : α → Int} : ∀ {a b : List α}, a.Nodup → b.Nodup → (∀ x, x ∈ a ↔ x ∈ b) → (∀ x ∈ a, ∀ y ∈ a, r x = r y → x = y) → a.Pairwise (fun x y => r x ≤ r y) → b.Pairwise (fun x y => r x ≤ r y) → a = b
  | [], [], _, _, _, _, _, _ => rfl
  | [], y :: b, _, _, h, _, _, _ => absurd ((h y).mpr List.mem_cons_self) List.not_mem_nil
  | x :: a, [], _, _, h, _, _, _ => absurd ((h x).mp List.mem_cons_self) List.not_mem_nil
  | x :: a, y :: b, na, nb, h, inj, pa, pb => by
    have na' := List.nodup_cons.mp na
    have nb' := List.nodup_cons.mp nb
    have pa' := List.pairwise_cons.mp pa
    have pb' := List.pairwise_cons.mp pb
    have e : x = y := by
      by_cases c : x = y
      · exact c
      · have hx : x ∈ b := (List.mem_cons.mp ((h x).mp List.mem_cons_self)).resolve_left c
        have hy : y ∈ a := (List.mem_cons.mp ((h y).mpr List.mem_cons_self)).resolve_left (Ne.symm c)
        have l1 := pa'.1 y hy
        have l2 := pb'.1 x hx
        exact inj x List.mem_cons_self y (List.mem_cons_of_mem _ hy) (by omega)
    subst e
    congr 1
    refine perm_sorted na'.2 nb'.2 (fun z => ?_) (fun u hu v hv => inj u (List.mem_cons_of_mem _ hu) v (List.mem_cons_of_mem _ hv)) pa'.2 pb'.2
    constructor
    · intro hz
      exact (List.mem_cons.mp ((h z).mp (List.mem_cons_of_mem _ hz))).resolve_left fun c => na'.1 (c ▸ hz)
    · intro hz
      exact (List.mem_cons.mp ((h z).mpr (List.mem_cons_of_mem _ hz))).resolve_left fun c => nb'.1 (c ▸ hz)
end Pm

set_option Elab.async false
set_option linter.all false
set_option maxRecDepth 100000
namespace U32
open PySem PySem.Spec PyProof.Rows L2 Gd
def topS (i : Nat) : Stmt := PySem.Challenge.pw_silentbeats_k32_whole_kin_by_all_turns.main.body.getD i (.Pass ⟨0, 0, 0, 0⟩)
abbrev s_need : Stmt := topS 5
abbrev N_need : List Str := ["fits", "word"]
theorem sc_need : FnScope N_need ["fits", "word"] (defScope s_need) := ⟨rfl, rfl, rfl, by decide +kernel, rfl, by decide +kernel, by decide +kernel⟩
abbrev s_is_integer : Stmt := topS 7
abbrev N_is_integer : List Str := ["thing"]
theorem sc_is_integer : FnScope N_is_integer ["thing"] (defScope s_is_integer) := ⟨rfl, rfl, rfl, by decide +kernel, rfl, by decide +kernel, by decide +kernel⟩
abbrev s_are_integers : Stmt := topS 8
abbrev N_are_integers : List Str := ["thing", "each"]
theorem sc_are_integers : FnScope N_are_integers ["thing"] (defScope s_are_integers) := ⟨rfl, rfl, rfl, by decide +kernel, rfl, by decide +kernel, by decide +kernel⟩
abbrev s_is_voice : Stmt := topS 9
abbrev N_is_voice : List Str := ["thing"]
theorem sc_is_voice : FnScope N_is_voice ["thing"] (defScope s_is_voice) := ⟨rfl, rfl, rfl, by decide +kernel, rfl, by decide +kernel, by decide +kernel⟩
abbrev s_is_voice_of : Stmt := topS 10
abbrev N_is_voice_of : List Str := ["size", "thing"]
theorem sc_is_voice_of : FnScope N_is_voice_of ["size", "thing"] (defScope s_is_voice_of) := ⟨rfl, rfl, rfl, by decide +kernel, rfl, by decide +kernel, by decide +kernel⟩
abbrev s_product_of : Stmt := topS 12
abbrev N_product_of : List Str := ["one", "other", "size", "weights", "j", "weight", "k", "_", "beat"]
theorem sc_product_of : FnScope N_product_of ["one", "other"] (defScope s_product_of) := ⟨rfl, rfl, rfl, by decide +kernel, rfl, by decide +kernel, by decide +kernel⟩
abbrev s_turned : Stmt := topS 13
abbrev N_turned : List Str := ["voice", "k", "size", "beat"]
theorem sc_turned : FnScope N_turned ["voice", "k"] (defScope s_turned) := ⟨rfl, rfl, rfl, by decide +kernel, rfl, by decide +kernel, by decide +kernel⟩
abbrev s_mirrored : Stmt := topS 14
abbrev N_mirrored : List Str := ["voice", "size", "beat"]
theorem sc_mirrored : FnScope N_mirrored ["voice"] (defScope s_mirrored) := ⟨rfl, rfl, rfl, by decide +kernel, rfl, by decide +kernel, by decide +kernel⟩
abbrev s_turns_of : Stmt := topS 16
abbrev N_turns_of : List Str := ["voice", "k"]
theorem sc_turns_of : FnScope N_turns_of ["voice"] (defScope s_turns_of) := ⟨rfl, rfl, rfl, by decide +kernel, rfl, by decide +kernel, by decide +kernel⟩
abbrev s_kin_of : Stmt := topS 17
abbrev N_kin_of : List Str := ["voice"]
theorem sc_kin_of : FnScope N_kin_of ["voice"] (defScope s_kin_of) := ⟨rfl, rfl, rfl, by decide +kernel, rfl, by decide +kernel, by decide +kernel⟩
abbrev s_least_kin : Stmt := topS 18
abbrev N_least_kin : List Str := ["voice"]
theorem sc_least_kin : FnScope N_least_kin ["voice"] (defScope s_least_kin) := ⟨rfl, rfl, rfl, by decide +kernel, rfl, by decide +kernel, by decide +kernel⟩
abbrev s_kin_count : Stmt := topS 19
abbrev N_kin_count : List Str := ["voice"]
theorem sc_kin_count : FnScope N_kin_count ["voice"] (defScope s_kin_count) := ⟨rfl, rfl, rfl, by decide +kernel, rfl, by decide +kernel, by decide +kernel⟩
abbrev s_kin_step : Stmt := topS 20
abbrev N_kin_step : List Str := ["one", "other", "word", "turns"]
theorem sc_kin_step : FnScope N_kin_step ["one", "other"] (defScope s_kin_step) := ⟨rfl, rfl, rfl, by decide +kernel, rfl, by decide +kernel, by decide +kernel⟩
abbrev s_echo_of : Stmt := topS 22
abbrev N_echo_of : List Str := ["voice"]
theorem sc_echo_of : FnScope N_echo_of ["voice"] (defScope s_echo_of) := ⟨rfl, rfl, rfl, by decide +kernel, rfl, by decide +kernel, by decide +kernel⟩
abbrev s_same_echo : Stmt := topS 23
abbrev N_same_echo : List Str := ["one", "other"]
theorem sc_same_echo : FnScope N_same_echo ["one", "other"] (defScope s_same_echo) := ⟨rfl, rfl, rfl, by decide +kernel, rfl, by decide +kernel, by decide +kernel⟩
abbrev s__law_feed : Stmt := topS 25
abbrev N__law_feed : List Str := ["_law_script"]
theorem sc__law_feed : FnScope N__law_feed ["_law_script"] (defScope s__law_feed) := ⟨rfl, rfl, rfl, by decide +kernel, rfl, by decide +kernel, by decide +kernel⟩
abbrev s__law_draw : Stmt := topS 26
abbrev N__law_draw : List Str := ["_law_feed_here", "_law_bound", "_law_spot", "_law_cell", "_law_blend", "_law_digit"]
theorem sc__law_draw : FnScope N__law_draw ["_law_feed_here", "_law_bound"] (defScope s__law_draw) := ⟨rfl, rfl, rfl, by decide +kernel, rfl, by decide +kernel, by decide +kernel⟩
abbrev s__law_mirror : Stmt := topS 27
abbrev N__law_mirror : List Str := ["_law_voice_here", "_law_wide", "_law_j"]
theorem sc__law_mirror : FnScope N__law_mirror ["_law_voice_here"] (defScope s__law_mirror) := ⟨rfl, rfl, rfl, by decide +kernel, rfl, by decide +kernel, by decide +kernel⟩
abbrev s__law_turn : Stmt := topS 28
abbrev N__law_turn : List Str := ["_law_voice_here", "_law_k", "_law_wide", "_law_j"]
theorem sc__law_turn : FnScope N__law_turn ["_law_voice_here", "_law_k"] (defScope s__law_turn) := ⟨rfl, rfl, rfl, by decide +kernel, rfl, by decide +kernel, by decide +kernel⟩
abbrev s__law_product : Stmt := topS 29
abbrev N__law_product : List Str := ["_law_one", "_law_other", "_law_i", "_law_wide", "_law_found", "_law_j", "_law_weight", "_law_spot"]
theorem sc__law_product : FnScope N__law_product ["_law_one", "_law_other"] (defScope s__law_product) := ⟨rfl, rfl, rfl, by decide +kernel, rfl, by decide +kernel, by decide +kernel⟩
abbrev s__law_cross : Stmt := topS 30
abbrev N__law_cross : List Str := ["_law_one", "_law_other", "_law_wide", "_law_k", "_law_j"]
theorem sc__law_cross : FnScope N__law_cross ["_law_one", "_law_other"] (defScope s__law_cross) := ⟨rfl, rfl, rfl, by decide +kernel, rfl, by decide +kernel, by decide +kernel⟩
abbrev s__law_voice : Stmt := topS 31
abbrev N__law_voice : List Str := ["_law_feed_here", "_law_wide", "_law_way", "_law_steps", "_law_step_here", "_law_some", "_law_k", "_law_beat"]
theorem sc__law_voice : FnScope N__law_voice ["_law_feed_here", "_law_wide", "_law_way"] (defScope s__law_voice) := ⟨rfl, rfl, rfl, by decide +kernel, rfl, by decide +kernel, by decide +kernel⟩
abbrev s__law_kin : Stmt := topS 32
abbrev N__law_kin : List Str := ["_law_voice_here", "_law_late", "_law_found", "_law_k"]
theorem sc__law_kin : FnScope N__law_kin ["_law_voice_here"] (defScope s__law_kin) := ⟨rfl, rfl, rfl, by decide +kernel, rfl, by decide +kernel, by decide +kernel⟩
abbrev s__law_step : Stmt := topS 33
abbrev N__law_step : List Str := ["_law_one", "_law_other", "_law_late", "_law_k"]
theorem sc__law_step : FnScope N__law_step ["_law_one", "_law_other"] (defScope s__law_step) := ⟨rfl, rfl, rfl, by decide +kernel, rfl, by decide +kernel, by decide +kernel⟩
abbrev s__law_near : Stmt := topS 34
abbrev N__law_near : List Str := ["_law_feed_here", "_law_one", "_law_found", "_law_way", "_law_wide", "_law_spot", "_law_far"]
theorem sc__law_near : FnScope N__law_near ["_law_feed_here", "_law_one"] (defScope s__law_near) := ⟨rfl, rfl, rfl, by decide +kernel, rfl, by decide +kernel, by decide +kernel⟩
abbrev s__law_is_told : Stmt := topS 35
abbrev N__law_is_told : List Str := ["_law_one", "_law_other", "_law_told", "_law_back", "_law_kin_here", "_law_step_here"]
theorem sc__law_is_told : FnScope N__law_is_told ["_law_one", "_law_other"] (defScope s__law_is_told) := ⟨rfl, rfl, rfl, by decide +kernel, rfl, by decide +kernel, by decide +kernel⟩
abbrev s_law : Stmt := topS 36
abbrev N_law : List Str := ["_law_script", "_law_feed_here", "_law_lap", "_law_one"]
theorem sc_law : FnScope N_law ["_law_script"] (defScope s_law) := ⟨rfl, rfl, rfl, by decide +kernel, rfl, by decide +kernel, by decide +kernel⟩
end U32

set_option Elab.async false
set_option linter.all false
set_option maxRecDepth 100000
set_option maxHeartbeats 4000000
namespace U32
open PySem PySem.Spec PyProof.Rows L2 Gd RZ Pu Pv Pm
section
variable {P : Program} {w : World} {K : PySem.W.Frag} {mg : Str → Option Value} {base : Heap}
def sd_need : SpD := fun ds k => ∃ z, ds = [.bl true, z] ∧ k .non
theorem c_need (D : At K mg "need" s_need ["fits", "word"]) : CalG P w K mg base 1 "need" ["fits", "word"] (spP K 2 sd_need) := by
  have nd := sc_need.nd
  apply okP (F := Fd0) D sc_need (by decide)
  case body =>
    intro f cdv A outer s H E hr hG
    have hu64 := hr.units
    exact (qss_one (qs_if (qt_not (qt_val (qv 0)))
 (qss_one qs_never)
 qss_nil))
  case go =>
    intro ds k hl h
    obtain ⟨z, rfl, h⟩ := h
    try simp only [↓r_V, ↓r_C, ↓r_Op, ↓r_B, ↓r_Chain, ↓r_And, ↓r_Or, ↓r_Not, ↓r_AndV, ↓r_OrV, ↓r_NotV, ↓r_If, ↓r_Un, ↓r_Add, ↓r_I, ↓r_I0, ↓r_Mul, ↓r_Eq, ↓r_Is, ↓r_Nil, ↓r_Cons, ↓r_Tup, ↓r_N, ↓r_CatN, ↓r_RepN, ↓r_No, ↓r_So, ↓r_Sl, ↓r_One, ↓r_Len, ↓r_Int1, ↓r_Int, ↓r_Sum, ↓r_Max, ↓r_All, ↓r_Min2, ↓r_Isi, ↓r_Repr, ↓r_TupOf, ↓r_LstOf, ↓r_Rd, ↓r_Rn, ↓r_Nm, ↓r_Gnil, ↓r_Gcons, ↓r_Gtup, ↓r_Glst, ↓r_Next, ↓r_Seq, ↓r_Cut, ↓r_Never, ↓r_Brk, ↓r_Cnt, ↓r_Drop, ↓r_Ret, ↓r_RetN, ↓r_IfS, ↓r_Set, ↓r_Asg, ↓r_Aug, ↓r_App, ↓r_Par, ↓r_Par3, ↓r_SeqI, ↓r_Rg1, ↓r_Rg2, ↓r_EnT, ↓r_For, ↓r_While, ↓r_Yes, ↓r_Lc, ↓r_Call, ↓r_CallF, ↓r_EqA, ↓r_asD, ↓r_seqOf, ↓r_dataOf, ↓r_isOw, ↓r_Ix, ↓r_Sub, ixx_some, at_0, at_1, at_2, at_3, at_4, ix_40, ix_41, ix_42, ix_43, RV.sl, b2n, Pu.isNon, notRaw, endP, endF, endL, slots0, wipeE, wipeL, List.map_cons, List.map_nil, List.length_cons, List.length_nil, decide_eq_true_eq, decide_true, decide_false, List.cons_append, List.nil_append, List.append_nil, List.replicate_succ, List.replicate_zero, List.getElem?_cons_zero, List.getElem?_cons_succ, List.set_cons_zero, List.set_cons_succ, Option.isSome_some, ite_true, ite_false, Bool.false_eq_true, true_and, and_true, if_true, if_false, Nat.reduceSub, Nat.reduceAdd, Nat.reduceLT, Bool.not_true, Bool.not_false, reduceIte, eq_self, okC_int, okC_bl, okC_lnil, eqD_lnil, okC_tI, okC_lI, eqD_int, eqD_bl, eqD_tups, eqD_lsts, isTy_int_int, isTy_int_bool, isTy_int_tuple, isTy_tup_tuple, isTy_tup_int, isTy_str_str, isTy_bl_int, isTy_bl_bool, List.length_map, List.length_range, ↓r_Rg3, ↓r_St, ↓r_Dc, ↓r_Dg, ↓r_In, ↓r_IxN, ↓r_Ss, ↓r_IsB]
    exact h
def sd_is_integer : SpD := fun ds k => ∃ i, ds = [.int i] ∧ k (.bl true)
theorem c_is_integer (D : At K mg "is_integer" s_is_integer ["thing"]) (z_bool : mg "bool" = none) (z_int : mg "int" = none) (z_isinstance : mg "isinstance" = none) : CalG P w K mg base 1 "is_integer" ["thing"] (spP K 1 sd_is_integer) := by
  have nd := sc_is_integer.nd
  apply okP (F := Fd0) D sc_is_integer (by decide)
  case body =>
    intro f cdv A outer s H E hr hG
    have hu64 := hr.units
    exact (qss_one (qs_ret (q_and (q_b2 (fun p q => pe_callB call_isi (by rfl) z_isinstance (by decide +kernel) (pa_cons p (pa_cons q pa_nil))) l_isi (qv 0) (q_bltn (by rfl) z_int (by decide +kernel) (v := .ty "int") rfl)) (q_one (q_not (q_b2 (fun p q => pe_callB call_isi (by rfl) z_isinstance (by decide +kernel) (pa_cons p (pa_cons q pa_nil))) l_isi (qv 0) (q_bltn (by rfl) z_bool (by decide +kernel) (v := .ty "bool") rfl)))))))
  case go =>
    intro ds k hl h
    obtain ⟨z, rfl, h⟩ := h
    try simp only [↓r_V, ↓r_C, ↓r_Op, ↓r_B, ↓r_Chain, ↓r_And, ↓r_Or, ↓r_Not, ↓r_AndV, ↓r_OrV, ↓r_NotV, ↓r_If, ↓r_Un, ↓r_Add, ↓r_I, ↓r_I0, ↓r_Mul, ↓r_Eq, ↓r_Is, ↓r_Nil, ↓r_Cons, ↓r_Tup, ↓r_N, ↓r_CatN, ↓r_RepN, ↓r_No, ↓r_So, ↓r_Sl, ↓r_One, ↓r_Len, ↓r_Int1, ↓r_Int, ↓r_Sum, ↓r_Max, ↓r_All, ↓r_Min2, ↓r_Isi, ↓r_Repr, ↓r_TupOf, ↓r_LstOf, ↓r_Rd, ↓r_Rn, ↓r_Nm, ↓r_Gnil, ↓r_Gcons, ↓r_Gtup, ↓r_Glst, ↓r_Next, ↓r_Seq, ↓r_Cut, ↓r_Never, ↓r_Brk, ↓r_Cnt, ↓r_Drop, ↓r_Ret, ↓r_RetN, ↓r_IfS, ↓r_Set, ↓r_Asg, ↓r_Aug, ↓r_App, ↓r_Par, ↓r_Par3, ↓r_SeqI, ↓r_Rg1, ↓r_Rg2, ↓r_EnT, ↓r_For, ↓r_While, ↓r_Yes, ↓r_Lc, ↓r_Call, ↓r_CallF, ↓r_EqA, ↓r_asD, ↓r_seqOf, ↓r_dataOf, ↓r_isOw, ↓r_Ix, ↓r_Sub, ixx_some, at_0, at_1, at_2, at_3, at_4, ix_40, ix_41, ix_42, ix_43, RV.sl, b2n, Pu.isNon, notRaw, endP, endF, endL, slots0, wipeE, wipeL, List.map_cons, List.map_nil, List.length_cons, List.length_nil, decide_eq_true_eq, decide_true, decide_false, List.cons_append, List.nil_append, List.append_nil, List.replicate_succ, List.replicate_zero, List.getElem?_cons_zero, List.getElem?_cons_succ, List.set_cons_zero, List.set_cons_succ, Option.isSome_some, ite_true, ite_false, Bool.false_eq_true, true_and, and_true, if_true, if_false, Nat.reduceSub, Nat.reduceAdd, Nat.reduceLT, Bool.not_true, Bool.not_false, reduceIte, eq_self, okC_int, okC_bl, okC_lnil, eqD_lnil, okC_tI, okC_lI, eqD_int, eqD_bl, eqD_tups, eqD_lsts, isTy_int_int, isTy_int_bool, isTy_int_tuple, isTy_tup_tuple, isTy_tup_int, isTy_str_str, isTy_bl_int, isTy_bl_bool, List.length_map, List.length_range, ↓r_Rg3, ↓r_St, ↓r_Dc, ↓r_Dg, ↓r_In, ↓r_IxN, ↓r_Ss, ↓r_IsB]
    exact h
def sd_are_integers : SpD := fun ds k => ∃ ns : List Int, ds = [tI ns] ∧ ns.length ≤ 1000 ∧ k (.bl true)
theorem c_are_integers (D : At K mg "are_integers" s_are_integers ["thing"]) (c_is_integer : CalG P w K mg base 1 "is_integer" ["thing"] (spP K 1 sd_is_integer)) (z_all : mg "all" = none) (z_isinstance : mg "isinstance" = none) (z_tuple : mg "tuple" = none) : CalG P w K mg base 2 "are_integers" ["thing"] (spP K 1 sd_are_integers) := by
  have nd := sc_are_integers.nd
  apply okP (F := Fd0) D sc_are_integers (by decide)
  case body =>
    intro f cdv A outer s H E hr hG
    have hu64 := hr.units
    exact (qss_one (qs_ret (q_and (q_b2 (fun p q => pe_callB call_isi (by rfl) z_isinstance (by decide +kernel) (pa_cons p (pa_cons q pa_nil))) l_isi (qv 0) (q_bltn (by rfl) z_tuple (by decide +kernel) (v := .ty "tuple") rfl)) (q_one (q_b1 (fun p => pe_callB (cr_all rfl) (by rfl) z_all (by decide +kernel) (pa_cons p pa_nil)) l_all (q_n (qn_lc (own := [("each", 1)]) rfl nd (qi_seq (qv 0)) (blkOk_by (N := N_are_integers) (sc := defScope s_are_integers) (by decide +kernel)) (fun _ _ _ _ _ => (qg_name (i := 1) nd rfl (Or.inl rfl))) (fun _ _ _ _ _ => qts_nil) (fun _ _ _ _ _ => (q_call c_is_integer hr hG (by decide) (by rfl) (qa_cons (qv 1) qa_nil) rfl)))))))))
  case go =>
    intro ds k hl h
    obtain ⟨ns, rfl, hn, h⟩ := h
    try simp only [↓r_V, ↓r_C, ↓r_Op, ↓r_B, ↓r_Chain, ↓r_And, ↓r_Or, ↓r_Not, ↓r_AndV, ↓r_OrV, ↓r_NotV, ↓r_If, ↓r_Un, ↓r_Add, ↓r_I, ↓r_I0, ↓r_Mul, ↓r_Eq, ↓r_Is, ↓r_Nil, ↓r_Cons, ↓r_Tup, ↓r_N, ↓r_CatN, ↓r_RepN, ↓r_No, ↓r_So, ↓r_Sl, ↓r_One, ↓r_Len, ↓r_Int1, ↓r_Int, ↓r_Sum, ↓r_Max, ↓r_All, ↓r_Min2, ↓r_Isi, ↓r_Repr, ↓r_TupOf, ↓r_LstOf, ↓r_Rd, ↓r_Rn, ↓r_Nm, ↓r_Gnil, ↓r_Gcons, ↓r_Gtup, ↓r_Glst, ↓r_Next, ↓r_Seq, ↓r_Cut, ↓r_Never, ↓r_Brk, ↓r_Cnt, ↓r_Drop, ↓r_Ret, ↓r_RetN, ↓r_IfS, ↓r_Set, ↓r_Asg, ↓r_Aug, ↓r_App, ↓r_Par, ↓r_Par3, ↓r_SeqI, ↓r_Rg1, ↓r_Rg2, ↓r_EnT, ↓r_For, ↓r_While, ↓r_Yes, ↓r_Lc, ↓r_Call, ↓r_CallF, ↓r_EqA, ↓r_asD, ↓r_seqOf, ↓r_dataOf, ↓r_isOw, ↓r_Ix, ↓r_Sub, ixx_some, at_0, at_1, at_2, at_3, at_4, ix_40, ix_41, ix_42, ix_43, RV.sl, b2n, Pu.isNon, notRaw, endP, endF, endL, slots0, wipeE, wipeL, List.map_cons, List.map_nil, List.length_cons, List.length_nil, decide_eq_true_eq, decide_true, decide_false, List.cons_append, List.nil_append, List.append_nil, List.replicate_succ, List.replicate_zero, List.getElem?_cons_zero, List.getElem?_cons_succ, List.set_cons_zero, List.set_cons_succ, Option.isSome_some, ite_true, ite_false, Bool.false_eq_true, true_and, and_true, if_true, if_false, Nat.reduceSub, Nat.reduceAdd, Nat.reduceLT, Bool.not_true, Bool.not_false, reduceIte, eq_self, okC_int, okC_bl, okC_lnil, eqD_lnil, okC_tI, okC_lI, eqD_int, eqD_bl, eqD_tups, eqD_lsts, isTy_int_int, isTy_int_bool, isTy_int_tuple, isTy_tup_tuple, isTy_tup_int, isTy_str_str, isTy_bl_int, isTy_bl_bool, List.length_map, List.length_range, ↓r_Rg3, ↓r_St, ↓r_Dc, ↓r_Dg, ↓r_In, ↓r_IxN, ↓r_Ss, ↓r_IsB, ↓sd_is_integer]
    refine lc_xs (fun _ => .bl true) (by omega) (fun x hx Inv i acc h => ?_) ?_
    · try simp only [↓r_V, ↓r_C, ↓r_Op, ↓r_B, ↓r_Chain, ↓r_And, ↓r_Or, ↓r_Not, ↓r_AndV, ↓r_OrV, ↓r_NotV, ↓r_If, ↓r_Un, ↓r_Add, ↓r_I, ↓r_I0, ↓r_Mul, ↓r_Eq, ↓r_Is, ↓r_Nil, ↓r_Cons, ↓r_Tup, ↓r_N, ↓r_CatN, ↓r_RepN, ↓r_No, ↓r_So, ↓r_Sl, ↓r_One, ↓r_Len, ↓r_Int1, ↓r_Int, ↓r_Sum, ↓r_Max, ↓r_All, ↓r_Min2, ↓r_Isi, ↓r_Repr, ↓r_TupOf, ↓r_LstOf, ↓r_Rd, ↓r_Rn, ↓r_Nm, ↓r_Gnil, ↓r_Gcons, ↓r_Gtup, ↓r_Glst, ↓r_Next, ↓r_Seq, ↓r_Cut, ↓r_Never, ↓r_Brk, ↓r_Cnt, ↓r_Drop, ↓r_Ret, ↓r_RetN, ↓r_IfS, ↓r_Set, ↓r_Asg, ↓r_Aug, ↓r_App, ↓r_Par, ↓r_Par3, ↓r_SeqI, ↓r_Rg1, ↓r_Rg2, ↓r_EnT, ↓r_For, ↓r_While, ↓r_Yes, ↓r_Lc, ↓r_Call, ↓r_CallF, ↓r_EqA, ↓r_asD, ↓r_seqOf, ↓r_dataOf, ↓r_isOw, ↓r_Ix, ↓r_Sub, ixx_some, at_0, at_1, at_2, at_3, at_4, ix_40, ix_41, ix_42, ix_43, RV.sl, b2n, Pu.isNon, notRaw, endP, endF, endL, slots0, wipeE, wipeL, List.map_cons, List.map_nil, List.length_cons, List.length_nil, decide_eq_true_eq, decide_true, decide_false, List.cons_append, List.nil_append, List.append_nil, List.replicate_succ, List.replicate_zero, List.getElem?_cons_zero, List.getElem?_cons_succ, List.set_cons_zero, List.set_cons_succ, Option.isSome_some, ite_true, ite_false, Bool.false_eq_true, true_and, and_true, if_true, if_false, Nat.reduceSub, Nat.reduceAdd, Nat.reduceLT, Bool.not_true, Bool.not_false, reduceIte, eq_self, okC_int, okC_bl, okC_lnil, eqD_lnil, okC_tI, okC_lI, eqD_int, eqD_bl, eqD_tups, eqD_lsts, isTy_int_int, isTy_int_bool, isTy_int_tuple, isTy_tup_tuple, isTy_tup_int, isTy_str_str, isTy_bl_int, isTy_bl_bool, List.length_map, List.length_range, ↓r_Rg3, ↓r_St, ↓r_Dc, ↓r_Dg, ↓r_In, ↓r_IxN, ↓r_Ss, ↓r_IsB, sd_is_integer, ↓sd_is_integer]
      exact ⟨x, rfl, h⟩
    · try simp only [↓r_V, ↓r_C, ↓r_Op, ↓r_B, ↓r_Chain, ↓r_And, ↓r_Or, ↓r_Not, ↓r_AndV, ↓r_OrV, ↓r_NotV, ↓r_If, ↓r_Un, ↓r_Add, ↓r_I, ↓r_I0, ↓r_Mul, ↓r_Eq, ↓r_Is, ↓r_Nil, ↓r_Cons, ↓r_Tup, ↓r_N, ↓r_CatN, ↓r_RepN, ↓r_No, ↓r_So, ↓r_Sl, ↓r_One, ↓r_Len, ↓r_Int1, ↓r_Int, ↓r_Sum, ↓r_Max, ↓r_All, ↓r_Min2, ↓r_Isi, ↓r_Repr, ↓r_TupOf, ↓r_LstOf, ↓r_Rd, ↓r_Rn, ↓r_Nm, ↓r_Gnil, ↓r_Gcons, ↓r_Gtup, ↓r_Glst, ↓r_Next, ↓r_Seq, ↓r_Cut, ↓r_Never, ↓r_Brk, ↓r_Cnt, ↓r_Drop, ↓r_Ret, ↓r_RetN, ↓r_IfS, ↓r_Set, ↓r_Asg, ↓r_Aug, ↓r_App, ↓r_Par, ↓r_Par3, ↓r_SeqI, ↓r_Rg1, ↓r_Rg2, ↓r_EnT, ↓r_For, ↓r_While, ↓r_Yes, ↓r_Lc, ↓r_Call, ↓r_CallF, ↓r_EqA, ↓r_asD, ↓r_seqOf, ↓r_dataOf, ↓r_isOw, ↓r_Ix, ↓r_Sub, ixx_some, at_0, at_1, at_2, at_3, at_4, ix_40, ix_41, ix_42, ix_43, RV.sl, b2n, Pu.isNon, notRaw, endP, endF, endL, slots0, wipeE, wipeL, List.map_cons, List.map_nil, List.length_cons, List.length_nil, decide_eq_true_eq, decide_true, decide_false, List.cons_append, List.nil_append, List.append_nil, List.replicate_succ, List.replicate_zero, List.getElem?_cons_zero, List.getElem?_cons_succ, List.set_cons_zero, List.set_cons_succ, Option.isSome_some, ite_true, ite_false, Bool.false_eq_true, true_and, and_true, if_true, if_false, Nat.reduceSub, Nat.reduceAdd, Nat.reduceLT, Bool.not_true, Bool.not_false, reduceIte, eq_self, okC_int, okC_bl, okC_lnil, eqD_lnil, okC_tI, okC_lI, eqD_int, eqD_bl, eqD_tups, eqD_lsts, isTy_int_int, isTy_int_bool, isTy_int_tuple, isTy_tup_tuple, isTy_tup_int, isTy_str_str, isTy_bl_int, isTy_bl_bool, List.length_map, List.length_range, ↓r_Rg3, ↓r_St, ↓r_Dc, ↓r_Dg, ↓r_In, ↓r_IxN, ↓r_Ss, ↓r_IsB, ↓sd_is_integer]
      refine ⟨List.replicate ns.length true, ?_, ?_⟩
      · rw [List.map_replicate, List.map_const']
      · rw [List.all_replicate]
        simpa using h
def sd_is_voice : SpD := fun ds k => ∃ ns : List Int, ds = [tI ns] ∧ 0 < ns.length ∧ ns.length ≤ 1000 ∧ k (.bl true)
theorem c_is_voice (D : At K mg "is_voice" s_is_voice ["thing"]) (c_are_integers : CalG P w K mg base 2 "are_integers" ["thing"] (spP K 1 sd_are_integers)) (z_len : mg "len" = none) : CalG P w K mg base 3 "is_voice" ["thing"] (spP K 1 sd_is_voice) := by
  have nd := sc_is_voice.nd
  apply okP (F := Fd0) D sc_is_voice (by decide)
  case body =>
    intro f cdv A outer s H E hr hG
    have hu64 := hr.units
    exact (qss_one (qs_ret (q_and (q_call c_are_integers hr hG (by decide) (by rfl) (qa_cons (qv 0) qa_nil) rfl) (q_one (q_cmp op_gt l_gt (q_b1 (fun p => pe_callB call_len (by rfl) z_len PySem.boot_len (pa_cons p pa_nil)) l_len (qv 0)) q_int (nomark _))))))
  case go =>
    intro ds k hl h
    obtain ⟨ns, rfl, h0, hn, h⟩ := h
    try simp only [↓r_V, ↓r_C, ↓r_Op, ↓r_B, ↓r_Chain, ↓r_And, ↓r_Or, ↓r_Not, ↓r_AndV, ↓r_OrV, ↓r_NotV, ↓r_If, ↓r_Un, ↓r_Add, ↓r_I, ↓r_I0, ↓r_Mul, ↓r_Eq, ↓r_Is, ↓r_Nil, ↓r_Cons, ↓r_Tup, ↓r_N, ↓r_CatN, ↓r_RepN, ↓r_No, ↓r_So, ↓r_Sl, ↓r_One, ↓r_Len, ↓r_Int1, ↓r_Int, ↓r_Sum, ↓r_Max, ↓r_All, ↓r_Min2, ↓r_Isi, ↓r_Repr, ↓r_TupOf, ↓r_LstOf, ↓r_Rd, ↓r_Rn, ↓r_Nm, ↓r_Gnil, ↓r_Gcons, ↓r_Gtup, ↓r_Glst, ↓r_Next, ↓r_Seq, ↓r_Cut, ↓r_Never, ↓r_Brk, ↓r_Cnt, ↓r_Drop, ↓r_Ret, ↓r_RetN, ↓r_IfS, ↓r_Set, ↓r_Asg, ↓r_Aug, ↓r_App, ↓r_Par, ↓r_Par3, ↓r_SeqI, ↓r_Rg1, ↓r_Rg2, ↓r_EnT, ↓r_For, ↓r_While, ↓r_Yes, ↓r_Lc, ↓r_Call, ↓r_CallF, ↓r_EqA, ↓r_asD, ↓r_seqOf, ↓r_dataOf, ↓r_isOw, ↓r_Ix, ↓r_Sub, ixx_some, at_0, at_1, at_2, at_3, at_4, ix_40, ix_41, ix_42, ix_43, RV.sl, b2n, Pu.isNon, notRaw, endP, endF, endL, slots0, wipeE, wipeL, List.map_cons, List.map_nil, List.length_cons, List.length_nil, decide_eq_true_eq, decide_true, decide_false, List.cons_append, List.nil_append, List.append_nil, List.replicate_succ, List.replicate_zero, List.getElem?_cons_zero, List.getElem?_cons_succ, List.set_cons_zero, List.set_cons_succ, Option.isSome_some, ite_true, ite_false, Bool.false_eq_true, true_and, and_true, if_true, if_false, Nat.reduceSub, Nat.reduceAdd, Nat.reduceLT, Bool.not_true, Bool.not_false, reduceIte, eq_self, okC_int, okC_bl, okC_lnil, eqD_lnil, okC_tI, okC_lI, eqD_int, eqD_bl, eqD_tups, eqD_lsts, isTy_int_int, isTy_int_bool, isTy_int_tuple, isTy_tup_tuple, isTy_tup_int, isTy_str_str, isTy_bl_int, isTy_bl_bool, List.length_map, List.length_range, ↓r_Rg3, ↓r_St, ↓r_Dc, ↓r_Dg, ↓r_In, ↓r_IxN, ↓r_Ss, ↓r_IsB, sd_are_integers, ↓sd_are_integers]
    refine ⟨ns, rfl, hn, ?_⟩
    try simp only [↓r_V, ↓r_C, ↓r_Op, ↓r_B, ↓r_Chain, ↓r_And, ↓r_Or, ↓r_Not, ↓r_AndV, ↓r_OrV, ↓r_NotV, ↓r_If, ↓r_Un, ↓r_Add, ↓r_I, ↓r_I0, ↓r_Mul, ↓r_Eq, ↓r_Is, ↓r_Nil, ↓r_Cons, ↓r_Tup, ↓r_N, ↓r_CatN, ↓r_RepN, ↓r_No, ↓r_So, ↓r_Sl, ↓r_One, ↓r_Len, ↓r_Int1, ↓r_Int, ↓r_Sum, ↓r_Max, ↓r_All, ↓r_Min2, ↓r_Isi, ↓r_Repr, ↓r_TupOf, ↓r_LstOf, ↓r_Rd, ↓r_Rn, ↓r_Nm, ↓r_Gnil, ↓r_Gcons, ↓r_Gtup, ↓r_Glst, ↓r_Next, ↓r_Seq, ↓r_Cut, ↓r_Never, ↓r_Brk, ↓r_Cnt, ↓r_Drop, ↓r_Ret, ↓r_RetN, ↓r_IfS, ↓r_Set, ↓r_Asg, ↓r_Aug, ↓r_App, ↓r_Par, ↓r_Par3, ↓r_SeqI, ↓r_Rg1, ↓r_Rg2, ↓r_EnT, ↓r_For, ↓r_While, ↓r_Yes, ↓r_Lc, ↓r_Call, ↓r_CallF, ↓r_EqA, ↓r_asD, ↓r_seqOf, ↓r_dataOf, ↓r_isOw, ↓r_Ix, ↓r_Sub, ixx_some, at_0, at_1, at_2, at_3, at_4, ix_40, ix_41, ix_42, ix_43, RV.sl, b2n, Pu.isNon, notRaw, endP, endF, endL, slots0, wipeE, wipeL, List.map_cons, List.map_nil, List.length_cons, List.length_nil, decide_eq_true_eq, decide_true, decide_false, List.cons_append, List.nil_append, List.append_nil, List.replicate_succ, List.replicate_zero, List.getElem?_cons_zero, List.getElem?_cons_succ, List.set_cons_zero, List.set_cons_succ, Option.isSome_some, ite_true, ite_false, Bool.false_eq_true, true_and, and_true, if_true, if_false, Nat.reduceSub, Nat.reduceAdd, Nat.reduceLT, Bool.not_true, Bool.not_false, reduceIte, eq_self, okC_int, okC_bl, okC_lnil, eqD_lnil, okC_tI, okC_lI, eqD_int, eqD_bl, eqD_tups, eqD_lsts, isTy_int_int, isTy_int_bool, isTy_int_tuple, isTy_tup_tuple, isTy_tup_int, isTy_str_str, isTy_bl_int, isTy_bl_bool, List.length_map, List.length_range, ↓r_Rg3, ↓r_St, ↓r_Dc, ↓r_Dg, ↓r_In, ↓r_IxN, ↓r_Ss, ↓r_IsB, ↓sd_are_integers]
    rwa [decide_eq_true (by omega : (0 : Int) < (ns.length : Int))]
def sd_is_voice_of : SpD := fun ds k => ∃ ns : List Int, ds = [.int ns.length, tI ns] ∧ 0 < ns.length ∧ ns.length ≤ 1000 ∧ k (.bl true)
theorem c_is_voice_of (D : At K mg "is_voice_of" s_is_voice_of ["size", "thing"]) (c_is_voice : CalG P w K mg base 3 "is_voice" ["thing"] (spP K 1 sd_is_voice)) (z_len : mg "len" = none) : CalG P w K mg base 4 "is_voice_of" ["size", "thing"] (spP K 2 sd_is_voice_of) := by
  have nd := sc_is_voice_of.nd
  apply okP (F := Fd0) D sc_is_voice_of (by decide)
  case body =>
    intro f cdv A outer s H E hr hG
    have hu64 := hr.units
    exact (qss_one (qs_ret (q_and (q_call c_is_voice hr hG (by decide) (by rfl) (qa_cons (qv 1) qa_nil) rfl) (q_one (q_cmp (op_eqA hu64) l_eqA (q_b1 (fun p => pe_callB call_len (by rfl) z_len PySem.boot_len (pa_cons p pa_nil)) l_len (qv 1)) (qv 0) (nomark _))))))
  case go =>
    intro ds k hl h
    obtain ⟨ns, rfl, h0, hn, h⟩ := h
    try simp only [↓r_V, ↓r_C, ↓r_Op, ↓r_B, ↓r_Chain, ↓r_And, ↓r_Or, ↓r_Not, ↓r_AndV, ↓r_OrV, ↓r_NotV, ↓r_If, ↓r_Un, ↓r_Add, ↓r_I, ↓r_I0, ↓r_Mul, ↓r_Eq, ↓r_Is, ↓r_Nil, ↓r_Cons, ↓r_Tup, ↓r_N, ↓r_CatN, ↓r_RepN, ↓r_No, ↓r_So, ↓r_Sl, ↓r_One, ↓r_Len, ↓r_Int1, ↓r_Int, ↓r_Sum, ↓r_Max, ↓r_All, ↓r_Min2, ↓r_Isi, ↓r_Repr, ↓r_TupOf, ↓r_LstOf, ↓r_Rd, ↓r_Rn, ↓r_Nm, ↓r_Gnil, ↓r_Gcons, ↓r_Gtup, ↓r_Glst, ↓r_Next, ↓r_Seq, ↓r_Cut, ↓r_Never, ↓r_Brk, ↓r_Cnt, ↓r_Drop, ↓r_Ret, ↓r_RetN, ↓r_IfS, ↓r_Set, ↓r_Asg, ↓r_Aug, ↓r_App, ↓r_Par, ↓r_Par3, ↓r_SeqI, ↓r_Rg1, ↓r_Rg2, ↓r_EnT, ↓r_For, ↓r_While, ↓r_Yes, ↓r_Lc, ↓r_Call, ↓r_CallF, ↓r_EqA, ↓r_asD, ↓r_seqOf, ↓r_dataOf, ↓r_isOw, ↓r_Ix, ↓r_Sub, ixx_some, at_0, at_1, at_2, at_3, at_4, ix_40, ix_41, ix_42, ix_43, RV.sl, b2n, Pu.isNon, notRaw, endP, endF, endL, slots0, wipeE, wipeL, List.map_cons, List.map_nil, List.length_cons, List.length_nil, decide_eq_true_eq, decide_true, decide_false, List.cons_append, List.nil_append, List.append_nil, List.replicate_succ, List.replicate_zero, List.getElem?_cons_zero, List.getElem?_cons_succ, List.set_cons_zero, List.set_cons_succ, Option.isSome_some, ite_true, ite_false, Bool.false_eq_true, true_and, and_true, if_true, if_false, Nat.reduceSub, Nat.reduceAdd, Nat.reduceLT, Bool.not_true, Bool.not_false, reduceIte, eq_self, okC_int, okC_bl, okC_lnil, eqD_lnil, okC_tI, okC_lI, eqD_int, eqD_bl, eqD_tups, eqD_lsts, isTy_int_int, isTy_int_bool, isTy_int_tuple, isTy_tup_tuple, isTy_tup_int, isTy_str_str, isTy_bl_int, isTy_bl_bool, List.length_map, List.length_range, ↓r_Rg3, ↓r_St, ↓r_Dc, ↓r_Dg, ↓r_In, ↓r_IxN, ↓r_Ss, ↓r_IsB, sd_is_voice, ↓sd_is_voice]
    refine ⟨ns, rfl, h0, hn, ?_⟩
    try simp only [↓r_V, ↓r_C, ↓r_Op, ↓r_B, ↓r_Chain, ↓r_And, ↓r_Or, ↓r_Not, ↓r_AndV, ↓r_OrV, ↓r_NotV, ↓r_If, ↓r_Un, ↓r_Add, ↓r_I, ↓r_I0, ↓r_Mul, ↓r_Eq, ↓r_Is, ↓r_Nil, ↓r_Cons, ↓r_Tup, ↓r_N, ↓r_CatN, ↓r_RepN, ↓r_No, ↓r_So, ↓r_Sl, ↓r_One, ↓r_Len, ↓r_Int1, ↓r_Int, ↓r_Sum, ↓r_Max, ↓r_All, ↓r_Min2, ↓r_Isi, ↓r_Repr, ↓r_TupOf, ↓r_LstOf, ↓r_Rd, ↓r_Rn, ↓r_Nm, ↓r_Gnil, ↓r_Gcons, ↓r_Gtup, ↓r_Glst, ↓r_Next, ↓r_Seq, ↓r_Cut, ↓r_Never, ↓r_Brk, ↓r_Cnt, ↓r_Drop, ↓r_Ret, ↓r_RetN, ↓r_IfS, ↓r_Set, ↓r_Asg, ↓r_Aug, ↓r_App, ↓r_Par, ↓r_Par3, ↓r_SeqI, ↓r_Rg1, ↓r_Rg2, ↓r_EnT, ↓r_For, ↓r_While, ↓r_Yes, ↓r_Lc, ↓r_Call, ↓r_CallF, ↓r_EqA, ↓r_asD, ↓r_seqOf, ↓r_dataOf, ↓r_isOw, ↓r_Ix, ↓r_Sub, ixx_some, at_0, at_1, at_2, at_3, at_4, ix_40, ix_41, ix_42, ix_43, RV.sl, b2n, Pu.isNon, notRaw, endP, endF, endL, slots0, wipeE, wipeL, List.map_cons, List.map_nil, List.length_cons, List.length_nil, decide_eq_true_eq, decide_true, decide_false, List.cons_append, List.nil_append, List.append_nil, List.replicate_succ, List.replicate_zero, List.getElem?_cons_zero, List.getElem?_cons_succ, List.set_cons_zero, List.set_cons_succ, Option.isSome_some, ite_true, ite_false, Bool.false_eq_true, true_and, and_true, if_true, if_false, Nat.reduceSub, Nat.reduceAdd, Nat.reduceLT, Bool.not_true, Bool.not_false, reduceIte, eq_self, okC_int, okC_bl, okC_lnil, eqD_lnil, okC_tI, okC_lI, eqD_int, eqD_bl, eqD_tups, eqD_lsts, isTy_int_int, isTy_int_bool, isTy_int_tuple, isTy_tup_tuple, isTy_tup_int, isTy_str_str, isTy_bl_int, isTy_bl_bool, List.length_map, List.length_range, ↓r_Rg3, ↓r_St, ↓r_Dc, ↓r_Dg, ↓r_In, ↓r_IxN, ↓r_Ss, ↓r_IsB, ↓sd_is_voice]
    simpa using h
def sd_mirrored : SpD := fun ds k => ∃ xs : List Int, ds = [tI xs] ∧ 0 < xs.length ∧ xs.length ≤ 1000 ∧ k (tI (mir xs))
theorem c_mirrored (D : At K mg "mirrored" s_mirrored ["voice"]) (c_need : CalG P w K mg base 1 "need" ["fits", "word"] (spP K 2 sd_need)) (c_is_voice : CalG P w K mg base 3 "is_voice" ["thing"] (spP K 1 sd_is_voice)) (z_len : mg "len" = none) (z_range : mg "range" = none) (z_tuple : mg "tuple" = none) : CalG P w K mg base 4 "mirrored" ["voice"] (spP K 1 sd_mirrored) := by
  have nd := sc_mirrored.nd
  apply okP (F := Fd0) D sc_mirrored (by decide)
  case body =>
    intro f cdv A outer s H E hr hG
    have hu64 := hr.units
    exact (qss_cons (qs_expr (q_call c_need hr hG (by decide) (by rfl) (qa_cons (q_call c_is_voice hr hG (by decide) (by rfl) (qa_cons (qv 0) qa_nil) rfl) (qa_cons q_str qa_nil)) rfl))
 (qss_cons (qs_set (i := 1) nd rfl (.inr rfl) (qr_d (q_b1 (fun p => pe_callB call_len (by rfl) z_len PySem.boot_len (pa_cons p pa_nil)) l_len (qv 0))))
 (qss_one (qs_ret (q_tupOf (by rfl) z_tuple (q_n (qn_lc (own := [("beat", 2)]) rfl nd (qi_rg1 (by rfl) z_range (qv 1)) (blkOk_by (N := N_mirrored) (sc := defScope s_mirrored) (by decide +kernel)) (fun _ _ _ _ _ => (qg_name (i := 2) nd rfl (Or.inl rfl))) (fun _ _ _ _ _ => qts_nil) (fun _ _ _ _ _ => (q_ix (qv 0) (q_op op_mod l_mod (q_neg (qv 2)) (qv 1)) (fun _ _ => rfl))))))))))
  case go =>
    intro ds k hl h
    obtain ⟨xs, rfl, h0, hn, h⟩ := h
    try simp only [↓r_V, ↓r_C, ↓r_Op, ↓r_B, ↓r_Chain, ↓r_And, ↓r_Or, ↓r_Not, ↓r_AndV, ↓r_OrV, ↓r_NotV, ↓r_If, ↓r_Un, ↓r_Add, ↓r_I, ↓r_I0, ↓r_Mul, ↓r_Eq, ↓r_Is, ↓r_Nil, ↓r_Cons, ↓r_Tup, ↓r_N, ↓r_CatN, ↓r_RepN, ↓r_No, ↓r_So, ↓r_Sl, ↓r_One, ↓r_Len, ↓r_Int1, ↓r_Int, ↓r_Sum, ↓r_Max, ↓r_All, ↓r_Min2, ↓r_Isi, ↓r_Repr, ↓r_TupOf, ↓r_LstOf, ↓r_Rd, ↓r_Rn, ↓r_Nm, ↓r_Gnil, ↓r_Gcons, ↓r_Gtup, ↓r_Glst, ↓r_Next, ↓r_Seq, ↓r_Cut, ↓r_Never, ↓r_Brk, ↓r_Cnt, ↓r_Drop, ↓r_Ret, ↓r_RetN, ↓r_IfS, ↓r_Set, ↓r_Asg, ↓r_Aug, ↓r_App, ↓r_Par, ↓r_Par3, ↓r_SeqI, ↓r_Rg1, ↓r_Rg2, ↓r_EnT, ↓r_For, ↓r_While, ↓r_Yes, ↓r_Lc, ↓r_Call, ↓r_CallF, ↓r_EqA, ↓r_asD, ↓r_seqOf, ↓r_dataOf, ↓r_isOw, ↓r_Ix, ↓r_Sub, ixx_some, at_0, at_1, at_2, at_3, at_4, ix_40, ix_41, ix_42, ix_43, RV.sl, b2n, Pu.isNon, notRaw, endP, endF, endL, slots0, wipeE, wipeL, List.map_cons, List.map_nil, List.length_cons, List.length_nil, decide_eq_true_eq, decide_true, decide_false, List.cons_append, List.nil_append, List.append_nil, List.replicate_succ, List.replicate_zero, List.getElem?_cons_zero, List.getElem?_cons_succ, List.set_cons_zero, List.set_cons_succ, Option.isSome_some, ite_true, ite_false, Bool.false_eq_true, true_and, and_true, if_true, if_false, Nat.reduceSub, Nat.reduceAdd, Nat.reduceLT, Bool.not_true, Bool.not_false, reduceIte, eq_self, okC_int, okC_bl, okC_lnil, eqD_lnil, okC_tI, okC_lI, eqD_int, eqD_bl, eqD_tups, eqD_lsts, isTy_int_int, isTy_int_bool, isTy_int_tuple, isTy_tup_tuple, isTy_tup_int, isTy_str_str, isTy_bl_int, isTy_bl_bool, List.length_map, List.length_range, ↓r_Rg3, ↓r_St, ↓r_Dc, ↓r_Dg, ↓r_In, ↓r_IxN, ↓r_Ss, ↓r_IsB, sd_need, sd_is_voice, ↓sd_need, ↓sd_is_voice]
    refine ⟨xs, rfl, h0, hn, _, rfl, by omega, lc_xs (fun i : Nat => .int (per xs (-(i : Int)))) (by simp; omega) (fun x hx Inv i acc h => ?_) ?_⟩
    · try simp only [↓r_V, ↓r_C, ↓r_Op, ↓r_B, ↓r_Chain, ↓r_And, ↓r_Or, ↓r_Not, ↓r_AndV, ↓r_OrV, ↓r_NotV, ↓r_If, ↓r_Un, ↓r_Add, ↓r_I, ↓r_I0, ↓r_Mul, ↓r_Eq, ↓r_Is, ↓r_Nil, ↓r_Cons, ↓r_Tup, ↓r_N, ↓r_CatN, ↓r_RepN, ↓r_No, ↓r_So, ↓r_Sl, ↓r_One, ↓r_Len, ↓r_Int1, ↓r_Int, ↓r_Sum, ↓r_Max, ↓r_All, ↓r_Min2, ↓r_Isi, ↓r_Repr, ↓r_TupOf, ↓r_LstOf, ↓r_Rd, ↓r_Rn, ↓r_Nm, ↓r_Gnil, ↓r_Gcons, ↓r_Gtup, ↓r_Glst, ↓r_Next, ↓r_Seq, ↓r_Cut, ↓r_Never, ↓r_Brk, ↓r_Cnt, ↓r_Drop, ↓r_Ret, ↓r_RetN, ↓r_IfS, ↓r_Set, ↓r_Asg, ↓r_Aug, ↓r_App, ↓r_Par, ↓r_Par3, ↓r_SeqI, ↓r_Rg1, ↓r_Rg2, ↓r_EnT, ↓r_For, ↓r_While, ↓r_Yes, ↓r_Lc, ↓r_Call, ↓r_CallF, ↓r_EqA, ↓r_asD, ↓r_seqOf, ↓r_dataOf, ↓r_isOw, ↓r_Ix, ↓r_Sub, ixx_some, at_0, at_1, at_2, at_3, at_4, ix_40, ix_41, ix_42, ix_43, RV.sl, b2n, Pu.isNon, notRaw, endP, endF, endL, slots0, wipeE, wipeL, List.map_cons, List.map_nil, List.length_cons, List.length_nil, decide_eq_true_eq, decide_true, decide_false, List.cons_append, List.nil_append, List.append_nil, List.replicate_succ, List.replicate_zero, List.getElem?_cons_zero, List.getElem?_cons_succ, List.set_cons_zero, List.set_cons_succ, Option.isSome_some, ite_true, ite_false, Bool.false_eq_true, true_and, and_true, if_true, if_false, Nat.reduceSub, Nat.reduceAdd, Nat.reduceLT, Bool.not_true, Bool.not_false, reduceIte, eq_self, okC_int, okC_bl, okC_lnil, eqD_lnil, okC_tI, okC_lI, eqD_int, eqD_bl, eqD_tups, eqD_lsts, isTy_int_int, isTy_int_bool, isTy_int_tuple, isTy_tup_tuple, isTy_tup_int, isTy_str_str, isTy_bl_int, isTy_bl_bool, List.length_map, List.length_range, ↓r_Rg3, ↓r_St, ↓r_Dc, ↓r_Dg, ↓r_In, ↓r_IxN, ↓r_Ss, ↓r_IsB, ↓sd_need, ↓sd_is_voice]
      have p0 : (0 : Int) < (xs.length : Int) := by omega
      refine ⟨p0, _, atI_per (Int.emod_nonneg _ (by omega)) (Int.emod_lt_of_pos _ p0), ?_⟩
      rw [(per_per xs).mod h0]
      exact h
    · try simp only [↓r_V, ↓r_C, ↓r_Op, ↓r_B, ↓r_Chain, ↓r_And, ↓r_Or, ↓r_Not, ↓r_AndV, ↓r_OrV, ↓r_NotV, ↓r_If, ↓r_Un, ↓r_Add, ↓r_I, ↓r_I0, ↓r_Mul, ↓r_Eq, ↓r_Is, ↓r_Nil, ↓r_Cons, ↓r_Tup, ↓r_N, ↓r_CatN, ↓r_RepN, ↓r_No, ↓r_So, ↓r_Sl, ↓r_One, ↓r_Len, ↓r_Int1, ↓r_Int, ↓r_Sum, ↓r_Max, ↓r_All, ↓r_Min2, ↓r_Isi, ↓r_Repr, ↓r_TupOf, ↓r_LstOf, ↓r_Rd, ↓r_Rn, ↓r_Nm, ↓r_Gnil, ↓r_Gcons, ↓r_Gtup, ↓r_Glst, ↓r_Next, ↓r_Seq, ↓r_Cut, ↓r_Never, ↓r_Brk, ↓r_Cnt, ↓r_Drop, ↓r_Ret, ↓r_RetN, ↓r_IfS, ↓r_Set, ↓r_Asg, ↓r_Aug, ↓r_App, ↓r_Par, ↓r_Par3, ↓r_SeqI, ↓r_Rg1, ↓r_Rg2, ↓r_EnT, ↓r_For, ↓r_While, ↓r_Yes, ↓r_Lc, ↓r_Call, ↓r_CallF, ↓r_EqA, ↓r_asD, ↓r_seqOf, ↓r_dataOf, ↓r_isOw, ↓r_Ix, ↓r_Sub, ixx_some, at_0, at_1, at_2, at_3, at_4, ix_40, ix_41, ix_42, ix_43, RV.sl, b2n, Pu.isNon, notRaw, endP, endF, endL, slots0, wipeE, wipeL, List.map_cons, List.map_nil, List.length_cons, List.length_nil, decide_eq_true_eq, decide_true, decide_false, List.cons_append, List.nil_append, List.append_nil, List.replicate_succ, List.replicate_zero, List.getElem?_cons_zero, List.getElem?_cons_succ, List.set_cons_zero, List.set_cons_succ, Option.isSome_some, ite_true, ite_false, Bool.false_eq_true, true_and, and_true, if_true, if_false, Nat.reduceSub, Nat.reduceAdd, Nat.reduceLT, Bool.not_true, Bool.not_false, reduceIte, eq_self, okC_int, okC_bl, okC_lnil, eqD_lnil, okC_tI, okC_lI, eqD_int, eqD_bl, eqD_tups, eqD_lsts, isTy_int_int, isTy_int_bool, isTy_int_tuple, isTy_tup_tuple, isTy_tup_int, isTy_str_str, isTy_bl_int, isTy_bl_bool, List.length_map, List.length_range, ↓r_Rg3, ↓r_St, ↓r_Dc, ↓r_Dg, ↓r_In, ↓r_IxN, ↓r_Ss, ↓r_IsB, ↓sd_need, ↓sd_is_voice]
      unfold tI mir at h
      rw [of_ints] at h
      exact h
def sd_product_of : SpD := fun ds k => ∃ (xs ys : List Int) (a b : Nat), ds = [tI xs, tI ys] ∧ ys.length = xs.length ∧ 0 < xs.length ∧ xs.length ≤ 1000 ∧ Bd a xs ∧ Bd b ys ∧ 0 < a ∧ 0 < b ∧ a + b ≤ 1000000 ∧ k (tI (mulV xs ys))
theorem c_product_of (D : At K mg "product_of" s_product_of ["one", "other"]) (c_need : CalG P w K mg base 1 "need" ["fits", "word"] (spP K 2 sd_need)) (c_is_voice : CalG P w K mg base 3 "is_voice" ["thing"] (spP K 1 sd_is_voice)) (c_is_voice_of : CalG P w K mg base 4 "is_voice_of" ["size", "thing"] (spP K 2 sd_is_voice_of)) (z_enumerate : mg "enumerate" = none) (z_len : mg "len" = none) (z_range : mg "range" = none) (z_tuple : mg "tuple" = none) : CalG P w K mg base 5 "product_of" ["one", "other"] (spP K 2 sd_product_of) := by
  have nd := sc_product_of.nd
  apply okP (F := Fd0) D sc_product_of (by decide)
  case body =>
    intro f cdv A outer s H E hr hG
    have hu64 := hr.units
    exact (qss_cons (qs_expr (q_call c_need hr hG (by decide) (by rfl) (qa_cons (q_call c_is_voice hr hG (by decide) (by rfl) (qa_cons (qv 0) qa_nil) rfl) (qa_cons q_str qa_nil)) rfl))
 (qss_cons (qs_expr (q_call c_need hr hG (by decide) (by rfl) (qa_cons (q_call c_is_voice_of hr hG (by decide) (by rfl) (qa_cons (q_b1 (fun p => pe_callB call_len (by rfl) z_len PySem.boot_len (pa_cons p pa_nil)) l_len (qv 0)) (qa_cons (qv 1) qa_nil)) rfl) (qa_cons q_str qa_nil)) rfl))
 (qss_cons (qs_set (i := 2) nd rfl (.inl rfl) (qr_d (q_b1 (fun p => pe_callB call_len (by rfl) z_len PySem.boot_len (pa_cons p pa_nil)) l_len (qv 0))))
 (qss_cons (qs_setLc (i := 3) (own := [("_", 7)]) rfl nd rfl rfl (sw_true rfl rfl rfl (by decide +kernel)) (qi_rg1 (by rfl) z_range (qv 2)) (blkOk_by (N := N_product_of) (sc := defScope s_product_of) (by decide +kernel)) (fun _ _ _ _ _ => (qg_name (i := 7) nd rfl (Or.inl rfl))) (fun _ _ _ _ _ => qts_nil) (fun _ _ _ _ _ => q_int))
 (qss_cons (qs_for PassesOwn.never rfl (qi_enT (by rfl) z_enumerate (qv 0)) (qg_tup (n := 2) rfl (qgs_cons (qg_name (i := 4) nd rfl (.inl rfl)) (qgs_cons (qg_name (i := 5) nd rfl (.inl rfl)) qgs_nil)))
 (qss_one (qs_for PassesOwn.never rfl (qi_rg1 (by rfl) z_range (qv 2)) (qg_name (i := 6) nd rfl (.inl rfl))
 (qss_cons (qs_set (i := 8) nd rfl (.inl rfl) (qr_d (q_op op_mod l_mod (q_op op_addA l_add (qv 4) (qv 6)) (qv 2))))
 (qss_one (qs_asg (q_op op_addA l_add (q_ix (qv 3) (qv 8) (fun _ _ => rfl)) (q_op op_mulA l_mul (qv 5) (q_ix (qv 1) (qv 6) (fun _ _ => rfl)))) (qg_sub (i := 3) (qv 8))))))))
 (qss_one (qs_ret (q_tupOf (by rfl) z_tuple (qv 3)))))))))
  case go =>
    intro ds k hl h
    obtain ⟨xs, ys, a, b, rfl, hxy, h0, hn, ba, bb, a0, b0, hab, h⟩ := h
    try simp only [↓r_V, ↓r_C, ↓r_Op, ↓r_B, ↓r_Chain, ↓r_And, ↓r_Or, ↓r_Not, ↓r_AndV, ↓r_OrV, ↓r_NotV, ↓r_If, ↓r_Un, ↓r_Add, ↓r_I, ↓r_I0, ↓r_Mul, ↓r_Eq, ↓r_Is, ↓r_Nil, ↓r_Cons, ↓r_Tup, ↓r_N, ↓r_CatN, ↓r_RepN, ↓r_No, ↓r_So, ↓r_Sl, ↓r_One, ↓r_Len, ↓r_Int1, ↓r_Int, ↓r_Sum, ↓r_Max, ↓r_All, ↓r_Min2, ↓r_Isi, ↓r_Repr, ↓r_TupOf, ↓r_LstOf, ↓r_Rd, ↓r_Rn, ↓r_Nm, ↓r_Gnil, ↓r_Gcons, ↓r_Gtup, ↓r_Glst, ↓r_Next, ↓r_Seq, ↓r_Cut, ↓r_Never, ↓r_Brk, ↓r_Cnt, ↓r_Drop, ↓r_Ret, ↓r_RetN, ↓r_IfS, ↓r_Set, ↓r_Asg, ↓r_Aug, ↓r_App, ↓r_Par, ↓r_Par3, ↓r_SeqI, ↓r_Rg1, ↓r_Rg2, ↓r_EnT, ↓r_For, ↓r_While, ↓r_Yes, ↓r_Lc, ↓r_Call, ↓r_CallF, ↓r_EqA, ↓r_asD, ↓r_seqOf, ↓r_dataOf, ↓r_isOw, ↓r_Ix, ↓r_Sub, ixx_some, at_0, at_1, at_2, at_3, at_4, ix_40, ix_41, ix_42, ix_43, RV.sl, b2n, Pu.isNon, notRaw, endP, endF, endL, slots0, wipeE, wipeL, List.map_cons, List.map_nil, List.length_cons, List.length_nil, decide_eq_true_eq, decide_true, decide_false, List.cons_append, List.nil_append, List.append_nil, List.replicate_succ, List.replicate_zero, List.getElem?_cons_zero, List.getElem?_cons_succ, List.set_cons_zero, List.set_cons_succ, Option.isSome_some, ite_true, ite_false, Bool.false_eq_true, true_and, and_true, if_true, if_false, Nat.reduceSub, Nat.reduceAdd, Nat.reduceLT, Bool.not_true, Bool.not_false, reduceIte, eq_self, okC_int, okC_bl, okC_lnil, eqD_lnil, okC_tI, okC_lI, eqD_int, eqD_bl, eqD_tups, eqD_lsts, isTy_int_int, isTy_int_bool, isTy_int_tuple, isTy_tup_tuple, isTy_tup_int, isTy_str_str, isTy_bl_int, isTy_bl_bool, List.length_map, List.length_range, ↓r_Rg3, ↓r_St, ↓r_Dc, ↓r_Dg, ↓r_In, ↓r_IxN, ↓r_Ss, ↓r_IsB, sd_need, sd_is_voice, sd_is_voice_of, ↓sd_need, ↓sd_is_voice, ↓sd_is_voice_of]
    refine ⟨xs, rfl, h0, hn, _, rfl, ys, by rw [hxy], by omega, by omega, _, rfl, by omega, lc_xs (fun _ => .int 0) (by simp; omega) (fun x hx Inv i acc h => ?_) ?_⟩
    · try simp only [↓r_V, ↓r_C, ↓r_Op, ↓r_B, ↓r_Chain, ↓r_And, ↓r_Or, ↓r_Not, ↓r_AndV, ↓r_OrV, ↓r_NotV, ↓r_If, ↓r_Un, ↓r_Add, ↓r_I, ↓r_I0, ↓r_Mul, ↓r_Eq, ↓r_Is, ↓r_Nil, ↓r_Cons, ↓r_Tup, ↓r_N, ↓r_CatN, ↓r_RepN, ↓r_No, ↓r_So, ↓r_Sl, ↓r_One, ↓r_Len, ↓r_Int1, ↓r_Int, ↓r_Sum, ↓r_Max, ↓r_All, ↓r_Min2, ↓r_Isi, ↓r_Repr, ↓r_TupOf, ↓r_LstOf, ↓r_Rd, ↓r_Rn, ↓r_Nm, ↓r_Gnil, ↓r_Gcons, ↓r_Gtup, ↓r_Glst, ↓r_Next, ↓r_Seq, ↓r_Cut, ↓r_Never, ↓r_Brk, ↓r_Cnt, ↓r_Drop, ↓r_Ret, ↓r_RetN, ↓r_IfS, ↓r_Set, ↓r_Asg, ↓r_Aug, ↓r_App, ↓r_Par, ↓r_Par3, ↓r_SeqI, ↓r_Rg1, ↓r_Rg2, ↓r_EnT, ↓r_For, ↓r_While, ↓r_Yes, ↓r_Lc, ↓r_Call, ↓r_CallF, ↓r_EqA, ↓r_asD, ↓r_seqOf, ↓r_dataOf, ↓r_isOw, ↓r_Ix, ↓r_Sub, ixx_some, at_0, at_1, at_2, at_3, at_4, ix_40, ix_41, ix_42, ix_43, RV.sl, b2n, Pu.isNon, notRaw, endP, endF, endL, slots0, wipeE, wipeL, List.map_cons, List.map_nil, List.length_cons, List.length_nil, decide_eq_true_eq, decide_true, decide_false, List.cons_append, List.nil_append, List.append_nil, List.replicate_succ, List.replicate_zero, List.getElem?_cons_zero, List.getElem?_cons_succ, List.set_cons_zero, List.set_cons_succ, Option.isSome_some, ite_true, ite_false, Bool.false_eq_true, true_and, and_true, if_true, if_false, Nat.reduceSub, Nat.reduceAdd, Nat.reduceLT, Bool.not_true, Bool.not_false, reduceIte, eq_self, okC_int, okC_bl, okC_lnil, eqD_lnil, okC_tI, okC_lI, eqD_int, eqD_bl, eqD_tups, eqD_lsts, isTy_int_int, isTy_int_bool, isTy_int_tuple, isTy_tup_tuple, isTy_tup_int, isTy_str_str, isTy_bl_int, isTy_bl_bool, List.length_map, List.length_range, ↓r_Rg3, ↓r_St, ↓r_Dc, ↓r_Dg, ↓r_In, ↓r_IxN, ↓r_Ss, ↓r_IsB, ↓sd_need, ↓sd_is_voice, ↓sd_is_voice_of]
      exact h
    try simp only [↓r_V, ↓r_C, ↓r_Op, ↓r_B, ↓r_Chain, ↓r_And, ↓r_Or, ↓r_Not, ↓r_AndV, ↓r_OrV, ↓r_NotV, ↓r_If, ↓r_Un, ↓r_Add, ↓r_I, ↓r_I0, ↓r_Mul, ↓r_Eq, ↓r_Is, ↓r_Nil, ↓r_Cons, ↓r_Tup, ↓r_N, ↓r_CatN, ↓r_RepN, ↓r_No, ↓r_So, ↓r_Sl, ↓r_One, ↓r_Len, ↓r_Int1, ↓r_Int, ↓r_Sum, ↓r_Max, ↓r_All, ↓r_Min2, ↓r_Isi, ↓r_Repr, ↓r_TupOf, ↓r_LstOf, ↓r_Rd, ↓r_Rn, ↓r_Nm, ↓r_Gnil, ↓r_Gcons, ↓r_Gtup, ↓r_Glst, ↓r_Next, ↓r_Seq, ↓r_Cut, ↓r_Never, ↓r_Brk, ↓r_Cnt, ↓r_Drop, ↓r_Ret, ↓r_RetN, ↓r_IfS, ↓r_Set, ↓r_Asg, ↓r_Aug, ↓r_App, ↓r_Par, ↓r_Par3, ↓r_SeqI, ↓r_Rg1, ↓r_Rg2, ↓r_EnT, ↓r_For, ↓r_While, ↓r_Yes, ↓r_Lc, ↓r_Call, ↓r_CallF, ↓r_EqA, ↓r_asD, ↓r_seqOf, ↓r_dataOf, ↓r_isOw, ↓r_Ix, ↓r_Sub, ixx_some, at_0, at_1, at_2, at_3, at_4, ix_40, ix_41, ix_42, ix_43, RV.sl, b2n, Pu.isNon, notRaw, endP, endF, endL, slots0, wipeE, wipeL, List.map_cons, List.map_nil, List.length_cons, List.length_nil, decide_eq_true_eq, decide_true, decide_false, List.cons_append, List.nil_append, List.append_nil, List.replicate_succ, List.replicate_zero, List.getElem?_cons_zero, List.getElem?_cons_succ, List.set_cons_zero, List.set_cons_succ, Option.isSome_some, ite_true, ite_false, Bool.false_eq_true, true_and, and_true, if_true, if_false, Nat.reduceSub, Nat.reduceAdd, Nat.reduceLT, Bool.not_true, Bool.not_false, reduceIte, eq_self, okC_int, okC_bl, okC_lnil, eqD_lnil, okC_tI, okC_lI, eqD_int, eqD_bl, eqD_tups, eqD_lsts, isTy_int_int, isTy_int_bool, isTy_int_tuple, isTy_tup_tuple, isTy_tup_int, isTy_str_str, isTy_bl_int, isTy_bl_bool, List.length_map, List.length_range, ↓r_Rg3, ↓r_St, ↓r_Dc, ↓r_Dg, ↓r_In, ↓r_IxN, ↓r_Ss, ↓r_IsB, ↓sd_need, ↓sd_is_voice, ↓sd_is_voice_of]
    have p0 : (0 : Int) < (xs.length : Int) := by omega
    have pY : Per xs.length (per ys) := hxy ▸ per_per ys
    have ez : (List.range (xs.length : Int).toNat).map (fun _ => Pu.D.int 0) = (of xs.length (rows (per xs) (per ys) 0)).map Pu.D.int := by
      rw [← zeros, Int.toNat_natCast, List.map_const', List.length_range, List.map_replicate]
    rw [ez]
    refine ⟨fun j ε => ∃ s4 s5 s6 s7 s8 : Sl, ε = { sl := [.sh (tI xs), .sh (tI ys), .sh (.int xs.length), .ow none ((of xs.length (rows (per xs) (per ys) j)).map Pu.D.int), s4, s5, s6, s7, s8], fs := 0 }, ⟨_, _, _, _, _, rfl⟩, ?_, ?_⟩
    · rintro j d ε2 hd ⟨s4, s5, s6, s7, s8, rfl⟩
      obtain ⟨hj, rfl⟩ := enum_get hd
      try simp only [↓r_V, ↓r_C, ↓r_Op, ↓r_B, ↓r_Chain, ↓r_And, ↓r_Or, ↓r_Not, ↓r_AndV, ↓r_OrV, ↓r_NotV, ↓r_If, ↓r_Un, ↓r_Add, ↓r_I, ↓r_I0, ↓r_Mul, ↓r_Eq, ↓r_Is, ↓r_Nil, ↓r_Cons, ↓r_Tup, ↓r_N, ↓r_CatN, ↓r_RepN, ↓r_No, ↓r_So, ↓r_Sl, ↓r_One, ↓r_Len, ↓r_Int1, ↓r_Int, ↓r_Sum, ↓r_Max, ↓r_All, ↓r_Min2, ↓r_Isi, ↓r_Repr, ↓r_TupOf, ↓r_LstOf, ↓r_Rd, ↓r_Rn, ↓r_Nm, ↓r_Gnil, ↓r_Gcons, ↓r_Gtup, ↓r_Glst, ↓r_Next, ↓r_Seq, ↓r_Cut, ↓r_Never, ↓r_Brk, ↓r_Cnt, ↓r_Drop, ↓r_Ret, ↓r_RetN, ↓r_IfS, ↓r_Set, ↓r_Asg, ↓r_Aug, ↓r_App, ↓r_Par, ↓r_Par3, ↓r_SeqI, ↓r_Rg1, ↓r_Rg2, ↓r_EnT, ↓r_For, ↓r_While, ↓r_Yes, ↓r_Lc, ↓r_Call, ↓r_CallF, ↓r_EqA, ↓r_asD, ↓r_seqOf, ↓r_dataOf, ↓r_isOw, ↓r_Ix, ↓r_Sub, ixx_some, at_0, at_1, at_2, at_3, at_4, ix_40, ix_41, ix_42, ix_43, RV.sl, b2n, Pu.isNon, notRaw, endP, endF, endL, slots0, wipeE, wipeL, List.map_cons, List.map_nil, List.length_cons, List.length_nil, decide_eq_true_eq, decide_true, decide_false, List.cons_append, List.nil_append, List.append_nil, List.replicate_succ, List.replicate_zero, List.getElem?_cons_zero, List.getElem?_cons_succ, List.set_cons_zero, List.set_cons_succ, Option.isSome_some, ite_true, ite_false, Bool.false_eq_true, true_and, and_true, if_true, if_false, Nat.reduceSub, Nat.reduceAdd, Nat.reduceLT, Bool.not_true, Bool.not_false, reduceIte, eq_self, okC_int, okC_bl, okC_lnil, eqD_lnil, okC_tI, okC_lI, eqD_int, eqD_bl, eqD_tups, eqD_lsts, isTy_int_int, isTy_int_bool, isTy_int_tuple, isTy_tup_tuple, isTy_tup_int, isTy_str_str, isTy_bl_int, isTy_bl_bool, List.length_map, List.length_range, ↓r_Rg3, ↓r_St, ↓r_Dc, ↓r_Dg, ↓r_In, ↓r_IxN, ↓r_Ss, ↓r_IsB, ↓sd_need, ↓sd_is_voice, ↓sd_is_voice_of]
      refine ⟨by omega, fun k ε => ∃ s6 s7 s8 : Sl, ε = { sl := [.sh (tI xs), .sh (tI ys), .sh (.int xs.length), .ow none ((of xs.length (part xs.length (rows (per xs) (per ys) j) (per xs) (per ys) j k)).map Pu.D.int), .sh (.int j), .sh (.int (per xs j)), s6, s7, s8], fs := 0 }, ⟨s6, s7, s8, by rw [part_zero h0]⟩, ?_, ?_⟩
      · rintro k d ε2 hd ⟨s6, s7, s8, rfl⟩
        obtain ⟨hk, rfl⟩ := rg_get hd
        rw [Int.toNat_natCast] at hk
        try simp only [↓r_V, ↓r_C, ↓r_Op, ↓r_B, ↓r_Chain, ↓r_And, ↓r_Or, ↓r_Not, ↓r_AndV, ↓r_OrV, ↓r_NotV, ↓r_If, ↓r_Un, ↓r_Add, ↓r_I, ↓r_I0, ↓r_Mul, ↓r_Eq, ↓r_Is, ↓r_Nil, ↓r_Cons, ↓r_Tup, ↓r_N, ↓r_CatN, ↓r_RepN, ↓r_No, ↓r_So, ↓r_Sl, ↓r_One, ↓r_Len, ↓r_Int1, ↓r_Int, ↓r_Sum, ↓r_Max, ↓r_All, ↓r_Min2, ↓r_Isi, ↓r_Repr, ↓r_TupOf, ↓r_LstOf, ↓r_Rd, ↓r_Rn, ↓r_Nm, ↓r_Gnil, ↓r_Gcons, ↓r_Gtup, ↓r_Glst, ↓r_Next, ↓r_Seq, ↓r_Cut, ↓r_Never, ↓r_Brk, ↓r_Cnt, ↓r_Drop, ↓r_Ret, ↓r_RetN, ↓r_IfS, ↓r_Set, ↓r_Asg, ↓r_Aug, ↓r_App, ↓r_Par, ↓r_Par3, ↓r_SeqI, ↓r_Rg1, ↓r_Rg2, ↓r_EnT, ↓r_For, ↓r_While, ↓r_Yes, ↓r_Lc, ↓r_Call, ↓r_CallF, ↓r_EqA, ↓r_asD, ↓r_seqOf, ↓r_dataOf, ↓r_isOw, ↓r_Ix, ↓r_Sub, ixx_some, at_0, at_1, at_2, at_3, at_4, ix_40, ix_41, ix_42, ix_43, RV.sl, b2n, Pu.isNon, notRaw, endP, endF, endL, slots0, wipeE, wipeL, List.map_cons, List.map_nil, List.length_cons, List.length_nil, decide_eq_true_eq, decide_true, decide_false, List.cons_append, List.nil_append, List.append_nil, List.replicate_succ, List.replicate_zero, List.getElem?_cons_zero, List.getElem?_cons_succ, List.set_cons_zero, List.set_cons_succ, Option.isSome_some, ite_true, ite_false, Bool.false_eq_true, true_and, and_true, if_true, if_false, Nat.reduceSub, Nat.reduceAdd, Nat.reduceLT, Bool.not_true, Bool.not_false, reduceIte, eq_self, okC_int, okC_bl, okC_lnil, eqD_lnil, okC_tI, okC_lI, eqD_int, eqD_bl, eqD_tups, eqD_lsts, isTy_int_int, isTy_int_bool, isTy_int_tuple, isTy_tup_tuple, isTy_tup_int, isTy_str_str, isTy_bl_int, isTy_bl_bool, List.length_map, List.length_range, ↓r_Rg3, ↓r_St, ↓r_Dc, ↓r_Dg, ↓r_In, ↓r_IxN, ↓r_Ss, ↓r_IsB, ↓sd_need, ↓sd_is_voice, ↓sd_is_voice_of]
        have hb : (j + k) % xs.length < xs.length := Nat.mod_lt _ h0
        have hW := of_get (F := part xs.length (rows (per xs) (per ys) j) (per xs) (per ys) j k) hb
        have e1 := atI_ints (k := (((j + k) % xs.length : Nat) : Int)) (by omega) (by rw [Int.toNat_natCast]; exact hW)
        rw [step_at h0]
        refine ⟨p0, _, e1, _, atI_per (by omega) (by omega), ?_⟩
        try simp only [↓r_V, ↓r_C, ↓r_Op, ↓r_B, ↓r_Chain, ↓r_And, ↓r_Or, ↓r_Not, ↓r_AndV, ↓r_OrV, ↓r_NotV, ↓r_If, ↓r_Un, ↓r_Add, ↓r_I, ↓r_I0, ↓r_Mul, ↓r_Eq, ↓r_Is, ↓r_Nil, ↓r_Cons, ↓r_Tup, ↓r_N, ↓r_CatN, ↓r_RepN, ↓r_No, ↓r_So, ↓r_Sl, ↓r_One, ↓r_Len, ↓r_Int1, ↓r_Int, ↓r_Sum, ↓r_Max, ↓r_All, ↓r_Min2, ↓r_Isi, ↓r_Repr, ↓r_TupOf, ↓r_LstOf, ↓r_Rd, ↓r_Rn, ↓r_Nm, ↓r_Gnil, ↓r_Gcons, ↓r_Gtup, ↓r_Glst, ↓r_Next, ↓r_Seq, ↓r_Cut, ↓r_Never, ↓r_Brk, ↓r_Cnt, ↓r_Drop, ↓r_Ret, ↓r_RetN, ↓r_IfS, ↓r_Set, ↓r_Asg, ↓r_Aug, ↓r_App, ↓r_Par, ↓r_Par3, ↓r_SeqI, ↓r_Rg1, ↓r_Rg2, ↓r_EnT, ↓r_For, ↓r_While, ↓r_Yes, ↓r_Lc, ↓r_Call, ↓r_CallF, ↓r_EqA, ↓r_asD, ↓r_seqOf, ↓r_dataOf, ↓r_isOw, ↓r_Ix, ↓r_Sub, ixx_some, at_0, at_1, at_2, at_3, at_4, ix_40, ix_41, ix_42, ix_43, RV.sl, b2n, Pu.isNon, notRaw, endP, endF, endL, slots0, wipeE, wipeL, List.map_cons, List.map_nil, List.length_cons, List.length_nil, decide_eq_true_eq, decide_true, decide_false, List.cons_append, List.nil_append, List.append_nil, List.replicate_succ, List.replicate_zero, List.getElem?_cons_zero, List.getElem?_cons_succ, List.set_cons_zero, List.set_cons_succ, Option.isSome_some, ite_true, ite_false, Bool.false_eq_true, true_and, and_true, if_true, if_false, Nat.reduceSub, Nat.reduceAdd, Nat.reduceLT, Bool.not_true, Bool.not_false, reduceIte, eq_self, okC_int, okC_bl, okC_lnil, eqD_lnil, okC_tI, okC_lI, eqD_int, eqD_bl, eqD_tups, eqD_lsts, isTy_int_int, isTy_int_bool, isTy_int_tuple, isTy_tup_tuple, isTy_tup_int, isTy_str_str, isTy_bl_int, isTy_bl_bool, List.length_map, List.length_range, ↓r_Rg3, ↓r_St, ↓r_Dc, ↓r_Dg, ↓r_In, ↓r_IxN, ↓r_Ss, ↓r_IsB, ↓sd_need, ↓sd_is_voice, ↓sd_is_voice_of]
        refine ⟨mulW (bd_per ba _) (bd_per bb _), _, ixN_nat (by rw [of_len]; exact hb), ?_⟩
        dsimp only
        rw [set_ints, part_step pY hj hk]
        exact ⟨_, _, _, rfl⟩
      · rintro ε2 ⟨s6, s7, s8, rfl⟩
        rw [List.length_map, List.length_range, Int.toNat_natCast, part_all h0]
        exact ⟨_, _, _, _, _, rfl⟩
    · rintro ε2 ⟨s4, s5, s6, s7, s8, rfl⟩
      rw [List.length_mapIdx, List.length_map]
      try simp only [↓r_V, ↓r_C, ↓r_Op, ↓r_B, ↓r_Chain, ↓r_And, ↓r_Or, ↓r_Not, ↓r_AndV, ↓r_OrV, ↓r_NotV, ↓r_If, ↓r_Un, ↓r_Add, ↓r_I, ↓r_I0, ↓r_Mul, ↓r_Eq, ↓r_Is, ↓r_Nil, ↓r_Cons, ↓r_Tup, ↓r_N, ↓r_CatN, ↓r_RepN, ↓r_No, ↓r_So, ↓r_Sl, ↓r_One, ↓r_Len, ↓r_Int1, ↓r_Int, ↓r_Sum, ↓r_Max, ↓r_All, ↓r_Min2, ↓r_Isi, ↓r_Repr, ↓r_TupOf, ↓r_LstOf, ↓r_Rd, ↓r_Rn, ↓r_Nm, ↓r_Gnil, ↓r_Gcons, ↓r_Gtup, ↓r_Glst, ↓r_Next, ↓r_Seq, ↓r_Cut, ↓r_Never, ↓r_Brk, ↓r_Cnt, ↓r_Drop, ↓r_Ret, ↓r_RetN, ↓r_IfS, ↓r_Set, ↓r_Asg, ↓r_Aug, ↓r_App, ↓r_Par, ↓r_Par3, ↓r_SeqI, ↓r_Rg1, ↓r_Rg2, ↓r_EnT, ↓r_For, ↓r_While, ↓r_Yes, ↓r_Lc, ↓r_Call, ↓r_CallF, ↓r_EqA, ↓r_asD, ↓r_seqOf, ↓r_dataOf, ↓r_isOw, ↓r_Ix, ↓r_Sub, ixx_some, at_0, at_1, at_2, at_3, at_4, ix_40, ix_41, ix_42, ix_43, RV.sl, b2n, Pu.isNon, notRaw, endP, endF, endL, slots0, wipeE, wipeL, List.map_cons, List.map_nil, List.length_cons, List.length_nil, decide_eq_true_eq, decide_true, decide_false, List.cons_append, List.nil_append, List.append_nil, List.replicate_succ, List.replicate_zero, List.getElem?_cons_zero, List.getElem?_cons_succ, List.set_cons_zero, List.set_cons_succ, Option.isSome_some, ite_true, ite_false, Bool.false_eq_true, true_and, and_true, if_true, if_false, Nat.reduceSub, Nat.reduceAdd, Nat.reduceLT, Bool.not_true, Bool.not_false, reduceIte, eq_self, okC_int, okC_bl, okC_lnil, eqD_lnil, okC_tI, okC_lI, eqD_int, eqD_bl, eqD_tups, eqD_lsts, isTy_int_int, isTy_int_bool, isTy_int_tuple, isTy_tup_tuple, isTy_tup_int, isTy_str_str, isTy_bl_int, isTy_bl_bool, List.length_map, List.length_range, ↓r_Rg3, ↓r_St, ↓r_Dc, ↓r_Dg, ↓r_In, ↓r_IxN, ↓r_Ss, ↓r_IsB, ↓sd_need, ↓sd_is_voice, ↓sd_is_voice_of]
      exact h
def sd_echo_of : SpD := fun ds k => ∃ (xs : List Int) (a : Nat), ds = [tI xs] ∧ 0 < xs.length ∧ xs.length ≤ 1000 ∧ Bd a xs ∧ 0 < a ∧ a ≤ 100000 ∧ k (tI (crossV xs xs))
theorem c_echo_of (D : At K mg "echo_of" s_echo_of ["voice"]) (c_product_of : CalG P w K mg base 5 "product_of" ["one", "other"] (spP K 2 sd_product_of)) (c_mirrored : CalG P w K mg base 4 "mirrored" ["voice"] (spP K 1 sd_mirrored)) : CalG P w K mg base 6 "echo_of" ["voice"] (spP K 1 sd_echo_of) := by
  have nd := sc_echo_of.nd
  apply okP (F := Fd0) D sc_echo_of (by decide)
  case body =>
    intro f cdv A outer s H E hr hG
    have hu64 := hr.units
    exact (qss_one (qs_ret (q_call c_product_of hr hG (by decide) (by rfl) (qa_cons (qv 0) (qa_cons (q_call c_mirrored hr hG (by decide) (by rfl) (qa_cons (qv 0) qa_nil) rfl) qa_nil)) rfl)))
  case go =>
    intro ds k hl h
    obtain ⟨xs, a, rfl, h0, hn, ba, a0, a1, h⟩ := h
    try simp only [↓r_V, ↓r_C, ↓r_Op, ↓r_B, ↓r_Chain, ↓r_And, ↓r_Or, ↓r_Not, ↓r_AndV, ↓r_OrV, ↓r_NotV, ↓r_If, ↓r_Un, ↓r_Add, ↓r_I, ↓r_I0, ↓r_Mul, ↓r_Eq, ↓r_Is, ↓r_Nil, ↓r_Cons, ↓r_Tup, ↓r_N, ↓r_CatN, ↓r_RepN, ↓r_No, ↓r_So, ↓r_Sl, ↓r_One, ↓r_Len, ↓r_Int1, ↓r_Int, ↓r_Sum, ↓r_Max, ↓r_All, ↓r_Min2, ↓r_Isi, ↓r_Repr, ↓r_TupOf, ↓r_LstOf, ↓r_Rd, ↓r_Rn, ↓r_Nm, ↓r_Gnil, ↓r_Gcons, ↓r_Gtup, ↓r_Glst, ↓r_Next, ↓r_Seq, ↓r_Cut, ↓r_Never, ↓r_Brk, ↓r_Cnt, ↓r_Drop, ↓r_Ret, ↓r_RetN, ↓r_IfS, ↓r_Set, ↓r_Asg, ↓r_Aug, ↓r_App, ↓r_Par, ↓r_Par3, ↓r_SeqI, ↓r_Rg1, ↓r_Rg2, ↓r_EnT, ↓r_For, ↓r_While, ↓r_Yes, ↓r_Lc, ↓r_Call, ↓r_CallF, ↓r_EqA, ↓r_asD, ↓r_seqOf, ↓r_dataOf, ↓r_isOw, ↓r_Ix, ↓r_Sub, ixx_some, at_0, at_1, at_2, at_3, at_4, ix_40, ix_41, ix_42, ix_43, RV.sl, b2n, Pu.isNon, notRaw, endP, endF, endL, slots0, wipeE, wipeL, List.map_cons, List.map_nil, List.length_cons, List.length_nil, decide_eq_true_eq, decide_true, decide_false, List.cons_append, List.nil_append, List.append_nil, List.replicate_succ, List.replicate_zero, List.getElem?_cons_zero, List.getElem?_cons_succ, List.set_cons_zero, List.set_cons_succ, Option.isSome_some, ite_true, ite_false, Bool.false_eq_true, true_and, and_true, if_true, if_false, Nat.reduceSub, Nat.reduceAdd, Nat.reduceLT, Bool.not_true, Bool.not_false, reduceIte, eq_self, okC_int, okC_bl, okC_lnil, eqD_lnil, okC_tI, okC_lI, eqD_int, eqD_bl, eqD_tups, eqD_lsts, isTy_int_int, isTy_int_bool, isTy_int_tuple, isTy_tup_tuple, isTy_tup_int, isTy_str_str, isTy_bl_int, isTy_bl_bool, List.length_map, List.length_range, ↓r_Rg3, ↓r_St, ↓r_Dc, ↓r_Dg, ↓r_In, ↓r_IxN, ↓r_Ss, ↓r_IsB, sd_mirrored, sd_product_of, ↓sd_product_of, ↓sd_mirrored]
    refine ⟨xs, rfl, h0, hn, ?_⟩
    try simp only [↓r_V, ↓r_C, ↓r_Op, ↓r_B, ↓r_Chain, ↓r_And, ↓r_Or, ↓r_Not, ↓r_AndV, ↓r_OrV, ↓r_NotV, ↓r_If, ↓r_Un, ↓r_Add, ↓r_I, ↓r_I0, ↓r_Mul, ↓r_Eq, ↓r_Is, ↓r_Nil, ↓r_Cons, ↓r_Tup, ↓r_N, ↓r_CatN, ↓r_RepN, ↓r_No, ↓r_So, ↓r_Sl, ↓r_One, ↓r_Len, ↓r_Int1, ↓r_Int, ↓r_Sum, ↓r_Max, ↓r_All, ↓r_Min2, ↓r_Isi, ↓r_Repr, ↓r_TupOf, ↓r_LstOf, ↓r_Rd, ↓r_Rn, ↓r_Nm, ↓r_Gnil, ↓r_Gcons, ↓r_Gtup, ↓r_Glst, ↓r_Next, ↓r_Seq, ↓r_Cut, ↓r_Never, ↓r_Brk, ↓r_Cnt, ↓r_Drop, ↓r_Ret, ↓r_RetN, ↓r_IfS, ↓r_Set, ↓r_Asg, ↓r_Aug, ↓r_App, ↓r_Par, ↓r_Par3, ↓r_SeqI, ↓r_Rg1, ↓r_Rg2, ↓r_EnT, ↓r_For, ↓r_While, ↓r_Yes, ↓r_Lc, ↓r_Call, ↓r_CallF, ↓r_EqA, ↓r_asD, ↓r_seqOf, ↓r_dataOf, ↓r_isOw, ↓r_Ix, ↓r_Sub, ixx_some, at_0, at_1, at_2, at_3, at_4, ix_40, ix_41, ix_42, ix_43, RV.sl, b2n, Pu.isNon, notRaw, endP, endF, endL, slots0, wipeE, wipeL, List.map_cons, List.map_nil, List.length_cons, List.length_nil, decide_eq_true_eq, decide_true, decide_false, List.cons_append, List.nil_append, List.append_nil, List.replicate_succ, List.replicate_zero, List.getElem?_cons_zero, List.getElem?_cons_succ, List.set_cons_zero, List.set_cons_succ, Option.isSome_some, ite_true, ite_false, Bool.false_eq_true, true_and, and_true, if_true, if_false, Nat.reduceSub, Nat.reduceAdd, Nat.reduceLT, Bool.not_true, Bool.not_false, reduceIte, eq_self, okC_int, okC_bl, okC_lnil, eqD_lnil, okC_tI, okC_lI, eqD_int, eqD_bl, eqD_tups, eqD_lsts, isTy_int_int, isTy_int_bool, isTy_int_tuple, isTy_tup_tuple, isTy_tup_int, isTy_str_str, isTy_bl_int, isTy_bl_bool, List.length_map, List.length_range, ↓r_Rg3, ↓r_St, ↓r_Dc, ↓r_Dg, ↓r_In, ↓r_IxN, ↓r_Ss, ↓r_IsB, sd_product_of, ↓sd_product_of, ↓sd_mirrored]
    exact ⟨xs, mir xs, a, a, rfl, mir_len xs, h0, hn, ba, bd_mir ba, a0, a0, by omega, h⟩
def sd_same_echo : SpD := fun ds k => ∃ (xs ys : List Int) (a : Nat), ds = [tI xs, tI ys] ∧ ys.length = xs.length ∧ 0 < xs.length ∧ xs.length ≤ 1000 ∧ Bd a xs ∧ Bd a ys ∧ 0 < a ∧ a ≤ 100000 ∧ k (.bl (decide (crossV xs xs = crossV ys ys)))
theorem c_same_echo (D : At K mg "same_echo" s_same_echo ["one", "other"]) (c_need : CalG P w K mg base 1 "need" ["fits", "word"] (spP K 2 sd_need)) (c_is_voice_of : CalG P w K mg base 4 "is_voice_of" ["size", "thing"] (spP K 2 sd_is_voice_of)) (c_echo_of : CalG P w K mg base 6 "echo_of" ["voice"] (spP K 1 sd_echo_of)) (z_len : mg "len" = none) : CalG P w K mg base 7 "same_echo" ["one", "other"] (spP K 2 sd_same_echo) := by
  have nd := sc_same_echo.nd
  apply okP (F := Fd0) D sc_same_echo (by decide)
  case body =>
    intro f cdv A outer s H E hr hG
    have hu64 := hr.units
    exact (qss_cons (qs_expr (q_call c_need hr hG (by decide) (by rfl) (qa_cons (q_call c_is_voice_of hr hG (by decide) (by rfl) (qa_cons (q_b1 (fun p => pe_callB call_len (by rfl) z_len PySem.boot_len (pa_cons p pa_nil)) l_len (qv 0)) (qa_cons (qv 1) qa_nil)) rfl) (qa_cons q_str qa_nil)) rfl))
 (qss_one (qs_ret (q_cmp (op_eqA hu64) l_eqA (q_call c_echo_of hr hG (by decide) (by rfl) (qa_cons (qv 0) qa_nil) rfl) (q_call c_echo_of hr hG (by decide) (by rfl) (qa_cons (qv 1) qa_nil) rfl) (nomark _)))))
  case go =>
    intro ds k hl h
    obtain ⟨xs, ys, a, rfl, hxy, h0, hn, ba, bb, a0, a1, h⟩ := h
    try simp only [↓r_V, ↓r_C, ↓r_Op, ↓r_B, ↓r_Chain, ↓r_And, ↓r_Or, ↓r_Not, ↓r_AndV, ↓r_OrV, ↓r_NotV, ↓r_If, ↓r_Un, ↓r_Add, ↓r_I, ↓r_I0, ↓r_Mul, ↓r_Eq, ↓r_Is, ↓r_Nil, ↓r_Cons, ↓r_Tup, ↓r_N, ↓r_CatN, ↓r_RepN, ↓r_No, ↓r_So, ↓r_Sl, ↓r_One, ↓r_Len, ↓r_Int1, ↓r_Int, ↓r_Sum, ↓r_Max, ↓r_All, ↓r_Min2, ↓r_Isi, ↓r_Repr, ↓r_TupOf, ↓r_LstOf, ↓r_Rd, ↓r_Rn, ↓r_Nm, ↓r_Gnil, ↓r_Gcons, ↓r_Gtup, ↓r_Glst, ↓r_Next, ↓r_Seq, ↓r_Cut, ↓r_Never, ↓r_Brk, ↓r_Cnt, ↓r_Drop, ↓r_Ret, ↓r_RetN, ↓r_IfS, ↓r_Set, ↓r_Asg, ↓r_Aug, ↓r_App, ↓r_Par, ↓r_Par3, ↓r_SeqI, ↓r_Rg1, ↓r_Rg2, ↓r_EnT, ↓r_For, ↓r_While, ↓r_Yes, ↓r_Lc, ↓r_Call, ↓r_CallF, ↓r_EqA, ↓r_asD, ↓r_seqOf, ↓r_dataOf, ↓r_isOw, ↓r_Ix, ↓r_Sub, ixx_some, at_0, at_1, at_2, at_3, at_4, ix_40, ix_41, ix_42, ix_43, RV.sl, b2n, Pu.isNon, notRaw, endP, endF, endL, slots0, wipeE, wipeL, List.map_cons, List.map_nil, List.length_cons, List.length_nil, decide_eq_true_eq, decide_true, decide_false, List.cons_append, List.nil_append, List.append_nil, List.replicate_succ, List.replicate_zero, List.getElem?_cons_zero, List.getElem?_cons_succ, List.set_cons_zero, List.set_cons_succ, Option.isSome_some, ite_true, ite_false, Bool.false_eq_true, true_and, and_true, if_true, if_false, Nat.reduceSub, Nat.reduceAdd, Nat.reduceLT, Bool.not_true, Bool.not_false, reduceIte, eq_self, okC_int, okC_bl, okC_lnil, eqD_lnil, okC_tI, okC_lI, eqD_int, eqD_bl, eqD_tups, eqD_lsts, isTy_int_int, isTy_int_bool, isTy_int_tuple, isTy_tup_tuple, isTy_tup_int, isTy_str_str, isTy_bl_int, isTy_bl_bool, List.length_map, List.length_range, ↓r_Rg3, ↓r_St, ↓r_Dc, ↓r_Dg, ↓r_In, ↓r_IxN, ↓r_Ss, ↓r_IsB, sd_need, sd_is_voice_of, sd_echo_of, ↓sd_need, ↓sd_is_voice_of, ↓sd_echo_of]
    refine ⟨ys, by rw [hxy], by omega, by omega, _, rfl, xs, a, rfl, h0, hn, ba, a0, a1, ys, a, rfl, by omega, by omega, bb, a0, a1, ?_⟩
    try simp only [↓r_V, ↓r_C, ↓r_Op, ↓r_B, ↓r_Chain, ↓r_And, ↓r_Or, ↓r_Not, ↓r_AndV, ↓r_OrV, ↓r_NotV, ↓r_If, ↓r_Un, ↓r_Add, ↓r_I, ↓r_I0, ↓r_Mul, ↓r_Eq, ↓r_Is, ↓r_Nil, ↓r_Cons, ↓r_Tup, ↓r_N, ↓r_CatN, ↓r_RepN, ↓r_No, ↓r_So, ↓r_Sl, ↓r_One, ↓r_Len, ↓r_Int1, ↓r_Int, ↓r_Sum, ↓r_Max, ↓r_All, ↓r_Min2, ↓r_Isi, ↓r_Repr, ↓r_TupOf, ↓r_LstOf, ↓r_Rd, ↓r_Rn, ↓r_Nm, ↓r_Gnil, ↓r_Gcons, ↓r_Gtup, ↓r_Glst, ↓r_Next, ↓r_Seq, ↓r_Cut, ↓r_Never, ↓r_Brk, ↓r_Cnt, ↓r_Drop, ↓r_Ret, ↓r_RetN, ↓r_IfS, ↓r_Set, ↓r_Asg, ↓r_Aug, ↓r_App, ↓r_Par, ↓r_Par3, ↓r_SeqI, ↓r_Rg1, ↓r_Rg2, ↓r_EnT, ↓r_For, ↓r_While, ↓r_Yes, ↓r_Lc, ↓r_Call, ↓r_CallF, ↓r_EqA, ↓r_asD, ↓r_seqOf, ↓r_dataOf, ↓r_isOw, ↓r_Ix, ↓r_Sub, ixx_some, at_0, at_1, at_2, at_3, at_4, ix_40, ix_41, ix_42, ix_43, RV.sl, b2n, Pu.isNon, notRaw, endP, endF, endL, slots0, wipeE, wipeL, List.map_cons, List.map_nil, List.length_cons, List.length_nil, decide_eq_true_eq, decide_true, decide_false, List.cons_append, List.nil_append, List.append_nil, List.replicate_succ, List.replicate_zero, List.getElem?_cons_zero, List.getElem?_cons_succ, List.set_cons_zero, List.set_cons_succ, Option.isSome_some, ite_true, ite_false, Bool.false_eq_true, true_and, and_true, if_true, if_false, Nat.reduceSub, Nat.reduceAdd, Nat.reduceLT, Bool.not_true, Bool.not_false, reduceIte, eq_self, okC_int, okC_bl, okC_lnil, eqD_lnil, okC_tI, okC_lI, eqD_int, eqD_bl, eqD_tups, eqD_lsts, isTy_int_int, isTy_int_bool, isTy_int_tuple, isTy_tup_tuple, isTy_tup_int, isTy_str_str, isTy_bl_int, isTy_bl_bool, List.length_map, List.length_range, ↓r_Rg3, ↓r_St, ↓r_Dc, ↓r_Dg, ↓r_In, ↓r_IxN, ↓r_Ss, ↓r_IsB, ↓sd_need, ↓sd_is_voice_of, ↓sd_echo_of]
    exact h
def sd__law_mirror : SpD := fun ds k => ∃ xs : List Int, ds = [tI xs] ∧ 0 < xs.length ∧ xs.length ≤ 1000 ∧ k (tI (mir xs))
theorem c__law_mirror (D : At K mg "_law_mirror" s__law_mirror ["_law_voice_here"]) (z_int : mg "int" = none) (z_len : mg "len" = none) (z_range : mg "range" = none) (z_tuple : mg "tuple" = none) : CalG P w K mg base 1 "_law_mirror" ["_law_voice_here"] (spP K 1 sd__law_mirror) := by
  have nd := sc__law_mirror.nd
  apply okP (F := Fd0) D sc__law_mirror (by decide)
  case body =>
    intro f cdv A outer s H E hr hG
    have hu64 := hr.units
    exact (qss_cons (qs_set (i := 1) nd rfl (.inr rfl) (qr_d (q_b1 (fun p => pe_callB call_len (by rfl) z_len PySem.boot_len (pa_cons p pa_nil)) l_len (qv 0))))
 (qss_one (qs_ret (q_tupOf (by rfl) z_tuple (q_n (qn_lc (own := [("_law_j", 2)]) rfl nd (qi_rg1 (by rfl) z_range (qv 1)) (blkOk_by (N := N__law_mirror) (sc := defScope s__law_mirror) (by decide +kernel)) (fun _ _ _ _ _ => (qg_name (i := 2) nd rfl (Or.inl rfl))) (fun _ _ _ _ _ => qts_nil) (fun _ _ _ _ _ => (q_ix (qv 0) (q_op op_mod l_mod (q_b1 (fun p => pe_callTy call_int1 (by rfl) z_int (by decide +kernel) (pa_cons p pa_nil)) l_int (q_op op_sub l_sub (qv 1) (qv 2))) (qv 1)) (fun _ _ => rfl)))))))))
  case go =>
    intro ds k hl h
    obtain ⟨xs, rfl, h0, hn, h⟩ := h
    try simp only [↓r_V, ↓r_C, ↓r_Op, ↓r_B, ↓r_Chain, ↓r_And, ↓r_Or, ↓r_Not, ↓r_AndV, ↓r_OrV, ↓r_NotV, ↓r_If, ↓r_Un, ↓r_Add, ↓r_I, ↓r_I0, ↓r_Mul, ↓r_Eq, ↓r_Is, ↓r_Nil, ↓r_Cons, ↓r_Tup, ↓r_N, ↓r_CatN, ↓r_RepN, ↓r_No, ↓r_So, ↓r_Sl, ↓r_One, ↓r_Len, ↓r_Int1, ↓r_Int, ↓r_Sum, ↓r_Max, ↓r_All, ↓r_Min2, ↓r_Isi, ↓r_Repr, ↓r_TupOf, ↓r_LstOf, ↓r_Rd, ↓r_Rn, ↓r_Nm, ↓r_Gnil, ↓r_Gcons, ↓r_Gtup, ↓r_Glst, ↓r_Next, ↓r_Seq, ↓r_Cut, ↓r_Never, ↓r_Brk, ↓r_Cnt, ↓r_Drop, ↓r_Ret, ↓r_RetN, ↓r_IfS, ↓r_Set, ↓r_Asg, ↓r_Aug, ↓r_App, ↓r_Par, ↓r_Par3, ↓r_SeqI, ↓r_Rg1, ↓r_Rg2, ↓r_EnT, ↓r_For, ↓r_While, ↓r_Yes, ↓r_Lc, ↓r_Call, ↓r_CallF, ↓r_EqA, ↓r_asD, ↓r_seqOf, ↓r_dataOf, ↓r_isOw, ↓r_Ix, ↓r_Sub, ixx_some, at_0, at_1, at_2, at_3, at_4, ix_40, ix_41, ix_42, ix_43, RV.sl, b2n, Pu.isNon, notRaw, endP, endF, endL, slots0, wipeE, wipeL, List.map_cons, List.map_nil, List.length_cons, List.length_nil, decide_eq_true_eq, decide_true, decide_false, List.cons_append, List.nil_append, List.append_nil, List.replicate_succ, List.replicate_zero, List.getElem?_cons_zero, List.getElem?_cons_succ, List.set_cons_zero, List.set_cons_succ, Option.isSome_some, ite_true, ite_false, Bool.false_eq_true, true_and, and_true, if_true, if_false, Nat.reduceSub, Nat.reduceAdd, Nat.reduceLT, Bool.not_true, Bool.not_false, reduceIte, eq_self, okC_int, okC_bl, okC_lnil, eqD_lnil, okC_tI, okC_lI, eqD_int, eqD_bl, eqD_tups, eqD_lsts, isTy_int_int, isTy_int_bool, isTy_int_tuple, isTy_tup_tuple, isTy_tup_int, isTy_str_str, isTy_bl_int, isTy_bl_bool, List.length_map, List.length_range, ↓r_Rg3, ↓r_St, ↓r_Dc, ↓r_Dg, ↓r_In, ↓r_IxN, ↓r_Ss, ↓r_IsB]
    refine ⟨⟨by omega, by omega⟩, lc_of (fun i => per xs (-i)) (by omega) (fun j hj Inv i acc h => ?_) ?_⟩
    · try simp only [↓r_V, ↓r_C, ↓r_Op, ↓r_B, ↓r_Chain, ↓r_And, ↓r_Or, ↓r_Not, ↓r_AndV, ↓r_OrV, ↓r_NotV, ↓r_If, ↓r_Un, ↓r_Add, ↓r_I, ↓r_I0, ↓r_Mul, ↓r_Eq, ↓r_Is, ↓r_Nil, ↓r_Cons, ↓r_Tup, ↓r_N, ↓r_CatN, ↓r_RepN, ↓r_No, ↓r_So, ↓r_Sl, ↓r_One, ↓r_Len, ↓r_Int1, ↓r_Int, ↓r_Sum, ↓r_Max, ↓r_All, ↓r_Min2, ↓r_Isi, ↓r_Repr, ↓r_TupOf, ↓r_LstOf, ↓r_Rd, ↓r_Rn, ↓r_Nm, ↓r_Gnil, ↓r_Gcons, ↓r_Gtup, ↓r_Glst, ↓r_Next, ↓r_Seq, ↓r_Cut, ↓r_Never, ↓r_Brk, ↓r_Cnt, ↓r_Drop, ↓r_Ret, ↓r_RetN, ↓r_IfS, ↓r_Set, ↓r_Asg, ↓r_Aug, ↓r_App, ↓r_Par, ↓r_Par3, ↓r_SeqI, ↓r_Rg1, ↓r_Rg2, ↓r_EnT, ↓r_For, ↓r_While, ↓r_Yes, ↓r_Lc, ↓r_Call, ↓r_CallF, ↓r_EqA, ↓r_asD, ↓r_seqOf, ↓r_dataOf, ↓r_isOw, ↓r_Ix, ↓r_Sub, ixx_some, at_0, at_1, at_2, at_3, at_4, ix_40, ix_41, ix_42, ix_43, RV.sl, b2n, Pu.isNon, notRaw, endP, endF, endL, slots0, wipeE, wipeL, List.map_cons, List.map_nil, List.length_cons, List.length_nil, decide_eq_true_eq, decide_true, decide_false, List.cons_append, List.nil_append, List.append_nil, List.replicate_succ, List.replicate_zero, List.getElem?_cons_zero, List.getElem?_cons_succ, List.set_cons_zero, List.set_cons_succ, Option.isSome_some, ite_true, ite_false, Bool.false_eq_true, true_and, and_true, if_true, if_false, Nat.reduceSub, Nat.reduceAdd, Nat.reduceLT, Bool.not_true, Bool.not_false, reduceIte, eq_self, okC_int, okC_bl, okC_lnil, eqD_lnil, okC_tI, okC_lI, eqD_int, eqD_bl, eqD_tups, eqD_lsts, isTy_int_int, isTy_int_bool, isTy_int_tuple, isTy_tup_tuple, isTy_tup_int, isTy_str_str, isTy_bl_int, isTy_bl_bool, List.length_map, List.length_range, ↓r_Rg3, ↓r_St, ↓r_Dc, ↓r_Dg, ↓r_In, ↓r_IxN, ↓r_Ss, ↓r_IsB]
      refine ⟨by omega, _, atI_per (Int.emod_nonneg _ (by omega)) (Int.emod_lt_of_pos _ (by omega)), ?_⟩
      rw [(per_per xs).mod h0, show (xs.length : Int) - j = -j + xs.length by omega, per_per xs]
      exact h
    · try simp only [↓r_V, ↓r_C, ↓r_Op, ↓r_B, ↓r_Chain, ↓r_And, ↓r_Or, ↓r_Not, ↓r_AndV, ↓r_OrV, ↓r_NotV, ↓r_If, ↓r_Un, ↓r_Add, ↓r_I, ↓r_I0, ↓r_Mul, ↓r_Eq, ↓r_Is, ↓r_Nil, ↓r_Cons, ↓r_Tup, ↓r_N, ↓r_CatN, ↓r_RepN, ↓r_No, ↓r_So, ↓r_Sl, ↓r_One, ↓r_Len, ↓r_Int1, ↓r_Int, ↓r_Sum, ↓r_Max, ↓r_All, ↓r_Min2, ↓r_Isi, ↓r_Repr, ↓r_TupOf, ↓r_LstOf, ↓r_Rd, ↓r_Rn, ↓r_Nm, ↓r_Gnil, ↓r_Gcons, ↓r_Gtup, ↓r_Glst, ↓r_Next, ↓r_Seq, ↓r_Cut, ↓r_Never, ↓r_Brk, ↓r_Cnt, ↓r_Drop, ↓r_Ret, ↓r_RetN, ↓r_IfS, ↓r_Set, ↓r_Asg, ↓r_Aug, ↓r_App, ↓r_Par, ↓r_Par3, ↓r_SeqI, ↓r_Rg1, ↓r_Rg2, ↓r_EnT, ↓r_For, ↓r_While, ↓r_Yes, ↓r_Lc, ↓r_Call, ↓r_CallF, ↓r_EqA, ↓r_asD, ↓r_seqOf, ↓r_dataOf, ↓r_isOw, ↓r_Ix, ↓r_Sub, ixx_some, at_0, at_1, at_2, at_3, at_4, ix_40, ix_41, ix_42, ix_43, RV.sl, b2n, Pu.isNon, notRaw, endP, endF, endL, slots0, wipeE, wipeL, List.map_cons, List.map_nil, List.length_cons, List.length_nil, decide_eq_true_eq, decide_true, decide_false, List.cons_append, List.nil_append, List.append_nil, List.replicate_succ, List.replicate_zero, List.getElem?_cons_zero, List.getElem?_cons_succ, List.set_cons_zero, List.set_cons_succ, Option.isSome_some, ite_true, ite_false, Bool.false_eq_true, true_and, and_true, if_true, if_false, Nat.reduceSub, Nat.reduceAdd, Nat.reduceLT, Bool.not_true, Bool.not_false, reduceIte, eq_self, okC_int, okC_bl, okC_lnil, eqD_lnil, okC_tI, okC_lI, eqD_int, eqD_bl, eqD_tups, eqD_lsts, isTy_int_int, isTy_int_bool, isTy_int_tuple, isTy_tup_tuple, isTy_tup_int, isTy_str_str, isTy_bl_int, isTy_bl_bool, List.length_map, List.length_range, ↓r_Rg3, ↓r_St, ↓r_Dc, ↓r_Dg, ↓r_In, ↓r_IxN, ↓r_Ss, ↓r_IsB]
      exact h
def sd__law_turn : SpD := fun ds k => ∃ (xs : List Int) (a : Int), ds = [tI xs, .int a] ∧ 0 < xs.length ∧ xs.length ≤ 1000 ∧ k (tI (turnV xs a))
theorem c__law_turn (D : At K mg "_law_turn" s__law_turn ["_law_voice_here", "_law_k"]) (z_int : mg "int" = none) (z_len : mg "len" = none) (z_range : mg "range" = none) (z_tuple : mg "tuple" = none) : CalG P w K mg base 1 "_law_turn" ["_law_voice_here", "_law_k"] (spP K 2 sd__law_turn) := by
  have nd := sc__law_turn.nd
  apply okP (F := Fd0) D sc__law_turn (by decide)
  case body =>
    intro f cdv A outer s H E hr hG
    have hu64 := hr.units
    exact (qss_cons (qs_set (i := 2) nd rfl (.inr rfl) (qr_d (q_b1 (fun p => pe_callB call_len (by rfl) z_len PySem.boot_len (pa_cons p pa_nil)) l_len (qv 0))))
 (qss_one (qs_ret (q_tupOf (by rfl) z_tuple (q_n (qn_lc (own := [("_law_j", 3)]) rfl nd (qi_rg1 (by rfl) z_range (qv 2)) (blkOk_by (N := N__law_turn) (sc := defScope s__law_turn) (by decide +kernel)) (fun _ _ _ _ _ => (qg_name (i := 3) nd rfl (Or.inl rfl))) (fun _ _ _ _ _ => qts_nil) (fun _ _ _ _ _ => (q_ix (qv 0) (q_op op_mod l_mod (q_b1 (fun p => pe_callTy call_int1 (by rfl) z_int (by decide +kernel) (pa_cons p pa_nil)) l_int (q_op op_sub l_sub (qv 3) (qv 1))) (qv 2)) (fun _ _ => rfl)))))))))
  case go =>
    intro ds k hl h
    obtain ⟨xs, a, rfl, h0, hn, h⟩ := h
    try simp only [↓r_V, ↓r_C, ↓r_Op, ↓r_B, ↓r_Chain, ↓r_And, ↓r_Or, ↓r_Not, ↓r_AndV, ↓r_OrV, ↓r_NotV, ↓r_If, ↓r_Un, ↓r_Add, ↓r_I, ↓r_I0, ↓r_Mul, ↓r_Eq, ↓r_Is, ↓r_Nil, ↓r_Cons, ↓r_Tup, ↓r_N, ↓r_CatN, ↓r_RepN, ↓r_No, ↓r_So, ↓r_Sl, ↓r_One, ↓r_Len, ↓r_Int1, ↓r_Int, ↓r_Sum, ↓r_Max, ↓r_All, ↓r_Min2, ↓r_Isi, ↓r_Repr, ↓r_TupOf, ↓r_LstOf, ↓r_Rd, ↓r_Rn, ↓r_Nm, ↓r_Gnil, ↓r_Gcons, ↓r_Gtup, ↓r_Glst, ↓r_Next, ↓r_Seq, ↓r_Cut, ↓r_Never, ↓r_Brk, ↓r_Cnt, ↓r_Drop, ↓r_Ret, ↓r_RetN, ↓r_IfS, ↓r_Set, ↓r_Asg, ↓r_Aug, ↓r_App, ↓r_Par, ↓r_Par3, ↓r_SeqI, ↓r_Rg1, ↓r_Rg2, ↓r_EnT, ↓r_For, ↓r_While, ↓r_Yes, ↓r_Lc, ↓r_Call, ↓r_CallF, ↓r_EqA, ↓r_asD, ↓r_seqOf, ↓r_dataOf, ↓r_isOw, ↓r_Ix, ↓r_Sub, ixx_some, at_0, at_1, at_2, at_3, at_4, ix_40, ix_41, ix_42, ix_43, RV.sl, b2n, Pu.isNon, notRaw, endP, endF, endL, slots0, wipeE, wipeL, List.map_cons, List.map_nil, List.length_cons, List.length_nil, decide_eq_true_eq, decide_true, decide_false, List.cons_append, List.nil_append, List.append_nil, List.replicate_succ, List.replicate_zero, List.getElem?_cons_zero, List.getElem?_cons_succ, List.set_cons_zero, List.set_cons_succ, Option.isSome_some, ite_true, ite_false, Bool.false_eq_true, true_and, and_true, if_true, if_false, Nat.reduceSub, Nat.reduceAdd, Nat.reduceLT, Bool.not_true, Bool.not_false, reduceIte, eq_self, okC_int, okC_bl, okC_lnil, eqD_lnil, okC_tI, okC_lI, eqD_int, eqD_bl, eqD_tups, eqD_lsts, isTy_int_int, isTy_int_bool, isTy_int_tuple, isTy_tup_tuple, isTy_tup_int, isTy_str_str, isTy_bl_int, isTy_bl_bool, List.length_map, List.length_range, ↓r_Rg3, ↓r_St, ↓r_Dc, ↓r_Dg, ↓r_In, ↓r_IxN, ↓r_Ss, ↓r_IsB]
    refine ⟨⟨by omega, by omega⟩, lc_of (fun i => per xs (i - a)) (by omega) (fun j hj Inv i acc h => ?_) ?_⟩
    · try simp only [↓r_V, ↓r_C, ↓r_Op, ↓r_B, ↓r_Chain, ↓r_And, ↓r_Or, ↓r_Not, ↓r_AndV, ↓r_OrV, ↓r_NotV, ↓r_If, ↓r_Un, ↓r_Add, ↓r_I, ↓r_I0, ↓r_Mul, ↓r_Eq, ↓r_Is, ↓r_Nil, ↓r_Cons, ↓r_Tup, ↓r_N, ↓r_CatN, ↓r_RepN, ↓r_No, ↓r_So, ↓r_Sl, ↓r_One, ↓r_Len, ↓r_Int1, ↓r_Int, ↓r_Sum, ↓r_Max, ↓r_All, ↓r_Min2, ↓r_Isi, ↓r_Repr, ↓r_TupOf, ↓r_LstOf, ↓r_Rd, ↓r_Rn, ↓r_Nm, ↓r_Gnil, ↓r_Gcons, ↓r_Gtup, ↓r_Glst, ↓r_Next, ↓r_Seq, ↓r_Cut, ↓r_Never, ↓r_Brk, ↓r_Cnt, ↓r_Drop, ↓r_Ret, ↓r_RetN, ↓r_IfS, ↓r_Set, ↓r_Asg, ↓r_Aug, ↓r_App, ↓r_Par, ↓r_Par3, ↓r_SeqI, ↓r_Rg1, ↓r_Rg2, ↓r_EnT, ↓r_For, ↓r_While, ↓r_Yes, ↓r_Lc, ↓r_Call, ↓r_CallF, ↓r_EqA, ↓r_asD, ↓r_seqOf, ↓r_dataOf, ↓r_isOw, ↓r_Ix, ↓r_Sub, ixx_some, at_0, at_1, at_2, at_3, at_4, ix_40, ix_41, ix_42, ix_43, RV.sl, b2n, Pu.isNon, notRaw, endP, endF, endL, slots0, wipeE, wipeL, List.map_cons, List.map_nil, List.length_cons, List.length_nil, decide_eq_true_eq, decide_true, decide_false, List.cons_append, List.nil_append, List.append_nil, List.replicate_succ, List.replicate_zero, List.getElem?_cons_zero, List.getElem?_cons_succ, List.set_cons_zero, List.set_cons_succ, Option.isSome_some, ite_true, ite_false, Bool.false_eq_true, true_and, and_true, if_true, if_false, Nat.reduceSub, Nat.reduceAdd, Nat.reduceLT, Bool.not_true, Bool.not_false, reduceIte, eq_self, okC_int, okC_bl, okC_lnil, eqD_lnil, okC_tI, okC_lI, eqD_int, eqD_bl, eqD_tups, eqD_lsts, isTy_int_int, isTy_int_bool, isTy_int_tuple, isTy_tup_tuple, isTy_tup_int, isTy_str_str, isTy_bl_int, isTy_bl_bool, List.length_map, List.length_range, ↓r_Rg3, ↓r_St, ↓r_Dc, ↓r_Dg, ↓r_In, ↓r_IxN, ↓r_Ss, ↓r_IsB]
      refine ⟨by omega, _, atI_per (Int.emod_nonneg _ (by omega)) (Int.emod_lt_of_pos _ (by omega)), ?_⟩
      rw [(per_per xs).mod h0]
      exact h
    · try simp only [↓r_V, ↓r_C, ↓r_Op, ↓r_B, ↓r_Chain, ↓r_And, ↓r_Or, ↓r_Not, ↓r_AndV, ↓r_OrV, ↓r_NotV, ↓r_If, ↓r_Un, ↓r_Add, ↓r_I, ↓r_I0, ↓r_Mul, ↓r_Eq, ↓r_Is, ↓r_Nil, ↓r_Cons, ↓r_Tup, ↓r_N, ↓r_CatN, ↓r_RepN, ↓r_No, ↓r_So, ↓r_Sl, ↓r_One, ↓r_Len, ↓r_Int1, ↓r_Int, ↓r_Sum, ↓r_Max, ↓r_All, ↓r_Min2, ↓r_Isi, ↓r_Repr, ↓r_TupOf, ↓r_LstOf, ↓r_Rd, ↓r_Rn, ↓r_Nm, ↓r_Gnil, ↓r_Gcons, ↓r_Gtup, ↓r_Glst, ↓r_Next, ↓r_Seq, ↓r_Cut, ↓r_Never, ↓r_Brk, ↓r_Cnt, ↓r_Drop, ↓r_Ret, ↓r_RetN, ↓r_IfS, ↓r_Set, ↓r_Asg, ↓r_Aug, ↓r_App, ↓r_Par, ↓r_Par3, ↓r_SeqI, ↓r_Rg1, ↓r_Rg2, ↓r_EnT, ↓r_For, ↓r_While, ↓r_Yes, ↓r_Lc, ↓r_Call, ↓r_CallF, ↓r_EqA, ↓r_asD, ↓r_seqOf, ↓r_dataOf, ↓r_isOw, ↓r_Ix, ↓r_Sub, ixx_some, at_0, at_1, at_2, at_3, at_4, ix_40, ix_41, ix_42, ix_43, RV.sl, b2n, Pu.isNon, notRaw, endP, endF, endL, slots0, wipeE, wipeL, List.map_cons, List.map_nil, List.length_cons, List.length_nil, decide_eq_true_eq, decide_true, decide_false, List.cons_append, List.nil_append, List.append_nil, List.replicate_succ, List.replicate_zero, List.getElem?_cons_zero, List.getElem?_cons_succ, List.set_cons_zero, List.set_cons_succ, Option.isSome_some, ite_true, ite_false, Bool.false_eq_true, true_and, and_true, if_true, if_false, Nat.reduceSub, Nat.reduceAdd, Nat.reduceLT, Bool.not_true, Bool.not_false, reduceIte, eq_self, okC_int, okC_bl, okC_lnil, eqD_lnil, okC_tI, okC_lI, eqD_int, eqD_bl, eqD_tups, eqD_lsts, isTy_int_int, isTy_int_bool, isTy_int_tuple, isTy_tup_tuple, isTy_tup_int, isTy_str_str, isTy_bl_int, isTy_bl_bool, List.length_map, List.length_range, ↓r_Rg3, ↓r_St, ↓r_Dc, ↓r_Dg, ↓r_In, ↓r_IxN, ↓r_Ss, ↓r_IsB]
      exact h
def sd_turned : SpD := fun ds k => ∃ (xs : List Int) (a : Int), ds = [tI xs, .int a] ∧ 0 < xs.length ∧ xs.length ≤ 1000 ∧ k (tI (turnV xs a))
theorem c_turned (D : At K mg "turned" s_turned ["voice", "k"]) (c_need : CalG P w K mg base 1 "need" ["fits", "word"] (spP K 2 sd_need)) (c_is_voice : CalG P w K mg base 3 "is_voice" ["thing"] (spP K 1 sd_is_voice)) (c_is_integer : CalG P w K mg base 1 "is_integer" ["thing"] (spP K 1 sd_is_integer)) (z_len : mg "len" = none) (z_range : mg "range" = none) (z_tuple : mg "tuple" = none) : CalG P w K mg base 4 "turned" ["voice", "k"] (spP K 2 sd_turned) := by
  have nd := sc_turned.nd
  apply okP (F := Fd0) D sc_turned (by decide)
  case body =>
    intro f cdv A outer s H E hr hG
    have hu64 := hr.units
    exact (qss_cons (qs_expr (q_call c_need hr hG (by decide) (by rfl) (qa_cons (q_call c_is_voice hr hG (by decide) (by rfl) (qa_cons (qv 0) qa_nil) rfl) (qa_cons q_str qa_nil)) rfl))
 (qss_cons (qs_expr (q_call c_need hr hG (by decide) (by rfl) (qa_cons (q_call c_is_integer hr hG (by decide) (by rfl) (qa_cons (qv 1) qa_nil) rfl) (qa_cons q_str qa_nil)) rfl))
 (qss_cons (qs_set (i := 2) nd rfl (.inr rfl) (qr_d (q_b1 (fun p => pe_callB call_len (by rfl) z_len PySem.boot_len (pa_cons p pa_nil)) l_len (qv 0))))
 (qss_one (qs_ret (q_tupOf (by rfl) z_tuple (q_n (qn_lc (own := [("beat", 3)]) rfl nd (qi_rg1 (by rfl) z_range (qv 2)) (blkOk_by (N := N_turned) (sc := defScope s_turned) (by decide +kernel)) (fun _ _ _ _ _ => (qg_name (i := 3) nd rfl (Or.inl rfl))) (fun _ _ _ _ _ => qts_nil) (fun _ _ _ _ _ => (q_ix (qv 0) (q_op op_mod l_mod (q_op op_sub l_sub (qv 3) (qv 1)) (qv 2)) (fun _ _ => rfl)))))))))))
  case go =>
    intro ds k hl h
    obtain ⟨xs, a, rfl, h0, hn, h⟩ := h
    try simp only [↓r_V, ↓r_C, ↓r_Op, ↓r_B, ↓r_Chain, ↓r_And, ↓r_Or, ↓r_Not, ↓r_AndV, ↓r_OrV, ↓r_NotV, ↓r_If, ↓r_Un, ↓r_Add, ↓r_I, ↓r_I0, ↓r_Mul, ↓r_Eq, ↓r_Is, ↓r_Nil, ↓r_Cons, ↓r_Tup, ↓r_N, ↓r_CatN, ↓r_RepN, ↓r_No, ↓r_So, ↓r_Sl, ↓r_One, ↓r_Len, ↓r_Int1, ↓r_Int, ↓r_Sum, ↓r_Max, ↓r_All, ↓r_Min2, ↓r_Isi, ↓r_Repr, ↓r_TupOf, ↓r_LstOf, ↓r_Rd, ↓r_Rn, ↓r_Nm, ↓r_Gnil, ↓r_Gcons, ↓r_Gtup, ↓r_Glst, ↓r_Next, ↓r_Seq, ↓r_Cut, ↓r_Never, ↓r_Brk, ↓r_Cnt, ↓r_Drop, ↓r_Ret, ↓r_RetN, ↓r_IfS, ↓r_Set, ↓r_Asg, ↓r_Aug, ↓r_App, ↓r_Par, ↓r_Par3, ↓r_SeqI, ↓r_Rg1, ↓r_Rg2, ↓r_EnT, ↓r_For, ↓r_While, ↓r_Yes, ↓r_Lc, ↓r_Call, ↓r_CallF, ↓r_EqA, ↓r_asD, ↓r_seqOf, ↓r_dataOf, ↓r_isOw, ↓r_Ix, ↓r_Sub, ixx_some, at_0, at_1, at_2, at_3, at_4, ix_40, ix_41, ix_42, ix_43, RV.sl, b2n, Pu.isNon, notRaw, endP, endF, endL, slots0, wipeE, wipeL, List.map_cons, List.map_nil, List.length_cons, List.length_nil, decide_eq_true_eq, decide_true, decide_false, List.cons_append, List.nil_append, List.append_nil, List.replicate_succ, List.replicate_zero, List.getElem?_cons_zero, List.getElem?_cons_succ, List.set_cons_zero, List.set_cons_succ, Option.isSome_some, ite_true, ite_false, Bool.false_eq_true, true_and, and_true, if_true, if_false, Nat.reduceSub, Nat.reduceAdd, Nat.reduceLT, Bool.not_true, Bool.not_false, reduceIte, eq_self, okC_int, okC_bl, okC_lnil, eqD_lnil, okC_tI, okC_lI, eqD_int, eqD_bl, eqD_tups, eqD_lsts, isTy_int_int, isTy_int_bool, isTy_int_tuple, isTy_tup_tuple, isTy_tup_int, isTy_str_str, isTy_bl_int, isTy_bl_bool, List.length_map, List.length_range, ↓r_Rg3, ↓r_St, ↓r_Dc, ↓r_Dg, ↓r_In, ↓r_IxN, ↓r_Ss, ↓r_IsB, ↓sd_need, ↓sd_is_voice, ↓sd_is_integer]
    refine ⟨xs, rfl, h0, hn, _, rfl, a, rfl, _, rfl, ⟨by omega, by omega⟩, lc_of (fun i => per xs (i - a)) (by omega) (fun j hj Inv i acc h => ?_) ?_⟩
    · try simp only [↓r_V, ↓r_C, ↓r_Op, ↓r_B, ↓r_Chain, ↓r_And, ↓r_Or, ↓r_Not, ↓r_AndV, ↓r_OrV, ↓r_NotV, ↓r_If, ↓r_Un, ↓r_Add, ↓r_I, ↓r_I0, ↓r_Mul, ↓r_Eq, ↓r_Is, ↓r_Nil, ↓r_Cons, ↓r_Tup, ↓r_N, ↓r_CatN, ↓r_RepN, ↓r_No, ↓r_So, ↓r_Sl, ↓r_One, ↓r_Len, ↓r_Int1, ↓r_Int, ↓r_Sum, ↓r_Max, ↓r_All, ↓r_Min2, ↓r_Isi, ↓r_Repr, ↓r_TupOf, ↓r_LstOf, ↓r_Rd, ↓r_Rn, ↓r_Nm, ↓r_Gnil, ↓r_Gcons, ↓r_Gtup, ↓r_Glst, ↓r_Next, ↓r_Seq, ↓r_Cut, ↓r_Never, ↓r_Brk, ↓r_Cnt, ↓r_Drop, ↓r_Ret, ↓r_RetN, ↓r_IfS, ↓r_Set, ↓r_Asg, ↓r_Aug, ↓r_App, ↓r_Par, ↓r_Par3, ↓r_SeqI, ↓r_Rg1, ↓r_Rg2, ↓r_EnT, ↓r_For, ↓r_While, ↓r_Yes, ↓r_Lc, ↓r_Call, ↓r_CallF, ↓r_EqA, ↓r_asD, ↓r_seqOf, ↓r_dataOf, ↓r_isOw, ↓r_Ix, ↓r_Sub, ixx_some, at_0, at_1, at_2, at_3, at_4, ix_40, ix_41, ix_42, ix_43, RV.sl, b2n, Pu.isNon, notRaw, endP, endF, endL, slots0, wipeE, wipeL, List.map_cons, List.map_nil, List.length_cons, List.length_nil, decide_eq_true_eq, decide_true, decide_false, List.cons_append, List.nil_append, List.append_nil, List.replicate_succ, List.replicate_zero, List.getElem?_cons_zero, List.getElem?_cons_succ, List.set_cons_zero, List.set_cons_succ, Option.isSome_some, ite_true, ite_false, Bool.false_eq_true, true_and, and_true, if_true, if_false, Nat.reduceSub, Nat.reduceAdd, Nat.reduceLT, Bool.not_true, Bool.not_false, reduceIte, eq_self, okC_int, okC_bl, okC_lnil, eqD_lnil, okC_tI, okC_lI, eqD_int, eqD_bl, eqD_tups, eqD_lsts, isTy_int_int, isTy_int_bool, isTy_int_tuple, isTy_tup_tuple, isTy_tup_int, isTy_str_str, isTy_bl_int, isTy_bl_bool, List.length_map, List.length_range, ↓r_Rg3, ↓r_St, ↓r_Dc, ↓r_Dg, ↓r_In, ↓r_IxN, ↓r_Ss, ↓r_IsB, ↓sd_need, ↓sd_is_voice, ↓sd_is_integer]
      refine ⟨by omega, _, atI_per (Int.emod_nonneg _ (by omega)) (Int.emod_lt_of_pos _ (by omega)), ?_⟩
      rw [(per_per xs).mod h0]
      exact h
    · try simp only [↓r_V, ↓r_C, ↓r_Op, ↓r_B, ↓r_Chain, ↓r_And, ↓r_Or, ↓r_Not, ↓r_AndV, ↓r_OrV, ↓r_NotV, ↓r_If, ↓r_Un, ↓r_Add, ↓r_I, ↓r_I0, ↓r_Mul, ↓r_Eq, ↓r_Is, ↓r_Nil, ↓r_Cons, ↓r_Tup, ↓r_N, ↓r_CatN, ↓r_RepN, ↓r_No, ↓r_So, ↓r_Sl, ↓r_One, ↓r_Len, ↓r_Int1, ↓r_Int, ↓r_Sum, ↓r_Max, ↓r_All, ↓r_Min2, ↓r_Isi, ↓r_Repr, ↓r_TupOf, ↓r_LstOf, ↓r_Rd, ↓r_Rn, ↓r_Nm, ↓r_Gnil, ↓r_Gcons, ↓r_Gtup, ↓r_Glst, ↓r_Next, ↓r_Seq, ↓r_Cut, ↓r_Never, ↓r_Brk, ↓r_Cnt, ↓r_Drop, ↓r_Ret, ↓r_RetN, ↓r_IfS, ↓r_Set, ↓r_Asg, ↓r_Aug, ↓r_App, ↓r_Par, ↓r_Par3, ↓r_SeqI, ↓r_Rg1, ↓r_Rg2, ↓r_EnT, ↓r_For, ↓r_While, ↓r_Yes, ↓r_Lc, ↓r_Call, ↓r_CallF, ↓r_EqA, ↓r_asD, ↓r_seqOf, ↓r_dataOf, ↓r_isOw, ↓r_Ix, ↓r_Sub, ixx_some, at_0, at_1, at_2, at_3, at_4, ix_40, ix_41, ix_42, ix_43, RV.sl, b2n, Pu.isNon, notRaw, endP, endF, endL, slots0, wipeE, wipeL, List.map_cons, List.map_nil, List.length_cons, List.length_nil, decide_eq_true_eq, decide_true, decide_false, List.cons_append, List.nil_append, List.append_nil, List.replicate_succ, List.replicate_zero, List.getElem?_cons_zero, List.getElem?_cons_succ, List.set_cons_zero, List.set_cons_succ, Option.isSome_some, ite_true, ite_false, Bool.false_eq_true, true_and, and_true, if_true, if_false, Nat.reduceSub, Nat.reduceAdd, Nat.reduceLT, Bool.not_true, Bool.not_false, reduceIte, eq_self, okC_int, okC_bl, okC_lnil, eqD_lnil, okC_tI, okC_lI, eqD_int, eqD_bl, eqD_tups, eqD_lsts, isTy_int_int, isTy_int_bool, isTy_int_tuple, isTy_tup_tuple, isTy_tup_int, isTy_str_str, isTy_bl_int, isTy_bl_bool, List.length_map, List.length_range, ↓r_Rg3, ↓r_St, ↓r_Dc, ↓r_Dg, ↓r_In, ↓r_IxN, ↓r_Ss, ↓r_IsB, ↓sd_need, ↓sd_is_voice, ↓sd_is_integer]
      exact h
end
end U32

set_option Elab.async false
set_option linter.all false
set_option maxRecDepth 100000
set_option maxHeartbeats 4000000
namespace U32
open PySem PySem.Spec PyProof.Rows L2 Gd RZ Pu Pv Pm

theorem rk_inj {c B : Int} : ∀ {x y : List Int}, x.length = y.length → Ts.Dg c B x → Ts.Dg c B y → Ts.rk c B x = Ts.rk c B y → x = y
  | [], [], _, _, _, _ => rfl
  | a :: x, b :: y, hl, hx, hy, e => by
    have hl2 : x.length = y.length := Nat.succ.inj hl
    have hab : a = b := by
      rcases Int.lt_trichotomy a b with k | k | k
      · exact absurd (Ts.rk_lt hl2 hx.tail hy.tail k) (by rw [e]; omega)
      · exact k
      · exact absurd (Ts.rk_lt hl2.symm hy.tail hx.tail k) (by rw [e]; omega)
    subst hab
    have : Ts.rk c B x = Ts.rk c B y := by
      rcases Int.lt_trichotomy (Ts.rk c B x) (Ts.rk c B y) with k | k | k
      · exact absurd ((Ts.rk_same hl2).mpr k) (by rw [e]; omega)
      · exact k
      · exact absurd ((Ts.rk_same hl2.symm).mpr k) (by rw [e]; omega)
    rw [rk_inj hl2 hx.tail hy.tail this]
theorem dg_of {xs : List Int} (h : Bd 6 xs) : Ts.Dg 64 128 xs := fun x hx => by have := h x hx; omega
/-- the kin, sorted -/
structure IsKin (xs : List Int) (out : List (List Int)) : Prop where
  nd : out.Nodup
  mem : ∀ x, x ∈ out ↔ x ∈ kinL xs
  srt : srt 64 128 out
theorem bd_kin {xs ys : List Int} (h : 0 < xs.length) (b : Bd 6 xs) (m : ys ∈ kinL xs) : Bd 6 ys := by
  rcases (mem_kin h).mp m with ⟨k, rfl⟩ | ⟨k, rfl⟩
  · exact bd_turn k b
  · exact bd_turn k (bd_mir b)
theorem IsKin.eq {xs ys : List Int} {a b : List (List Int)} (h : 0 < xs.length) (bx : Bd 6 xs) (ha : IsKin xs a) (hb : IsKin ys b) (m : ys ∈ kinL xs) : a = b :=
  perm_sorted ha.nd hb.nd (fun z => by rw [ha.mem, hb.mem, kin_same h m]) (fun x hx y hy e => rk_inj (by rw [kin_len h ((ha.mem x).mp hx), kin_len h ((ha.mem y).mp hy)]) (dg_of (bd_kin h bx ((ha.mem x).mp hx))) (dg_of (bd_kin h bx ((ha.mem y).mp hy))) e) ha.srt hb.srt
theorem IsKin.pos {xs : List Int} {a : List (List Int)} (h : 0 < xs.length) (ha : IsKin xs a) : 0 < a.length := List.length_pos_of_mem ((ha.mem xs).mpr (kin_self h))
theorem head_mem {α : Type} {a : List α} {d : α} (h : 0 < a.length) : a.headD d ∈ a := by
  cases a with
  | nil => cases h
  | cons x a => exact List.mem_cons_self
theorem head_at {a : List (List Int)} (h : 0 < a.length) : atI (a.map fun r => (tI r : Pu.D)) 0 = some (tI (a.headD [])) := by
  cases a with
  | nil => cases h
  | cons x a => exact at_0
theorem turns_map (xs : List Int) : ((List.range (xs.length : Int).toNat).map fun k : Nat => (tI (turnV xs k) : Pu.D)) = (turnsL xs).map fun r => (tI r : Pu.D) := by
  unfold turnsL
  rw [List.map_map, Int.toNat_natCast]
  rfl
theorem turns_len (xs : List Int) : (turnsL xs).length = xs.length := by
  unfold turnsL
  rw [List.length_map, List.length_range]
theorem turns_get {xs : List Int} {j : Nat} (h : j < xs.length) : (turnsL xs)[j]? = some (turnV xs j) := by
  unfold turnsL
  rw [List.getElem?_map, List.getElem?_range h]
  rfl
/-- the first turn that it is -/
def stp (xs ys : List Int) : Pu.D := match (turnsL xs).findIdx? (· == ys) with
  | some j => .tup [.str "turned", .int (j : Nat)]
  | none => match (turnsL (mir xs)).findIdx? (· == ys) with
    | some j => .tup [.str "mirrored", .int (j : Nat)]
    | none => .non
theorem first_at {nss : List (List Int)} {ys : List Int} {j : Nat} (e : nss[j]? = some ys) (no : ∀ m, m < j → nss[m]? ≠ some ys) : nss.findIdx? (· == ys) = some j := by
  rw [List.findIdx?_eq_some_iff_getElem]
  obtain ⟨h, e⟩ := List.getElem?_eq_some_iff.mp e
  refine ⟨h, by simp [e], fun m hm z => ?_⟩
  have z : nss[m]'(by omega) = ys := by simpa using z
  exact no m hm (List.getElem?_eq_some_iff.mpr ⟨_, z⟩)
theorem first_no {nss : List (List Int)} {ys : List Int} (no : ys ∉ nss) : nss.findIdx? (· == ys) = none := by
  rw [List.findIdx?_eq_none_iff]
  intro x hx
  simp only [beq_eq_false_iff_ne, ne_eq]
  intro z
  exact no (z ▸ hx)
theorem first_get {nss : List (List Int)} {ys : List Int} {j : Nat} (e : nss.findIdx? (· == ys) = some j) : nss[j]? = some ys := by
  rw [List.findIdx?_eq_some_iff_getElem] at e
  obtain ⟨h, e, _⟩ := e
  exact List.getElem?_eq_some_iff.mpr ⟨h, by simpa using e⟩
theorem first_mem {nss : List (List Int)} {ys : List Int} (m : ys ∈ nss) : ∃ j, nss.findIdx? (· == ys) = some j := by
  cases e : nss.findIdx? (· == ys) with
  | some j => exact ⟨j, rfl⟩
  | none =>
    rw [List.findIdx?_eq_none_iff] at e
    have := e ys m
    simp at this
/-- what index needs -/
theorem step_ix {nss : List (List Int)} {ys : List Int} {j : Nat} (e : nss.findIdx? (· == ys) = some j) : (∃ z : Pu.D, (nss.map fun r => (tI r : Pu.D))[j]? = some z ∧ eqD z (tI ys) = true) ∧ (∀ (m : Nat) (z : Pu.D), m < j → (nss.map fun r => (tI r : Pu.D))[m]? = some z → eqD z (tI ys) = false) := by
  rw [List.findIdx?_eq_some_iff_getElem] at e
  obtain ⟨h, e, no⟩ := e
  have e : nss[j] = ys := by simpa using e
  refine ⟨⟨tI nss[j], by rw [List.getElem?_map, List.getElem?_eq_getElem h]; rfl, ?_⟩, fun m z hm hz => ?_⟩
  · rw [eqD_tups, e, decide_eq_true rfl]
  · rw [List.getElem?_map, List.getElem?_eq_getElem (by omega)] at hz
    cases hz
    have := no m hm
    rw [eqD_tups, decide_eq_false (by simpa using this)]
/-- what the step is -/
theorem stp_cases {xs : List Int} (h : 0 < xs.length) (ys : List Int) : ((∃ k : Int, turnV xs k = ys) ∧ ∃ j : Nat, j < xs.length ∧ stp xs ys = .tup [.str "turned", .int (j : Nat)] ∧ turnV xs j = ys) ∨
    ((¬∃ k : Int, turnV xs k = ys) ∧ (∃ k : Int, turnV (mir xs) k = ys) ∧ ∃ j : Nat, j < xs.length ∧ stp xs ys = .tup [.str "mirrored", .int (j : Nat)] ∧ turnV (mir xs) j = ys) ∨ (ys ∉ kinL xs ∧ stp xs ys = .non) := by
  have hm : 0 < (mir xs).length := by rw [mir_len]; exact h
  have idx : ∀ {zs : List Int} {j : Nat}, (turnsL zs)[j]? = some ys → j < zs.length ∧ turnV zs j = ys := fun {zs j} e => by
    have hj : j < zs.length := by have := (List.getElem?_eq_some_iff.mp e).1; rwa [turns_len] at this
    rw [turns_get hj] at e
    exact ⟨hj, Option.some.inj e⟩
  by_cases a : ys ∈ turnsL xs
  · obtain ⟨j, e⟩ := first_mem a
    refine .inl ⟨(mem_turns h).mp a, j, (idx (first_get e)).1, ?_, (idx (first_get e)).2⟩
    unfold stp
    rw [e]
  · by_cases b : ys ∈ turnsL (mir xs)
    · obtain ⟨j, e⟩ := first_mem b
      refine .inr (.inl ⟨fun z => a ((mem_turns h).mpr z), (mem_turns hm).mp b, j, mir_len xs ▸ (idx (first_get e)).1, ?_, (idx (first_get e)).2⟩)
      unfold stp
      rw [first_no a, e]
    · refine .inr (.inr ⟨fun z => (List.mem_append.mp z).elim a b, ?_⟩)
      unfold stp
      rw [first_no a, first_no b]
section
variable {P : Program} {w : World} {K : PySem.W.Frag} {mg : Str → Option Value} {base : Heap}
def sd_turns_of : SpD := fun ds k => ∃ xs : List Int, ds = [tI xs] ∧ 0 < xs.length ∧ xs.length ≤ 30 ∧ k (.lst ((turnsL xs).map fun r => (tI r : Pu.D)))
theorem c_turns_of (D : At K mg "turns_of" s_turns_of ["voice"]) (c_turned : CalG P w K mg base 4 "turned" ["voice", "k"] (spP K 2 sd_turned)) (z_len : mg "len" = none) (z_range : mg "range" = none) : CalG P w K mg base 5 "turns_of" ["voice"] (spP K 1 sd_turns_of) := by
  have nd := sc_turns_of.nd
  apply okP (F := Fd0) D sc_turns_of (by decide)
  case body =>
    intro f cdv A outer s H E hr hG
    have hu64 := hr.units
    exact (qss_one (qs_ret (q_n (qn_lc (own := [("k", 1)]) rfl nd (qi_rg1 (by rfl) z_range (q_b1 (fun p => pe_callB call_len (by rfl) z_len PySem.boot_len (pa_cons p pa_nil)) l_len (qv 0))) (blkOk_by (N := N_turns_of) (sc := defScope s_turns_of) (by decide +kernel)) (fun _ _ _ _ _ => (qg_name (i := 1) nd rfl (Or.inl rfl))) (fun _ _ _ _ _ => qts_nil) (fun _ _ _ _ _ => (q_call c_turned hr hG (by decide) (by rfl) (qa_cons (qv 0) (qa_cons (qv 1) qa_nil)) rfl))))))
  case go =>
    intro ds k hl h
    obtain ⟨xs, rfl, h0, hn, h⟩ := h
    try simp only [↓r_V, ↓r_C, ↓r_Op, ↓r_B, ↓r_Chain, ↓r_And, ↓r_Or, ↓r_Not, ↓r_AndV, ↓r_OrV, ↓r_NotV, ↓r_If, ↓r_Un, ↓r_Add, ↓r_I, ↓r_I0, ↓r_Mul, ↓r_Eq, ↓r_Is, ↓r_Nil, ↓r_Cons, ↓r_Tup, ↓r_N, ↓r_CatN, ↓r_RepN, ↓r_No, ↓r_So, ↓r_Sl, ↓r_One, ↓r_Len, ↓r_Int1, ↓r_Int, ↓r_Sum, ↓r_Max, ↓r_All, ↓r_Min2, ↓r_Isi, ↓r_Repr, ↓r_TupOf, ↓r_LstOf, ↓r_Rd, ↓r_Rn, ↓r_Nm, ↓r_Gnil, ↓r_Gcons, ↓r_Gtup, ↓r_Glst, ↓r_Next, ↓r_Seq, ↓r_Cut, ↓r_Never, ↓r_Brk, ↓r_Cnt, ↓r_Drop, ↓r_Ret, ↓r_RetN, ↓r_IfS, ↓r_Set, ↓r_Asg, ↓r_Aug, ↓r_App, ↓r_Par, ↓r_Par3, ↓r_SeqI, ↓r_Rg1, ↓r_Rg2, ↓r_EnT, ↓r_For, ↓r_While, ↓r_Yes, ↓r_Lc, ↓r_Call, ↓r_CallF, ↓r_EqA, ↓r_asD, ↓r_seqOf, ↓r_dataOf, ↓r_isOw, ↓r_Ix, ↓r_Sub, ixx_some, at_0, at_1, at_2, at_3, at_4, ix_40, ix_41, ix_42, ix_43, RV.sl, b2n, Pu.isNon, notRaw, endP, endF, endL, slots0, wipeE, wipeL, List.map_cons, List.map_nil, List.length_cons, List.length_nil, decide_eq_true_eq, decide_true, decide_false, List.cons_append, List.nil_append, List.append_nil, List.replicate_succ, List.replicate_zero, List.getElem?_cons_zero, List.getElem?_cons_succ, List.set_cons_zero, List.set_cons_succ, Option.isSome_some, ite_true, ite_false, Bool.false_eq_true, true_and, and_true, if_true, if_false, Nat.reduceSub, Nat.reduceAdd, Nat.reduceLT, Bool.not_true, Bool.not_false, reduceIte, eq_self, okC_int, okC_bl, okC_lnil, eqD_lnil, okC_tI, okC_lI, eqD_int, eqD_bl, eqD_tups, eqD_lsts, isTy_int_int, isTy_int_bool, isTy_int_tuple, isTy_tup_tuple, isTy_tup_int, isTy_str_str, isTy_bl_int, isTy_bl_bool, List.length_map, List.length_range, ↓r_Rg3, ↓r_St, ↓r_Dc, ↓r_Dg, ↓r_In, ↓r_IxN, ↓r_Ss, ↓r_IsB, ↓sd_turned]
    refine ⟨⟨by omega, by omega⟩, lc_xs (fun j : Nat => tI (turnV xs j)) (by rw [List.length_range]; omega) (fun j hj Inv i acc h => ?_) ?_⟩
    · try simp only [↓r_V, ↓r_C, ↓r_Op, ↓r_B, ↓r_Chain, ↓r_And, ↓r_Or, ↓r_Not, ↓r_AndV, ↓r_OrV, ↓r_NotV, ↓r_If, ↓r_Un, ↓r_Add, ↓r_I, ↓r_I0, ↓r_Mul, ↓r_Eq, ↓r_Is, ↓r_Nil, ↓r_Cons, ↓r_Tup, ↓r_N, ↓r_CatN, ↓r_RepN, ↓r_No, ↓r_So, ↓r_Sl, ↓r_One, ↓r_Len, ↓r_Int1, ↓r_Int, ↓r_Sum, ↓r_Max, ↓r_All, ↓r_Min2, ↓r_Isi, ↓r_Repr, ↓r_TupOf, ↓r_LstOf, ↓r_Rd, ↓r_Rn, ↓r_Nm, ↓r_Gnil, ↓r_Gcons, ↓r_Gtup, ↓r_Glst, ↓r_Next, ↓r_Seq, ↓r_Cut, ↓r_Never, ↓r_Brk, ↓r_Cnt, ↓r_Drop, ↓r_Ret, ↓r_RetN, ↓r_IfS, ↓r_Set, ↓r_Asg, ↓r_Aug, ↓r_App, ↓r_Par, ↓r_Par3, ↓r_SeqI, ↓r_Rg1, ↓r_Rg2, ↓r_EnT, ↓r_For, ↓r_While, ↓r_Yes, ↓r_Lc, ↓r_Call, ↓r_CallF, ↓r_EqA, ↓r_asD, ↓r_seqOf, ↓r_dataOf, ↓r_isOw, ↓r_Ix, ↓r_Sub, ixx_some, at_0, at_1, at_2, at_3, at_4, ix_40, ix_41, ix_42, ix_43, RV.sl, b2n, Pu.isNon, notRaw, endP, endF, endL, slots0, wipeE, wipeL, List.map_cons, List.map_nil, List.length_cons, List.length_nil, decide_eq_true_eq, decide_true, decide_false, List.cons_append, List.nil_append, List.append_nil, List.replicate_succ, List.replicate_zero, List.getElem?_cons_zero, List.getElem?_cons_succ, List.set_cons_zero, List.set_cons_succ, Option.isSome_some, ite_true, ite_false, Bool.false_eq_true, true_and, and_true, if_true, if_false, Nat.reduceSub, Nat.reduceAdd, Nat.reduceLT, Bool.not_true, Bool.not_false, reduceIte, eq_self, okC_int, okC_bl, okC_lnil, eqD_lnil, okC_tI, okC_lI, eqD_int, eqD_bl, eqD_tups, eqD_lsts, isTy_int_int, isTy_int_bool, isTy_int_tuple, isTy_tup_tuple, isTy_tup_int, isTy_str_str, isTy_bl_int, isTy_bl_bool, List.length_map, List.length_range, ↓r_Rg3, ↓r_St, ↓r_Dc, ↓r_Dg, ↓r_In, ↓r_IxN, ↓r_Ss, ↓r_IsB, ↓sd_turned]
      exact ⟨xs, j, rfl, h0, by omega, h⟩
    · rw [turns_map]
      try simp only [↓r_V, ↓r_C, ↓r_Op, ↓r_B, ↓r_Chain, ↓r_And, ↓r_Or, ↓r_Not, ↓r_AndV, ↓r_OrV, ↓r_NotV, ↓r_If, ↓r_Un, ↓r_Add, ↓r_I, ↓r_I0, ↓r_Mul, ↓r_Eq, ↓r_Is, ↓r_Nil, ↓r_Cons, ↓r_Tup, ↓r_N, ↓r_CatN, ↓r_RepN, ↓r_No, ↓r_So, ↓r_Sl, ↓r_One, ↓r_Len, ↓r_Int1, ↓r_Int, ↓r_Sum, ↓r_Max, ↓r_All, ↓r_Min2, ↓r_Isi, ↓r_Repr, ↓r_TupOf, ↓r_LstOf, ↓r_Rd, ↓r_Rn, ↓r_Nm, ↓r_Gnil, ↓r_Gcons, ↓r_Gtup, ↓r_Glst, ↓r_Next, ↓r_Seq, ↓r_Cut, ↓r_Never, ↓r_Brk, ↓r_Cnt, ↓r_Drop, ↓r_Ret, ↓r_RetN, ↓r_IfS, ↓r_Set, ↓r_Asg, ↓r_Aug, ↓r_App, ↓r_Par, ↓r_Par3, ↓r_SeqI, ↓r_Rg1, ↓r_Rg2, ↓r_EnT, ↓r_For, ↓r_While, ↓r_Yes, ↓r_Lc, ↓r_Call, ↓r_CallF, ↓r_EqA, ↓r_asD, ↓r_seqOf, ↓r_dataOf, ↓r_isOw, ↓r_Ix, ↓r_Sub, ixx_some, at_0, at_1, at_2, at_3, at_4, ix_40, ix_41, ix_42, ix_43, RV.sl, b2n, Pu.isNon, notRaw, endP, endF, endL, slots0, wipeE, wipeL, List.map_cons, List.map_nil, List.length_cons, List.length_nil, decide_eq_true_eq, decide_true, decide_false, List.cons_append, List.nil_append, List.append_nil, List.replicate_succ, List.replicate_zero, List.getElem?_cons_zero, List.getElem?_cons_succ, List.set_cons_zero, List.set_cons_succ, Option.isSome_some, ite_true, ite_false, Bool.false_eq_true, true_and, and_true, if_true, if_false, Nat.reduceSub, Nat.reduceAdd, Nat.reduceLT, Bool.not_true, Bool.not_false, reduceIte, eq_self, okC_int, okC_bl, okC_lnil, eqD_lnil, okC_tI, okC_lI, eqD_int, eqD_bl, eqD_tups, eqD_lsts, isTy_int_int, isTy_int_bool, isTy_int_tuple, isTy_tup_tuple, isTy_tup_int, isTy_str_str, isTy_bl_int, isTy_bl_bool, List.length_map, List.length_range, ↓r_Rg3, ↓r_St, ↓r_Dc, ↓r_Dg, ↓r_In, ↓r_IxN, ↓r_Ss, ↓r_IsB, ↓sd_turned]
      exact h
def sd_kin_of : SpD := fun ds k => ∃ xs : List Int, ds = [tI xs] ∧ 0 < xs.length ∧ xs.length ≤ 30 ∧ Bd 6 xs ∧ ∀ out, IsKin xs out → k (.lst (out.map fun r => (tI r : Pu.D)))
theorem c_kin_of (D : At K mg "kin_of" s_kin_of ["voice"]) (c_turns_of : CalG P w K mg base 5 "turns_of" ["voice"] (spP K 1 sd_turns_of)) (c_mirrored : CalG P w K mg base 4 "mirrored" ["voice"] (spP K 1 sd_mirrored)) (z_set : mg "set" = none) (z_sorted : mg "sorted" = none) : CalG P w K mg base 6 "kin_of" ["voice"] (spP K 1 sd_kin_of) := by
  have nd := sc_kin_of.nd
  apply okP (F := Fd0) D sc_kin_of (by decide)
  case body =>
    intro f cdv A outer s H E hr hG
    have hu64 := hr.units
    exact (qss_one (qs_ret (q_n (qn_ss hu64 (fun p => pe_callB (cr_sortedR rfl) (by rfl) z_sorted (by decide +kernel) (pa_cons (pe_callTy (cr_setOfT rfl hu64) (by rfl) z_set (by decide +kernel) (pa_cons p pa_nil)) pa_nil)) (q_op op_addA l_add (q_call c_turns_of hr hG (by decide) (by rfl) (qa_cons (qv 0) qa_nil) rfl) (q_call c_turns_of hr hG (by decide) (by rfl) (qa_cons (q_call c_mirrored hr hG (by decide) (by rfl) (qa_cons (qv 0) qa_nil) rfl) qa_nil) rfl))))))
  case go =>
    intro ds k hl h
    obtain ⟨xs, rfl, h0, hn, bx, h⟩ := h
    have lm := mir_len xs
    try simp only [↓r_V, ↓r_C, ↓r_Op, ↓r_B, ↓r_Chain, ↓r_And, ↓r_Or, ↓r_Not, ↓r_AndV, ↓r_OrV, ↓r_NotV, ↓r_If, ↓r_Un, ↓r_Add, ↓r_I, ↓r_I0, ↓r_Mul, ↓r_Eq, ↓r_Is, ↓r_Nil, ↓r_Cons, ↓r_Tup, ↓r_N, ↓r_CatN, ↓r_RepN, ↓r_No, ↓r_So, ↓r_Sl, ↓r_One, ↓r_Len, ↓r_Int1, ↓r_Int, ↓r_Sum, ↓r_Max, ↓r_All, ↓r_Min2, ↓r_Isi, ↓r_Repr, ↓r_TupOf, ↓r_LstOf, ↓r_Rd, ↓r_Rn, ↓r_Nm, ↓r_Gnil, ↓r_Gcons, ↓r_Gtup, ↓r_Glst, ↓r_Next, ↓r_Seq, ↓r_Cut, ↓r_Never, ↓r_Brk, ↓r_Cnt, ↓r_Drop, ↓r_Ret, ↓r_RetN, ↓r_IfS, ↓r_Set, ↓r_Asg, ↓r_Aug, ↓r_App, ↓r_Par, ↓r_Par3, ↓r_SeqI, ↓r_Rg1, ↓r_Rg2, ↓r_EnT, ↓r_For, ↓r_While, ↓r_Yes, ↓r_Lc, ↓r_Call, ↓r_CallF, ↓r_EqA, ↓r_asD, ↓r_seqOf, ↓r_dataOf, ↓r_isOw, ↓r_Ix, ↓r_Sub, ixx_some, at_0, at_1, at_2, at_3, at_4, ix_40, ix_41, ix_42, ix_43, RV.sl, b2n, Pu.isNon, notRaw, endP, endF, endL, slots0, wipeE, wipeL, List.map_cons, List.map_nil, List.length_cons, List.length_nil, decide_eq_true_eq, decide_true, decide_false, List.cons_append, List.nil_append, List.append_nil, List.replicate_succ, List.replicate_zero, List.getElem?_cons_zero, List.getElem?_cons_succ, List.set_cons_zero, List.set_cons_succ, Option.isSome_some, ite_true, ite_false, Bool.false_eq_true, true_and, and_true, if_true, if_false, Nat.reduceSub, Nat.reduceAdd, Nat.reduceLT, Bool.not_true, Bool.not_false, reduceIte, eq_self, okC_int, okC_bl, okC_lnil, eqD_lnil, okC_tI, okC_lI, eqD_int, eqD_bl, eqD_tups, eqD_lsts, isTy_int_int, isTy_int_bool, isTy_int_tuple, isTy_tup_tuple, isTy_tup_int, isTy_str_str, isTy_bl_int, isTy_bl_bool, List.length_map, List.length_range, ↓r_Rg3, ↓r_St, ↓r_Dc, ↓r_Dg, ↓r_In, ↓r_IxN, ↓r_Ss, ↓r_IsB, ↓sd_turns_of, ↓sd_mirrored]
    refine ⟨xs, rfl, h0, hn, xs, rfl, h0, by omega, mir xs, rfl, by omega, by omega, ?_⟩
    try simp only [↓r_V, ↓r_C, ↓r_Op, ↓r_B, ↓r_Chain, ↓r_And, ↓r_Or, ↓r_Not, ↓r_AndV, ↓r_OrV, ↓r_NotV, ↓r_If, ↓r_Un, ↓r_Add, ↓r_I, ↓r_I0, ↓r_Mul, ↓r_Eq, ↓r_Is, ↓r_Nil, ↓r_Cons, ↓r_Tup, ↓r_N, ↓r_CatN, ↓r_RepN, ↓r_No, ↓r_So, ↓r_Sl, ↓r_One, ↓r_Len, ↓r_Int1, ↓r_Int, ↓r_Sum, ↓r_Max, ↓r_All, ↓r_Min2, ↓r_Isi, ↓r_Repr, ↓r_TupOf, ↓r_LstOf, ↓r_Rd, ↓r_Rn, ↓r_Nm, ↓r_Gnil, ↓r_Gcons, ↓r_Gtup, ↓r_Glst, ↓r_Next, ↓r_Seq, ↓r_Cut, ↓r_Never, ↓r_Brk, ↓r_Cnt, ↓r_Drop, ↓r_Ret, ↓r_RetN, ↓r_IfS, ↓r_Set, ↓r_Asg, ↓r_Aug, ↓r_App, ↓r_Par, ↓r_Par3, ↓r_SeqI, ↓r_Rg1, ↓r_Rg2, ↓r_EnT, ↓r_For, ↓r_While, ↓r_Yes, ↓r_Lc, ↓r_Call, ↓r_CallF, ↓r_EqA, ↓r_asD, ↓r_seqOf, ↓r_dataOf, ↓r_isOw, ↓r_Ix, ↓r_Sub, ixx_some, at_0, at_1, at_2, at_3, at_4, ix_40, ix_41, ix_42, ix_43, RV.sl, b2n, Pu.isNon, notRaw, endP, endF, endL, slots0, wipeE, wipeL, List.map_cons, List.map_nil, List.length_cons, List.length_nil, decide_eq_true_eq, decide_true, decide_false, List.cons_append, List.nil_append, List.append_nil, List.replicate_succ, List.replicate_zero, List.getElem?_cons_zero, List.getElem?_cons_succ, List.set_cons_zero, List.set_cons_succ, Option.isSome_some, ite_true, ite_false, Bool.false_eq_true, true_and, and_true, if_true, if_false, Nat.reduceSub, Nat.reduceAdd, Nat.reduceLT, Bool.not_true, Bool.not_false, reduceIte, eq_self, okC_int, okC_bl, okC_lnil, eqD_lnil, okC_tI, okC_lI, eqD_int, eqD_bl, eqD_tups, eqD_lsts, isTy_int_int, isTy_int_bool, isTy_int_tuple, isTy_tup_tuple, isTy_tup_int, isTy_str_str, isTy_bl_int, isTy_bl_bool, List.length_map, List.length_range, ↓r_Rg3, ↓r_St, ↓r_Dc, ↓r_Dg, ↓r_In, ↓r_IxN, ↓r_Ss, ↓r_IsB, ↓sd_turns_of, ↓sd_mirrored]
    have e : ((turnsL xs).map fun r => (tI r : Pu.D)) ++ ((turnsL (mir xs)).map fun r => (tI r : Pu.D)) = (kinL xs).map fun r => (tI r : Pu.D) := by
      unfold kinL
      rw [List.map_append]
    rw [e]
    refine ⟨by rw [turns_len, turns_len]; omega, kinL xs, xs.length, 64, 128, ⟨rfl, ?_, h0, fun ns hns => ⟨kin_len h0 hns, dg_of (bd_kin h0 bx hns)⟩⟩, fun out nd mem sr => ?_⟩
    · unfold kinL
      rw [List.length_append, turns_len, turns_len]
      omega
    · try simp only [↓r_V, ↓r_C, ↓r_Op, ↓r_B, ↓r_Chain, ↓r_And, ↓r_Or, ↓r_Not, ↓r_AndV, ↓r_OrV, ↓r_NotV, ↓r_If, ↓r_Un, ↓r_Add, ↓r_I, ↓r_I0, ↓r_Mul, ↓r_Eq, ↓r_Is, ↓r_Nil, ↓r_Cons, ↓r_Tup, ↓r_N, ↓r_CatN, ↓r_RepN, ↓r_No, ↓r_So, ↓r_Sl, ↓r_One, ↓r_Len, ↓r_Int1, ↓r_Int, ↓r_Sum, ↓r_Max, ↓r_All, ↓r_Min2, ↓r_Isi, ↓r_Repr, ↓r_TupOf, ↓r_LstOf, ↓r_Rd, ↓r_Rn, ↓r_Nm, ↓r_Gnil, ↓r_Gcons, ↓r_Gtup, ↓r_Glst, ↓r_Next, ↓r_Seq, ↓r_Cut, ↓r_Never, ↓r_Brk, ↓r_Cnt, ↓r_Drop, ↓r_Ret, ↓r_RetN, ↓r_IfS, ↓r_Set, ↓r_Asg, ↓r_Aug, ↓r_App, ↓r_Par, ↓r_Par3, ↓r_SeqI, ↓r_Rg1, ↓r_Rg2, ↓r_EnT, ↓r_For, ↓r_While, ↓r_Yes, ↓r_Lc, ↓r_Call, ↓r_CallF, ↓r_EqA, ↓r_asD, ↓r_seqOf, ↓r_dataOf, ↓r_isOw, ↓r_Ix, ↓r_Sub, ixx_some, at_0, at_1, at_2, at_3, at_4, ix_40, ix_41, ix_42, ix_43, RV.sl, b2n, Pu.isNon, notRaw, endP, endF, endL, slots0, wipeE, wipeL, List.map_cons, List.map_nil, List.length_cons, List.length_nil, decide_eq_true_eq, decide_true, decide_false, List.cons_append, List.nil_append, List.append_nil, List.replicate_succ, List.replicate_zero, List.getElem?_cons_zero, List.getElem?_cons_succ, List.set_cons_zero, List.set_cons_succ, Option.isSome_some, ite_true, ite_false, Bool.false_eq_true, true_and, and_true, if_true, if_false, Nat.reduceSub, Nat.reduceAdd, Nat.reduceLT, Bool.not_true, Bool.not_false, reduceIte, eq_self, okC_int, okC_bl, okC_lnil, eqD_lnil, okC_tI, okC_lI, eqD_int, eqD_bl, eqD_tups, eqD_lsts, isTy_int_int, isTy_int_bool, isTy_int_tuple, isTy_tup_tuple, isTy_tup_int, isTy_str_str, isTy_bl_int, isTy_bl_bool, List.length_map, List.length_range, ↓r_Rg3, ↓r_St, ↓r_Dc, ↓r_Dg, ↓r_In, ↓r_IxN, ↓r_Ss, ↓r_IsB, ↓sd_turns_of, ↓sd_mirrored]
      exact h out ⟨nd, mem, sr⟩
def sd_least_kin : SpD := fun ds k => ∃ xs : List Int, ds = [tI xs] ∧ 0 < xs.length ∧ xs.length ≤ 30 ∧ Bd 6 xs ∧ ∀ out, IsKin xs out → k (tI (out.headD []))
theorem c_least_kin (D : At K mg "least_kin" s_least_kin ["voice"]) (c_kin_of : CalG P w K mg base 6 "kin_of" ["voice"] (spP K 1 sd_kin_of)) : CalG P w K mg base 7 "least_kin" ["voice"] (spP K 1 sd_least_kin) := by
  have nd := sc_least_kin.nd
  apply okP (F := Fd0) D sc_least_kin (by decide)
  case body =>
    intro f cdv A outer s H E hr hG
    have hu64 := hr.units
    exact (qss_one (qs_ret (q_ix (q_call c_kin_of hr hG (by decide) (by rfl) (qa_cons (qv 0) qa_nil) rfl) q_int (fun _ _ => rfl))))
  case go =>
    intro ds k hl h
    obtain ⟨xs, rfl, h0, hn, bx, h⟩ := h
    try simp only [↓r_V, ↓r_C, ↓r_Op, ↓r_B, ↓r_Chain, ↓r_And, ↓r_Or, ↓r_Not, ↓r_AndV, ↓r_OrV, ↓r_NotV, ↓r_If, ↓r_Un, ↓r_Add, ↓r_I, ↓r_I0, ↓r_Mul, ↓r_Eq, ↓r_Is, ↓r_Nil, ↓r_Cons, ↓r_Tup, ↓r_N, ↓r_CatN, ↓r_RepN, ↓r_No, ↓r_So, ↓r_Sl, ↓r_One, ↓r_Len, ↓r_Int1, ↓r_Int, ↓r_Sum, ↓r_Max, ↓r_All, ↓r_Min2, ↓r_Isi, ↓r_Repr, ↓r_TupOf, ↓r_LstOf, ↓r_Rd, ↓r_Rn, ↓r_Nm, ↓r_Gnil, ↓r_Gcons, ↓r_Gtup, ↓r_Glst, ↓r_Next, ↓r_Seq, ↓r_Cut, ↓r_Never, ↓r_Brk, ↓r_Cnt, ↓r_Drop, ↓r_Ret, ↓r_RetN, ↓r_IfS, ↓r_Set, ↓r_Asg, ↓r_Aug, ↓r_App, ↓r_Par, ↓r_Par3, ↓r_SeqI, ↓r_Rg1, ↓r_Rg2, ↓r_EnT, ↓r_For, ↓r_While, ↓r_Yes, ↓r_Lc, ↓r_Call, ↓r_CallF, ↓r_EqA, ↓r_asD, ↓r_seqOf, ↓r_dataOf, ↓r_isOw, ↓r_Ix, ↓r_Sub, ixx_some, at_0, at_1, at_2, at_3, at_4, ix_40, ix_41, ix_42, ix_43, RV.sl, b2n, Pu.isNon, notRaw, endP, endF, endL, slots0, wipeE, wipeL, List.map_cons, List.map_nil, List.length_cons, List.length_nil, decide_eq_true_eq, decide_true, decide_false, List.cons_append, List.nil_append, List.append_nil, List.replicate_succ, List.replicate_zero, List.getElem?_cons_zero, List.getElem?_cons_succ, List.set_cons_zero, List.set_cons_succ, Option.isSome_some, ite_true, ite_false, Bool.false_eq_true, true_and, and_true, if_true, if_false, Nat.reduceSub, Nat.reduceAdd, Nat.reduceLT, Bool.not_true, Bool.not_false, reduceIte, eq_self, okC_int, okC_bl, okC_lnil, eqD_lnil, okC_tI, okC_lI, eqD_int, eqD_bl, eqD_tups, eqD_lsts, isTy_int_int, isTy_int_bool, isTy_int_tuple, isTy_tup_tuple, isTy_tup_int, isTy_str_str, isTy_bl_int, isTy_bl_bool, List.length_map, List.length_range, ↓r_Rg3, ↓r_St, ↓r_Dc, ↓r_Dg, ↓r_In, ↓r_IxN, ↓r_Ss, ↓r_IsB, ↓sd_kin_of]
    refine ⟨xs, rfl, h0, hn, bx, fun out ik => ?_⟩
    try simp only [↓r_V, ↓r_C, ↓r_Op, ↓r_B, ↓r_Chain, ↓r_And, ↓r_Or, ↓r_Not, ↓r_AndV, ↓r_OrV, ↓r_NotV, ↓r_If, ↓r_Un, ↓r_Add, ↓r_I, ↓r_I0, ↓r_Mul, ↓r_Eq, ↓r_Is, ↓r_Nil, ↓r_Cons, ↓r_Tup, ↓r_N, ↓r_CatN, ↓r_RepN, ↓r_No, ↓r_So, ↓r_Sl, ↓r_One, ↓r_Len, ↓r_Int1, ↓r_Int, ↓r_Sum, ↓r_Max, ↓r_All, ↓r_Min2, ↓r_Isi, ↓r_Repr, ↓r_TupOf, ↓r_LstOf, ↓r_Rd, ↓r_Rn, ↓r_Nm, ↓r_Gnil, ↓r_Gcons, ↓r_Gtup, ↓r_Glst, ↓r_Next, ↓r_Seq, ↓r_Cut, ↓r_Never, ↓r_Brk, ↓r_Cnt, ↓r_Drop, ↓r_Ret, ↓r_RetN, ↓r_IfS, ↓r_Set, ↓r_Asg, ↓r_Aug, ↓r_App, ↓r_Par, ↓r_Par3, ↓r_SeqI, ↓r_Rg1, ↓r_Rg2, ↓r_EnT, ↓r_For, ↓r_While, ↓r_Yes, ↓r_Lc, ↓r_Call, ↓r_CallF, ↓r_EqA, ↓r_asD, ↓r_seqOf, ↓r_dataOf, ↓r_isOw, ↓r_Ix, ↓r_Sub, ixx_some, at_0, at_1, at_2, at_3, at_4, ix_40, ix_41, ix_42, ix_43, RV.sl, b2n, Pu.isNon, notRaw, endP, endF, endL, slots0, wipeE, wipeL, List.map_cons, List.map_nil, List.length_cons, List.length_nil, decide_eq_true_eq, decide_true, decide_false, List.cons_append, List.nil_append, List.append_nil, List.replicate_succ, List.replicate_zero, List.getElem?_cons_zero, List.getElem?_cons_succ, List.set_cons_zero, List.set_cons_succ, Option.isSome_some, ite_true, ite_false, Bool.false_eq_true, true_and, and_true, if_true, if_false, Nat.reduceSub, Nat.reduceAdd, Nat.reduceLT, Bool.not_true, Bool.not_false, reduceIte, eq_self, okC_int, okC_bl, okC_lnil, eqD_lnil, okC_tI, okC_lI, eqD_int, eqD_bl, eqD_tups, eqD_lsts, isTy_int_int, isTy_int_bool, isTy_int_tuple, isTy_tup_tuple, isTy_tup_int, isTy_str_str, isTy_bl_int, isTy_bl_bool, List.length_map, List.length_range, ↓r_Rg3, ↓r_St, ↓r_Dc, ↓r_Dg, ↓r_In, ↓r_IxN, ↓r_Ss, ↓r_IsB, ↓sd_kin_of]
    rw [head_at (ik.pos h0)]
    try simp only [↓r_V, ↓r_C, ↓r_Op, ↓r_B, ↓r_Chain, ↓r_And, ↓r_Or, ↓r_Not, ↓r_AndV, ↓r_OrV, ↓r_NotV, ↓r_If, ↓r_Un, ↓r_Add, ↓r_I, ↓r_I0, ↓r_Mul, ↓r_Eq, ↓r_Is, ↓r_Nil, ↓r_Cons, ↓r_Tup, ↓r_N, ↓r_CatN, ↓r_RepN, ↓r_No, ↓r_So, ↓r_Sl, ↓r_One, ↓r_Len, ↓r_Int1, ↓r_Int, ↓r_Sum, ↓r_Max, ↓r_All, ↓r_Min2, ↓r_Isi, ↓r_Repr, ↓r_TupOf, ↓r_LstOf, ↓r_Rd, ↓r_Rn, ↓r_Nm, ↓r_Gnil, ↓r_Gcons, ↓r_Gtup, ↓r_Glst, ↓r_Next, ↓r_Seq, ↓r_Cut, ↓r_Never, ↓r_Brk, ↓r_Cnt, ↓r_Drop, ↓r_Ret, ↓r_RetN, ↓r_IfS, ↓r_Set, ↓r_Asg, ↓r_Aug, ↓r_App, ↓r_Par, ↓r_Par3, ↓r_SeqI, ↓r_Rg1, ↓r_Rg2, ↓r_EnT, ↓r_For, ↓r_While, ↓r_Yes, ↓r_Lc, ↓r_Call, ↓r_CallF, ↓r_EqA, ↓r_asD, ↓r_seqOf, ↓r_dataOf, ↓r_isOw, ↓r_Ix, ↓r_Sub, ixx_some, at_0, at_1, at_2, at_3, at_4, ix_40, ix_41, ix_42, ix_43, RV.sl, b2n, Pu.isNon, notRaw, endP, endF, endL, slots0, wipeE, wipeL, List.map_cons, List.map_nil, List.length_cons, List.length_nil, decide_eq_true_eq, decide_true, decide_false, List.cons_append, List.nil_append, List.append_nil, List.replicate_succ, List.replicate_zero, List.getElem?_cons_zero, List.getElem?_cons_succ, List.set_cons_zero, List.set_cons_succ, Option.isSome_some, ite_true, ite_false, Bool.false_eq_true, true_and, and_true, if_true, if_false, Nat.reduceSub, Nat.reduceAdd, Nat.reduceLT, Bool.not_true, Bool.not_false, reduceIte, eq_self, okC_int, okC_bl, okC_lnil, eqD_lnil, okC_tI, okC_lI, eqD_int, eqD_bl, eqD_tups, eqD_lsts, isTy_int_int, isTy_int_bool, isTy_int_tuple, isTy_tup_tuple, isTy_tup_int, isTy_str_str, isTy_bl_int, isTy_bl_bool, List.length_map, List.length_range, ↓r_Rg3, ↓r_St, ↓r_Dc, ↓r_Dg, ↓r_In, ↓r_IxN, ↓r_Ss, ↓r_IsB, ↓sd_kin_of]
    exact h out ik
def sd_kin_count : SpD := fun ds k => ∃ xs : List Int, ds = [tI xs] ∧ 0 < xs.length ∧ xs.length ≤ 30 ∧ Bd 6 xs ∧ ∀ out, IsKin xs out → k (.int out.length)
theorem c_kin_count (D : At K mg "kin_count" s_kin_count ["voice"]) (c_kin_of : CalG P w K mg base 6 "kin_of" ["voice"] (spP K 1 sd_kin_of)) (z_len : mg "len" = none) : CalG P w K mg base 7 "kin_count" ["voice"] (spP K 1 sd_kin_count) := by
  have nd := sc_kin_count.nd
  apply okP (F := Fd0) D sc_kin_count (by decide)
  case body =>
    intro f cdv A outer s H E hr hG
    have hu64 := hr.units
    exact (qss_one (qs_ret (q_b1 (fun p => pe_callB call_len (by rfl) z_len PySem.boot_len (pa_cons p pa_nil)) l_len (q_call c_kin_of hr hG (by decide) (by rfl) (qa_cons (qv 0) qa_nil) rfl))))
  case go =>
    intro ds k hl h
    obtain ⟨xs, rfl, h0, hn, bx, h⟩ := h
    try simp only [↓r_V, ↓r_C, ↓r_Op, ↓r_B, ↓r_Chain, ↓r_And, ↓r_Or, ↓r_Not, ↓r_AndV, ↓r_OrV, ↓r_NotV, ↓r_If, ↓r_Un, ↓r_Add, ↓r_I, ↓r_I0, ↓r_Mul, ↓r_Eq, ↓r_Is, ↓r_Nil, ↓r_Cons, ↓r_Tup, ↓r_N, ↓r_CatN, ↓r_RepN, ↓r_No, ↓r_So, ↓r_Sl, ↓r_One, ↓r_Len, ↓r_Int1, ↓r_Int, ↓r_Sum, ↓r_Max, ↓r_All, ↓r_Min2, ↓r_Isi, ↓r_Repr, ↓r_TupOf, ↓r_LstOf, ↓r_Rd, ↓r_Rn, ↓r_Nm, ↓r_Gnil, ↓r_Gcons, ↓r_Gtup, ↓r_Glst, ↓r_Next, ↓r_Seq, ↓r_Cut, ↓r_Never, ↓r_Brk, ↓r_Cnt, ↓r_Drop, ↓r_Ret, ↓r_RetN, ↓r_IfS, ↓r_Set, ↓r_Asg, ↓r_Aug, ↓r_App, ↓r_Par, ↓r_Par3, ↓r_SeqI, ↓r_Rg1, ↓r_Rg2, ↓r_EnT, ↓r_For, ↓r_While, ↓r_Yes, ↓r_Lc, ↓r_Call, ↓r_CallF, ↓r_EqA, ↓r_asD, ↓r_seqOf, ↓r_dataOf, ↓r_isOw, ↓r_Ix, ↓r_Sub, ixx_some, at_0, at_1, at_2, at_3, at_4, ix_40, ix_41, ix_42, ix_43, RV.sl, b2n, Pu.isNon, notRaw, endP, endF, endL, slots0, wipeE, wipeL, List.map_cons, List.map_nil, List.length_cons, List.length_nil, decide_eq_true_eq, decide_true, decide_false, List.cons_append, List.nil_append, List.append_nil, List.replicate_succ, List.replicate_zero, List.getElem?_cons_zero, List.getElem?_cons_succ, List.set_cons_zero, List.set_cons_succ, Option.isSome_some, ite_true, ite_false, Bool.false_eq_true, true_and, and_true, if_true, if_false, Nat.reduceSub, Nat.reduceAdd, Nat.reduceLT, Bool.not_true, Bool.not_false, reduceIte, eq_self, okC_int, okC_bl, okC_lnil, eqD_lnil, okC_tI, okC_lI, eqD_int, eqD_bl, eqD_tups, eqD_lsts, isTy_int_int, isTy_int_bool, isTy_int_tuple, isTy_tup_tuple, isTy_tup_int, isTy_str_str, isTy_bl_int, isTy_bl_bool, List.length_map, List.length_range, ↓r_Rg3, ↓r_St, ↓r_Dc, ↓r_Dg, ↓r_In, ↓r_IxN, ↓r_Ss, ↓r_IsB, ↓sd_kin_of]
    refine ⟨xs, rfl, h0, hn, bx, fun out ik => ?_⟩
    try simp only [↓r_V, ↓r_C, ↓r_Op, ↓r_B, ↓r_Chain, ↓r_And, ↓r_Or, ↓r_Not, ↓r_AndV, ↓r_OrV, ↓r_NotV, ↓r_If, ↓r_Un, ↓r_Add, ↓r_I, ↓r_I0, ↓r_Mul, ↓r_Eq, ↓r_Is, ↓r_Nil, ↓r_Cons, ↓r_Tup, ↓r_N, ↓r_CatN, ↓r_RepN, ↓r_No, ↓r_So, ↓r_Sl, ↓r_One, ↓r_Len, ↓r_Int1, ↓r_Int, ↓r_Sum, ↓r_Max, ↓r_All, ↓r_Min2, ↓r_Isi, ↓r_Repr, ↓r_TupOf, ↓r_LstOf, ↓r_Rd, ↓r_Rn, ↓r_Nm, ↓r_Gnil, ↓r_Gcons, ↓r_Gtup, ↓r_Glst, ↓r_Next, ↓r_Seq, ↓r_Cut, ↓r_Never, ↓r_Brk, ↓r_Cnt, ↓r_Drop, ↓r_Ret, ↓r_RetN, ↓r_IfS, ↓r_Set, ↓r_Asg, ↓r_Aug, ↓r_App, ↓r_Par, ↓r_Par3, ↓r_SeqI, ↓r_Rg1, ↓r_Rg2, ↓r_EnT, ↓r_For, ↓r_While, ↓r_Yes, ↓r_Lc, ↓r_Call, ↓r_CallF, ↓r_EqA, ↓r_asD, ↓r_seqOf, ↓r_dataOf, ↓r_isOw, ↓r_Ix, ↓r_Sub, ixx_some, at_0, at_1, at_2, at_3, at_4, ix_40, ix_41, ix_42, ix_43, RV.sl, b2n, Pu.isNon, notRaw, endP, endF, endL, slots0, wipeE, wipeL, List.map_cons, List.map_nil, List.length_cons, List.length_nil, decide_eq_true_eq, decide_true, decide_false, List.cons_append, List.nil_append, List.append_nil, List.replicate_succ, List.replicate_zero, List.getElem?_cons_zero, List.getElem?_cons_succ, List.set_cons_zero, List.set_cons_succ, Option.isSome_some, ite_true, ite_false, Bool.false_eq_true, true_and, and_true, if_true, if_false, Nat.reduceSub, Nat.reduceAdd, Nat.reduceLT, Bool.not_true, Bool.not_false, reduceIte, eq_self, okC_int, okC_bl, okC_lnil, eqD_lnil, okC_tI, okC_lI, eqD_int, eqD_bl, eqD_tups, eqD_lsts, isTy_int_int, isTy_int_bool, isTy_int_tuple, isTy_tup_tuple, isTy_tup_int, isTy_str_str, isTy_bl_int, isTy_bl_bool, List.length_map, List.length_range, ↓r_Rg3, ↓r_St, ↓r_Dc, ↓r_Dg, ↓r_In, ↓r_IxN, ↓r_Ss, ↓r_IsB, ↓sd_kin_of]
    exact h out ik
def sd_kin_step : SpD := fun ds k => ∃ xs ys : List Int, ds = [tI xs, tI ys] ∧ ys.length = xs.length ∧ 0 < xs.length ∧ xs.length ≤ 30 ∧ k (stp xs ys)
theorem c_kin_step (D : At K mg "kin_step" s_kin_step ["one", "other"]) (c_need : CalG P w K mg base 1 "need" ["fits", "word"] (spP K 2 sd_need)) (c_is_voice_of : CalG P w K mg base 4 "is_voice_of" ["size", "thing"] (spP K 2 sd_is_voice_of)) (c_turns_of : CalG P w K mg base 5 "turns_of" ["voice"] (spP K 1 sd_turns_of)) (c_mirrored : CalG P w K mg base 4 "mirrored" ["voice"] (spP K 1 sd_mirrored)) (z_len : mg "len" = none) : CalG P w K mg base 6 "kin_step" ["one", "other"] (spP K 2 sd_kin_step) := by
  have nd := sc_kin_step.nd
  apply okP (F := Fd0) D sc_kin_step (by decide)
  case body =>
    intro f cdv A outer s H E hr hG
    have hu64 := hr.units
    exact (qss_cons (qs_expr (q_call c_need hr hG (by decide) (by rfl) (qa_cons (q_call c_is_voice_of hr hG (by decide) (by rfl) (qa_cons (q_b1 (fun p => pe_callB call_len (by rfl) z_len PySem.boot_len (pa_cons p pa_nil)) l_len (qv 0)) (qa_cons (qv 1) qa_nil)) rfl) (qa_cons q_str qa_nil)) rfl))
 (qss_cons (qs_for PassesOwn.never rfl (qi_seq (q_tup (qa_cons (q_tup (qa_cons q_str (qa_cons (q_call c_turns_of hr hG (by decide) (by rfl) (qa_cons (qv 0) qa_nil) rfl) qa_nil))) (qa_cons (q_tup (qa_cons q_str (qa_cons (q_call c_turns_of hr hG (by decide) (by rfl) (qa_cons (q_call c_mirrored hr hG (by decide) (by rfl) (qa_cons (qv 0) qa_nil) rfl) qa_nil) rfl) qa_nil))) qa_nil)))) (qg_tup (n := 2) rfl (qgs_cons (qg_name (i := 2) nd rfl (.inl rfl)) (qgs_cons (qg_name (i := 3) nd rfl (.inl rfl)) qgs_nil)))
 (qss_one (qs_if (qt_cmp (op_inA (hr65 hr)) l_inA (qv 1) (qv 3) (by rfl))
 (qss_one (qs_ret (q_tup (qa_cons (qv 2) (qa_cons (q_index (i := 3) (hr65 hr) (qv 1) (fun o a => pe_bm PySem.F.plainAttrs_list PySem.F.slot_list_index PySem.F.type_list_index (mt_indexD (hr65 hr)) o a)) qa_nil)))))
 qss_nil)))
 (qss_one (qs_ret q_non))))
  case go =>
    intro ds k hl h
    obtain ⟨xs, ys, rfl, hxy, h0, hn, h⟩ := h
    have lm := mir_len xs
    try simp only [↓r_V, ↓r_C, ↓r_Op, ↓r_B, ↓r_Chain, ↓r_And, ↓r_Or, ↓r_Not, ↓r_AndV, ↓r_OrV, ↓r_NotV, ↓r_If, ↓r_Un, ↓r_Add, ↓r_I, ↓r_I0, ↓r_Mul, ↓r_Eq, ↓r_Is, ↓r_Nil, ↓r_Cons, ↓r_Tup, ↓r_N, ↓r_CatN, ↓r_RepN, ↓r_No, ↓r_So, ↓r_Sl, ↓r_One, ↓r_Len, ↓r_Int1, ↓r_Int, ↓r_Sum, ↓r_Max, ↓r_All, ↓r_Min2, ↓r_Isi, ↓r_Repr, ↓r_TupOf, ↓r_LstOf, ↓r_Rd, ↓r_Rn, ↓r_Nm, ↓r_Gnil, ↓r_Gcons, ↓r_Gtup, ↓r_Glst, ↓r_Next, ↓r_Seq, ↓r_Cut, ↓r_Never, ↓r_Brk, ↓r_Cnt, ↓r_Drop, ↓r_Ret, ↓r_RetN, ↓r_IfS, ↓r_Set, ↓r_Asg, ↓r_Aug, ↓r_App, ↓r_Par, ↓r_Par3, ↓r_SeqI, ↓r_Rg1, ↓r_Rg2, ↓r_EnT, ↓r_For, ↓r_While, ↓r_Yes, ↓r_Lc, ↓r_Call, ↓r_CallF, ↓r_EqA, ↓r_asD, ↓r_seqOf, ↓r_dataOf, ↓r_isOw, ↓r_Ix, ↓r_Sub, ixx_some, at_0, at_1, at_2, at_3, at_4, ix_40, ix_41, ix_42, ix_43, RV.sl, b2n, Pu.isNon, notRaw, endP, endF, endL, slots0, wipeE, wipeL, List.map_cons, List.map_nil, List.length_cons, List.length_nil, decide_eq_true_eq, decide_true, decide_false, List.cons_append, List.nil_append, List.append_nil, List.replicate_succ, List.replicate_zero, List.getElem?_cons_zero, List.getElem?_cons_succ, List.set_cons_zero, List.set_cons_succ, Option.isSome_some, ite_true, ite_false, Bool.false_eq_true, true_and, and_true, if_true, if_false, Nat.reduceSub, Nat.reduceAdd, Nat.reduceLT, Bool.not_true, Bool.not_false, reduceIte, eq_self, okC_int, okC_bl, okC_lnil, eqD_lnil, okC_tI, okC_lI, eqD_int, eqD_bl, eqD_tups, eqD_lsts, isTy_int_int, isTy_int_bool, isTy_int_tuple, isTy_tup_tuple, isTy_tup_int, isTy_str_str, isTy_bl_int, isTy_bl_bool, List.length_map, List.length_range, ↓r_Rg3, ↓r_St, ↓r_Dc, ↓r_Dg, ↓r_In, ↓r_IxN, ↓r_Ss, ↓r_IsB, ↓sd_need, ↓sd_is_voice_of, ↓sd_turns_of, ↓sd_mirrored]
    refine ⟨ys, by rw [hxy], by omega, by omega, _, rfl, xs, rfl, h0, hn, xs, rfl, h0, by omega, mir xs, rfl, by omega, by omega, ?_⟩
    try simp only [↓r_V, ↓r_C, ↓r_Op, ↓r_B, ↓r_Chain, ↓r_And, ↓r_Or, ↓r_Not, ↓r_AndV, ↓r_OrV, ↓r_NotV, ↓r_If, ↓r_Un, ↓r_Add, ↓r_I, ↓r_I0, ↓r_Mul, ↓r_Eq, ↓r_Is, ↓r_Nil, ↓r_Cons, ↓r_Tup, ↓r_N, ↓r_CatN, ↓r_RepN, ↓r_No, ↓r_So, ↓r_Sl, ↓r_One, ↓r_Len, ↓r_Int1, ↓r_Int, ↓r_Sum, ↓r_Max, ↓r_All, ↓r_Min2, ↓r_Isi, ↓r_Repr, ↓r_TupOf, ↓r_LstOf, ↓r_Rd, ↓r_Rn, ↓r_Nm, ↓r_Gnil, ↓r_Gcons, ↓r_Gtup, ↓r_Glst, ↓r_Next, ↓r_Seq, ↓r_Cut, ↓r_Never, ↓r_Brk, ↓r_Cnt, ↓r_Drop, ↓r_Ret, ↓r_RetN, ↓r_IfS, ↓r_Set, ↓r_Asg, ↓r_Aug, ↓r_App, ↓r_Par, ↓r_Par3, ↓r_SeqI, ↓r_Rg1, ↓r_Rg2, ↓r_EnT, ↓r_For, ↓r_While, ↓r_Yes, ↓r_Lc, ↓r_Call, ↓r_CallF, ↓r_EqA, ↓r_asD, ↓r_seqOf, ↓r_dataOf, ↓r_isOw, ↓r_Ix, ↓r_Sub, ixx_some, at_0, at_1, at_2, at_3, at_4, ix_40, ix_41, ix_42, ix_43, RV.sl, b2n, Pu.isNon, notRaw, endP, endF, endL, slots0, wipeE, wipeL, List.map_cons, List.map_nil, List.length_cons, List.length_nil, decide_eq_true_eq, decide_true, decide_false, List.cons_append, List.nil_append, List.append_nil, List.replicate_succ, List.replicate_zero, List.getElem?_cons_zero, List.getElem?_cons_succ, List.set_cons_zero, List.set_cons_succ, Option.isSome_some, ite_true, ite_false, Bool.false_eq_true, true_and, and_true, if_true, if_false, Nat.reduceSub, Nat.reduceAdd, Nat.reduceLT, Bool.not_true, Bool.not_false, reduceIte, eq_self, okC_int, okC_bl, okC_lnil, eqD_lnil, okC_tI, okC_lI, eqD_int, eqD_bl, eqD_tups, eqD_lsts, isTy_int_int, isTy_int_bool, isTy_int_tuple, isTy_tup_tuple, isTy_tup_int, isTy_str_str, isTy_bl_int, isTy_bl_bool, List.length_map, List.length_range, ↓r_Rg3, ↓r_St, ↓r_Dc, ↓r_Dg, ↓r_In, ↓r_IxN, ↓r_Ss, ↓r_IsB, ↓sd_need, ↓sd_is_voice_of, ↓sd_turns_of, ↓sd_mirrored]
    refine ⟨fun i ε => ∃ s2 s3 : Sl, ε = { sl := [.sh (tI xs), .sh (tI ys), s2, s3], fs := 0 } ∧ (0 < i → ys ∉ turnsL xs) ∧ (1 < i → ys ∉ turnsL (mir xs)), ⟨_, _, rfl, fun z => absurd z (by omega), fun z => absurd z (by omega)⟩, ?_, ?_⟩
    · rintro i d ε2 hd ⟨s2, s3, rfl, n0, n1⟩
      rcases i with _ | _ | i
      · cases hd
        try simp only [↓r_V, ↓r_C, ↓r_Op, ↓r_B, ↓r_Chain, ↓r_And, ↓r_Or, ↓r_Not, ↓r_AndV, ↓r_OrV, ↓r_NotV, ↓r_If, ↓r_Un, ↓r_Add, ↓r_I, ↓r_I0, ↓r_Mul, ↓r_Eq, ↓r_Is, ↓r_Nil, ↓r_Cons, ↓r_Tup, ↓r_N, ↓r_CatN, ↓r_RepN, ↓r_No, ↓r_So, ↓r_Sl, ↓r_One, ↓r_Len, ↓r_Int1, ↓r_Int, ↓r_Sum, ↓r_Max, ↓r_All, ↓r_Min2, ↓r_Isi, ↓r_Repr, ↓r_TupOf, ↓r_LstOf, ↓r_Rd, ↓r_Rn, ↓r_Nm, ↓r_Gnil, ↓r_Gcons, ↓r_Gtup, ↓r_Glst, ↓r_Next, ↓r_Seq, ↓r_Cut, ↓r_Never, ↓r_Brk, ↓r_Cnt, ↓r_Drop, ↓r_Ret, ↓r_RetN, ↓r_IfS, ↓r_Set, ↓r_Asg, ↓r_Aug, ↓r_App, ↓r_Par, ↓r_Par3, ↓r_SeqI, ↓r_Rg1, ↓r_Rg2, ↓r_EnT, ↓r_For, ↓r_While, ↓r_Yes, ↓r_Lc, ↓r_Call, ↓r_CallF, ↓r_EqA, ↓r_asD, ↓r_seqOf, ↓r_dataOf, ↓r_isOw, ↓r_Ix, ↓r_Sub, ixx_some, at_0, at_1, at_2, at_3, at_4, ix_40, ix_41, ix_42, ix_43, RV.sl, b2n, Pu.isNon, notRaw, endP, endF, endL, slots0, wipeE, wipeL, List.map_cons, List.map_nil, List.length_cons, List.length_nil, decide_eq_true_eq, decide_true, decide_false, List.cons_append, List.nil_append, List.append_nil, List.replicate_succ, List.replicate_zero, List.getElem?_cons_zero, List.getElem?_cons_succ, List.set_cons_zero, List.set_cons_succ, Option.isSome_some, ite_true, ite_false, Bool.false_eq_true, true_and, and_true, if_true, if_false, Nat.reduceSub, Nat.reduceAdd, Nat.reduceLT, Bool.not_true, Bool.not_false, reduceIte, eq_self, okC_int, okC_bl, okC_lnil, eqD_lnil, okC_tI, okC_lI, eqD_int, eqD_bl, eqD_tups, eqD_lsts, isTy_int_int, isTy_int_bool, isTy_int_tuple, isTy_tup_tuple, isTy_tup_int, isTy_str_str, isTy_bl_int, isTy_bl_bool, List.length_map, List.length_range, ↓r_Rg3, ↓r_St, ↓r_Dc, ↓r_Dg, ↓r_In, ↓r_IxN, ↓r_Ss, ↓r_IsB, ↓sd_need, ↓sd_is_voice_of, ↓sd_turns_of, ↓sd_mirrored]
        refine ⟨okC_rows _ _, ?_⟩
        rw [Pu.any_rows]
        try simp only [↓r_V, ↓r_C, ↓r_Op, ↓r_B, ↓r_Chain, ↓r_And, ↓r_Or, ↓r_Not, ↓r_AndV, ↓r_OrV, ↓r_NotV, ↓r_If, ↓r_Un, ↓r_Add, ↓r_I, ↓r_I0, ↓r_Mul, ↓r_Eq, ↓r_Is, ↓r_Nil, ↓r_Cons, ↓r_Tup, ↓r_N, ↓r_CatN, ↓r_RepN, ↓r_No, ↓r_So, ↓r_Sl, ↓r_One, ↓r_Len, ↓r_Int1, ↓r_Int, ↓r_Sum, ↓r_Max, ↓r_All, ↓r_Min2, ↓r_Isi, ↓r_Repr, ↓r_TupOf, ↓r_LstOf, ↓r_Rd, ↓r_Rn, ↓r_Nm, ↓r_Gnil, ↓r_Gcons, ↓r_Gtup, ↓r_Glst, ↓r_Next, ↓r_Seq, ↓r_Cut, ↓r_Never, ↓r_Brk, ↓r_Cnt, ↓r_Drop, ↓r_Ret, ↓r_RetN, ↓r_IfS, ↓r_Set, ↓r_Asg, ↓r_Aug, ↓r_App, ↓r_Par, ↓r_Par3, ↓r_SeqI, ↓r_Rg1, ↓r_Rg2, ↓r_EnT, ↓r_For, ↓r_While, ↓r_Yes, ↓r_Lc, ↓r_Call, ↓r_CallF, ↓r_EqA, ↓r_asD, ↓r_seqOf, ↓r_dataOf, ↓r_isOw, ↓r_Ix, ↓r_Sub, ixx_some, at_0, at_1, at_2, at_3, at_4, ix_40, ix_41, ix_42, ix_43, RV.sl, b2n, Pu.isNon, notRaw, endP, endF, endL, slots0, wipeE, wipeL, List.map_cons, List.map_nil, List.length_cons, List.length_nil, decide_eq_true_eq, decide_true, decide_false, List.cons_append, List.nil_append, List.append_nil, List.replicate_succ, List.replicate_zero, List.getElem?_cons_zero, List.getElem?_cons_succ, List.set_cons_zero, List.set_cons_succ, Option.isSome_some, ite_true, ite_false, Bool.false_eq_true, true_and, and_true, if_true, if_false, Nat.reduceSub, Nat.reduceAdd, Nat.reduceLT, Bool.not_true, Bool.not_false, reduceIte, eq_self, okC_int, okC_bl, okC_lnil, eqD_lnil, okC_tI, okC_lI, eqD_int, eqD_bl, eqD_tups, eqD_lsts, isTy_int_int, isTy_int_bool, isTy_int_tuple, isTy_tup_tuple, isTy_tup_int, isTy_str_str, isTy_bl_int, isTy_bl_bool, List.length_map, List.length_range, ↓r_Rg3, ↓r_St, ↓r_Dc, ↓r_Dg, ↓r_In, ↓r_IxN, ↓r_Ss, ↓r_IsB, ↓sd_need, ↓sd_is_voice_of, ↓sd_turns_of, ↓sd_mirrored]
        split
        · rename_i m
          obtain ⟨j, e⟩ := first_mem m
          refine ⟨okC_rows _ _, j, (step_ix e).1, (step_ix e).2, ?_⟩
          try simp only [↓r_V, ↓r_C, ↓r_Op, ↓r_B, ↓r_Chain, ↓r_And, ↓r_Or, ↓r_Not, ↓r_AndV, ↓r_OrV, ↓r_NotV, ↓r_If, ↓r_Un, ↓r_Add, ↓r_I, ↓r_I0, ↓r_Mul, ↓r_Eq, ↓r_Is, ↓r_Nil, ↓r_Cons, ↓r_Tup, ↓r_N, ↓r_CatN, ↓r_RepN, ↓r_No, ↓r_So, ↓r_Sl, ↓r_One, ↓r_Len, ↓r_Int1, ↓r_Int, ↓r_Sum, ↓r_Max, ↓r_All, ↓r_Min2, ↓r_Isi, ↓r_Repr, ↓r_TupOf, ↓r_LstOf, ↓r_Rd, ↓r_Rn, ↓r_Nm, ↓r_Gnil, ↓r_Gcons, ↓r_Gtup, ↓r_Glst, ↓r_Next, ↓r_Seq, ↓r_Cut, ↓r_Never, ↓r_Brk, ↓r_Cnt, ↓r_Drop, ↓r_Ret, ↓r_RetN, ↓r_IfS, ↓r_Set, ↓r_Asg, ↓r_Aug, ↓r_App, ↓r_Par, ↓r_Par3, ↓r_SeqI, ↓r_Rg1, ↓r_Rg2, ↓r_EnT, ↓r_For, ↓r_While, ↓r_Yes, ↓r_Lc, ↓r_Call, ↓r_CallF, ↓r_EqA, ↓r_asD, ↓r_seqOf, ↓r_dataOf, ↓r_isOw, ↓r_Ix, ↓r_Sub, ixx_some, at_0, at_1, at_2, at_3, at_4, ix_40, ix_41, ix_42, ix_43, RV.sl, b2n, Pu.isNon, notRaw, endP, endF, endL, slots0, wipeE, wipeL, List.map_cons, List.map_nil, List.length_cons, List.length_nil, decide_eq_true_eq, decide_true, decide_false, List.cons_append, List.nil_append, List.append_nil, List.replicate_succ, List.replicate_zero, List.getElem?_cons_zero, List.getElem?_cons_succ, List.set_cons_zero, List.set_cons_succ, Option.isSome_some, ite_true, ite_false, Bool.false_eq_true, true_and, and_true, if_true, if_false, Nat.reduceSub, Nat.reduceAdd, Nat.reduceLT, Bool.not_true, Bool.not_false, reduceIte, eq_self, okC_int, okC_bl, okC_lnil, eqD_lnil, okC_tI, okC_lI, eqD_int, eqD_bl, eqD_tups, eqD_lsts, isTy_int_int, isTy_int_bool, isTy_int_tuple, isTy_tup_tuple, isTy_tup_int, isTy_str_str, isTy_bl_int, isTy_bl_bool, List.length_map, List.length_range, ↓r_Rg3, ↓r_St, ↓r_Dc, ↓r_Dg, ↓r_In, ↓r_IxN, ↓r_Ss, ↓r_IsB, ↓sd_need, ↓sd_is_voice_of, ↓sd_turns_of, ↓sd_mirrored]
          rw [show stp xs ys = .tup [.str "turned", .int (j : Nat)] from by unfold stp; rw [e]] at h
          exact h
        · rename_i m
          exact ⟨_, _, rfl, fun _ => m, fun z => z.elim⟩
      · cases hd
        try simp only [↓r_V, ↓r_C, ↓r_Op, ↓r_B, ↓r_Chain, ↓r_And, ↓r_Or, ↓r_Not, ↓r_AndV, ↓r_OrV, ↓r_NotV, ↓r_If, ↓r_Un, ↓r_Add, ↓r_I, ↓r_I0, ↓r_Mul, ↓r_Eq, ↓r_Is, ↓r_Nil, ↓r_Cons, ↓r_Tup, ↓r_N, ↓r_CatN, ↓r_RepN, ↓r_No, ↓r_So, ↓r_Sl, ↓r_One, ↓r_Len, ↓r_Int1, ↓r_Int, ↓r_Sum, ↓r_Max, ↓r_All, ↓r_Min2, ↓r_Isi, ↓r_Repr, ↓r_TupOf, ↓r_LstOf, ↓r_Rd, ↓r_Rn, ↓r_Nm, ↓r_Gnil, ↓r_Gcons, ↓r_Gtup, ↓r_Glst, ↓r_Next, ↓r_Seq, ↓r_Cut, ↓r_Never, ↓r_Brk, ↓r_Cnt, ↓r_Drop, ↓r_Ret, ↓r_RetN, ↓r_IfS, ↓r_Set, ↓r_Asg, ↓r_Aug, ↓r_App, ↓r_Par, ↓r_Par3, ↓r_SeqI, ↓r_Rg1, ↓r_Rg2, ↓r_EnT, ↓r_For, ↓r_While, ↓r_Yes, ↓r_Lc, ↓r_Call, ↓r_CallF, ↓r_EqA, ↓r_asD, ↓r_seqOf, ↓r_dataOf, ↓r_isOw, ↓r_Ix, ↓r_Sub, ixx_some, at_0, at_1, at_2, at_3, at_4, ix_40, ix_41, ix_42, ix_43, RV.sl, b2n, Pu.isNon, notRaw, endP, endF, endL, slots0, wipeE, wipeL, List.map_cons, List.map_nil, List.length_cons, List.length_nil, decide_eq_true_eq, decide_true, decide_false, List.cons_append, List.nil_append, List.append_nil, List.replicate_succ, List.replicate_zero, List.getElem?_cons_zero, List.getElem?_cons_succ, List.set_cons_zero, List.set_cons_succ, Option.isSome_some, ite_true, ite_false, Bool.false_eq_true, true_and, and_true, if_true, if_false, Nat.reduceSub, Nat.reduceAdd, Nat.reduceLT, Bool.not_true, Bool.not_false, reduceIte, eq_self, okC_int, okC_bl, okC_lnil, eqD_lnil, okC_tI, okC_lI, eqD_int, eqD_bl, eqD_tups, eqD_lsts, isTy_int_int, isTy_int_bool, isTy_int_tuple, isTy_tup_tuple, isTy_tup_int, isTy_str_str, isTy_bl_int, isTy_bl_bool, List.length_map, List.length_range, ↓r_Rg3, ↓r_St, ↓r_Dc, ↓r_Dg, ↓r_In, ↓r_IxN, ↓r_Ss, ↓r_IsB, ↓sd_need, ↓sd_is_voice_of, ↓sd_turns_of, ↓sd_mirrored]
        refine ⟨okC_rows _ _, ?_⟩
        rw [Pu.any_rows]
        try simp only [↓r_V, ↓r_C, ↓r_Op, ↓r_B, ↓r_Chain, ↓r_And, ↓r_Or, ↓r_Not, ↓r_AndV, ↓r_OrV, ↓r_NotV, ↓r_If, ↓r_Un, ↓r_Add, ↓r_I, ↓r_I0, ↓r_Mul, ↓r_Eq, ↓r_Is, ↓r_Nil, ↓r_Cons, ↓r_Tup, ↓r_N, ↓r_CatN, ↓r_RepN, ↓r_No, ↓r_So, ↓r_Sl, ↓r_One, ↓r_Len, ↓r_Int1, ↓r_Int, ↓r_Sum, ↓r_Max, ↓r_All, ↓r_Min2, ↓r_Isi, ↓r_Repr, ↓r_TupOf, ↓r_LstOf, ↓r_Rd, ↓r_Rn, ↓r_Nm, ↓r_Gnil, ↓r_Gcons, ↓r_Gtup, ↓r_Glst, ↓r_Next, ↓r_Seq, ↓r_Cut, ↓r_Never, ↓r_Brk, ↓r_Cnt, ↓r_Drop, ↓r_Ret, ↓r_RetN, ↓r_IfS, ↓r_Set, ↓r_Asg, ↓r_Aug, ↓r_App, ↓r_Par, ↓r_Par3, ↓r_SeqI, ↓r_Rg1, ↓r_Rg2, ↓r_EnT, ↓r_For, ↓r_While, ↓r_Yes, ↓r_Lc, ↓r_Call, ↓r_CallF, ↓r_EqA, ↓r_asD, ↓r_seqOf, ↓r_dataOf, ↓r_isOw, ↓r_Ix, ↓r_Sub, ixx_some, at_0, at_1, at_2, at_3, at_4, ix_40, ix_41, ix_42, ix_43, RV.sl, b2n, Pu.isNon, notRaw, endP, endF, endL, slots0, wipeE, wipeL, List.map_cons, List.map_nil, List.length_cons, List.length_nil, decide_eq_true_eq, decide_true, decide_false, List.cons_append, List.nil_append, List.append_nil, List.replicate_succ, List.replicate_zero, List.getElem?_cons_zero, List.getElem?_cons_succ, List.set_cons_zero, List.set_cons_succ, Option.isSome_some, ite_true, ite_false, Bool.false_eq_true, true_and, and_true, if_true, if_false, Nat.reduceSub, Nat.reduceAdd, Nat.reduceLT, Bool.not_true, Bool.not_false, reduceIte, eq_self, okC_int, okC_bl, okC_lnil, eqD_lnil, okC_tI, okC_lI, eqD_int, eqD_bl, eqD_tups, eqD_lsts, isTy_int_int, isTy_int_bool, isTy_int_tuple, isTy_tup_tuple, isTy_tup_int, isTy_str_str, isTy_bl_int, isTy_bl_bool, List.length_map, List.length_range, ↓r_Rg3, ↓r_St, ↓r_Dc, ↓r_Dg, ↓r_In, ↓r_IxN, ↓r_Ss, ↓r_IsB, ↓sd_need, ↓sd_is_voice_of, ↓sd_turns_of, ↓sd_mirrored]
        split
        · rename_i m
          obtain ⟨j, e⟩ := first_mem m
          refine ⟨okC_rows _ _, j, (step_ix e).1, (step_ix e).2, ?_⟩
          try simp only [↓r_V, ↓r_C, ↓r_Op, ↓r_B, ↓r_Chain, ↓r_And, ↓r_Or, ↓r_Not, ↓r_AndV, ↓r_OrV, ↓r_NotV, ↓r_If, ↓r_Un, ↓r_Add, ↓r_I, ↓r_I0, ↓r_Mul, ↓r_Eq, ↓r_Is, ↓r_Nil, ↓r_Cons, ↓r_Tup, ↓r_N, ↓r_CatN, ↓r_RepN, ↓r_No, ↓r_So, ↓r_Sl, ↓r_One, ↓r_Len, ↓r_Int1, ↓r_Int, ↓r_Sum, ↓r_Max, ↓r_All, ↓r_Min2, ↓r_Isi, ↓r_Repr, ↓r_TupOf, ↓r_LstOf, ↓r_Rd, ↓r_Rn, ↓r_Nm, ↓r_Gnil, ↓r_Gcons, ↓r_Gtup, ↓r_Glst, ↓r_Next, ↓r_Seq, ↓r_Cut, ↓r_Never, ↓r_Brk, ↓r_Cnt, ↓r_Drop, ↓r_Ret, ↓r_RetN, ↓r_IfS, ↓r_Set, ↓r_Asg, ↓r_Aug, ↓r_App, ↓r_Par, ↓r_Par3, ↓r_SeqI, ↓r_Rg1, ↓r_Rg2, ↓r_EnT, ↓r_For, ↓r_While, ↓r_Yes, ↓r_Lc, ↓r_Call, ↓r_CallF, ↓r_EqA, ↓r_asD, ↓r_seqOf, ↓r_dataOf, ↓r_isOw, ↓r_Ix, ↓r_Sub, ixx_some, at_0, at_1, at_2, at_3, at_4, ix_40, ix_41, ix_42, ix_43, RV.sl, b2n, Pu.isNon, notRaw, endP, endF, endL, slots0, wipeE, wipeL, List.map_cons, List.map_nil, List.length_cons, List.length_nil, decide_eq_true_eq, decide_true, decide_false, List.cons_append, List.nil_append, List.append_nil, List.replicate_succ, List.replicate_zero, List.getElem?_cons_zero, List.getElem?_cons_succ, List.set_cons_zero, List.set_cons_succ, Option.isSome_some, ite_true, ite_false, Bool.false_eq_true, true_and, and_true, if_true, if_false, Nat.reduceSub, Nat.reduceAdd, Nat.reduceLT, Bool.not_true, Bool.not_false, reduceIte, eq_self, okC_int, okC_bl, okC_lnil, eqD_lnil, okC_tI, okC_lI, eqD_int, eqD_bl, eqD_tups, eqD_lsts, isTy_int_int, isTy_int_bool, isTy_int_tuple, isTy_tup_tuple, isTy_tup_int, isTy_str_str, isTy_bl_int, isTy_bl_bool, List.length_map, List.length_range, ↓r_Rg3, ↓r_St, ↓r_Dc, ↓r_Dg, ↓r_In, ↓r_IxN, ↓r_Ss, ↓r_IsB, ↓sd_need, ↓sd_is_voice_of, ↓sd_turns_of, ↓sd_mirrored]
          rw [show stp xs ys = .tup [.str "mirrored", .int (j : Nat)] from by unfold stp; rw [first_no (n0 (Nat.succ_pos _)), e]] at h
          exact h
        · rename_i m
          exact ⟨_, _, rfl, fun _ => n0 (Nat.succ_pos _), fun _ => m⟩
      · cases hd
    · rintro ε2 ⟨s2, s3, rfl, n0, n1⟩
      try simp only [↓r_V, ↓r_C, ↓r_Op, ↓r_B, ↓r_Chain, ↓r_And, ↓r_Or, ↓r_Not, ↓r_AndV, ↓r_OrV, ↓r_NotV, ↓r_If, ↓r_Un, ↓r_Add, ↓r_I, ↓r_I0, ↓r_Mul, ↓r_Eq, ↓r_Is, ↓r_Nil, ↓r_Cons, ↓r_Tup, ↓r_N, ↓r_CatN, ↓r_RepN, ↓r_No, ↓r_So, ↓r_Sl, ↓r_One, ↓r_Len, ↓r_Int1, ↓r_Int, ↓r_Sum, ↓r_Max, ↓r_All, ↓r_Min2, ↓r_Isi, ↓r_Repr, ↓r_TupOf, ↓r_LstOf, ↓r_Rd, ↓r_Rn, ↓r_Nm, ↓r_Gnil, ↓r_Gcons, ↓r_Gtup, ↓r_Glst, ↓r_Next, ↓r_Seq, ↓r_Cut, ↓r_Never, ↓r_Brk, ↓r_Cnt, ↓r_Drop, ↓r_Ret, ↓r_RetN, ↓r_IfS, ↓r_Set, ↓r_Asg, ↓r_Aug, ↓r_App, ↓r_Par, ↓r_Par3, ↓r_SeqI, ↓r_Rg1, ↓r_Rg2, ↓r_EnT, ↓r_For, ↓r_While, ↓r_Yes, ↓r_Lc, ↓r_Call, ↓r_CallF, ↓r_EqA, ↓r_asD, ↓r_seqOf, ↓r_dataOf, ↓r_isOw, ↓r_Ix, ↓r_Sub, ixx_some, at_0, at_1, at_2, at_3, at_4, ix_40, ix_41, ix_42, ix_43, RV.sl, b2n, Pu.isNon, notRaw, endP, endF, endL, slots0, wipeE, wipeL, List.map_cons, List.map_nil, List.length_cons, List.length_nil, decide_eq_true_eq, decide_true, decide_false, List.cons_append, List.nil_append, List.append_nil, List.replicate_succ, List.replicate_zero, List.getElem?_cons_zero, List.getElem?_cons_succ, List.set_cons_zero, List.set_cons_succ, Option.isSome_some, ite_true, ite_false, Bool.false_eq_true, true_and, and_true, if_true, if_false, Nat.reduceSub, Nat.reduceAdd, Nat.reduceLT, Bool.not_true, Bool.not_false, reduceIte, eq_self, okC_int, okC_bl, okC_lnil, eqD_lnil, okC_tI, okC_lI, eqD_int, eqD_bl, eqD_tups, eqD_lsts, isTy_int_int, isTy_int_bool, isTy_int_tuple, isTy_tup_tuple, isTy_tup_int, isTy_str_str, isTy_bl_int, isTy_bl_bool, List.length_map, List.length_range, ↓r_Rg3, ↓r_St, ↓r_Dc, ↓r_Dg, ↓r_In, ↓r_IxN, ↓r_Ss, ↓r_IsB, ↓sd_need, ↓sd_is_voice_of, ↓sd_turns_of, ↓sd_mirrored]
      rw [show stp xs ys = .non from by unfold stp; rw [first_no (n0 (Nat.succ_pos _)), first_no (n1 (Nat.succ_lt_succ (Nat.succ_pos _)))]] at h
      exact h
end
end U32

set_option Elab.async false
set_option linter.all false
set_option maxRecDepth 100000
set_option maxHeartbeats 4000000
namespace U32
open PySem PySem.Spec PyProof.Rows L2 Gd RZ Pu Pv Pm
section
variable {P : Program} {w : World} {K : PySem.W.Frag} {mg : Str → Option Value} {base : Heap}
def okI (items : List Pu.D) (B : Nat) : Prop := ∃ (cells : List Int) (sp ov tn : Int), items = [lI cells, .int sp, .int ov, .int tn] ∧ 0 ≤ sp ∧ sp ≤ B ∧ 0 ≤ tn ∧ tn ≤ B
theorem blends1 {c t x : Int} (h0 : 0 ≤ t) (h1 : t ≤ 1000001) : CMulW 12113 t ∧ CPow (c % 1999999327 + 12113 * t + 109) 3 ∧ CMulW 1123 t ∧ CMulW (1123 * t) t ∧ CPow (x % 2147482507 + 1123 * t * t + 83) 5 := by
  have m1 : 0 ≤ 1123 * t * t := Int.mul_nonneg (by omega) h0
  have m2 : 1123 * t * t ≤ 1123 * 1000001 * 1000001 := Int.mul_le_mul (by omega) h1 h0 (by omega)
  exact ⟨mulW (a := 64) (b := 64) (by decide) (by omega), powW (n := 3) (by omega), mulW (a := 64) (b := 64) (by decide) (by omega), mulW (a := 64) (b := 64) (by omega) (by omega), powW (n := 5) (by omega)⟩
def sd__law_draw : SpF := fun ds B k => ∃ l : Int, ds = [.int l] ∧ 1 ≤ l ∧ l ≤ 1000000 ∧ B ≤ 1000000 ∧ ∀ r, 0 ≤ r → r < l → k (.int r) (B + 1)
theorem c__law_draw (D : At K mg "_law_draw" s__law_draw ["_law_feed_here", "_law_bound"]) (z_int : mg "int" = none) (z_len : mg "len" = none) : CalG P w K mg base 1 "_law_draw" ["_law_feed_here", "_law_bound"] (spF K (FdL K okI) 1 sd__law_draw) := by
  have nd := sc__law_draw.nd
  apply okL (okI := okI) D sc__law_draw (by decide)
  case body =>
    intro f cdv A outer s H E hr hG
    have hu64 := hr.units
    exact (qss_cons (qs_asg (q_op op_addA l_add (q_ix (qv 0) q_int (fun _ _ => rfl)) q_int) (qg_sub (i := 0) q_int))
 (qss_cons (qs_if (qt_cmp (op_eqA hu64) l_eqA (q_ix (qv 0) q_int (fun _ _ => rfl)) (q_n (qn_lst qa_nil)) (nomark _))
 (qss_one (qs_ret (q_op op_mod l_mod (q_b1 (fun p => pe_callTy call_int1 (by rfl) z_int (by decide +kernel) (pa_cons p pa_nil)) l_int (q_op op_addA l_add (q_op op_mulA l_mul q_int (q_ix (qv 0) q_int (fun _ _ => rfl))) q_int)) (qv 1))))
 qss_nil)
 (qss_cons (qs_if (qt_cmp op_gt l_gt (q_ix (qv 0) q_int (fun _ _ => rfl)) q_int (nomark _))
 (qss_cons (qs_set (i := 5) nd rfl (.inl rfl) (qr_d (q_op op_mod l_mod (q_b1 (fun p => pe_callTy call_int1 (by rfl) z_int (by decide +kernel) (pa_cons p pa_nil)) l_int (q_ix (qv 0) q_int (fun _ _ => rfl))) (qv 1))))
 (qss_cons (qs_asg (q_op op_fdivW l_fdiv (q_ix (qv 0) q_int (fun _ _ => rfl)) (qv 1)) (qg_sub (i := 0) q_int))
 (qss_one (qs_ret (qv 5)))))
 qss_nil)
 (qss_cons (qs_set (i := 2) nd rfl (.inl rfl) (qr_d (q_ix (qv 0) q_int (fun _ _ => rfl))))
 (qss_cons (qs_asg (q_op op_addA l_add (qv 2) q_int) (qg_sub (i := 0) q_int))
 (qss_cons (qs_set (i := 3) nd rfl (.inl rfl) (qr_d (q_ix (q_ix (qv 0) q_int (fun _ _ => rfl)) (q_op op_mod l_mod (q_b1 (fun p => pe_callTy call_int1 (by rfl) z_int (by decide +kernel) (pa_cons p pa_nil)) l_int (qv 2)) (q_b1 (fun p => pe_callB call_len (by rfl) z_len PySem.boot_len (pa_cons p pa_nil)) l_len (q_ix (qv 0) q_int (fun _ _ => rfl)))) (fun _ _ => rfl))))
 (qss_cons (qs_if (QW.qt (qw_and (qt_cmp op_ge l_ge (qv 3) (q_op op_pow l_pow q_int q_int) (nomark _)) (qw_and1 (qt_cmp op_lt l_lt (qv 2) (q_b1 (fun p => pe_callB call_len (by rfl) z_len PySem.boot_len (pa_cons p pa_nil)) l_len (q_ix (qv 0) q_int (fun _ _ => rfl))) (nomark _)))))
 (qss_cons (qs_asg (q_op op_fdivW l_fdiv (qv 3) (qv 1)) (qg_sub (i := 0) q_int))
 (qss_one (qs_ret (q_op op_mod l_mod (q_b1 (fun p => pe_callTy call_int1 (by rfl) z_int (by decide +kernel) (pa_cons p pa_nil)) l_int (qv 3)) (qv 1)))))
 qss_nil)
 (qss_cons (qs_set (i := 4) nd rfl (.inl rfl) (qr_d (q_op op_mod l_mod (q_b1 (fun p => pe_callTy call_int1 (by rfl) z_int (by decide +kernel) (pa_cons p pa_nil)) l_int (q_op op_pow l_pow (q_op op_addA l_add (q_op op_addA l_add (q_op op_mod l_mod (q_b1 (fun p => pe_callTy call_int1 (by rfl) z_int (by decide +kernel) (pa_cons p pa_nil)) l_int (qv 3)) q_int) (q_op op_mulA l_mul q_int (q_ix (qv 0) q_int (fun _ _ => rfl)))) q_int) q_int)) q_int)))
 (qss_cons (qs_set (i := 4) nd rfl (.inl rfl) (qr_d (q_op op_mod l_mod (q_b1 (fun p => pe_callTy call_int1 (by rfl) z_int (by decide +kernel) (pa_cons p pa_nil)) l_int (q_op op_pow l_pow (q_op op_addA l_add (q_op op_addA l_add (qv 4) (q_op op_mulA l_mul (q_op op_mulA l_mul q_int (q_ix (qv 0) q_int (fun _ _ => rfl))) (q_ix (qv 0) q_int (fun _ _ => rfl)))) q_int) q_int)) q_int)))
 (qss_one (qs_ret (q_op op_mod l_mod (q_b1 (fun p => pe_callTy call_int1 (by rfl) z_int (by decide +kernel) (pa_cons p pa_nil)) l_int (q_op op_fdivW l_fdiv (qv 4) q_int)) (qv 1)))))))))))))
  case go =>
    intro ds items B d k hl hi h
    obtain ⟨cells, sp, ov, tn, rfl, s0, s1, t0, t1⟩ := hi
    obtain ⟨l, rfl, l0, l1, b1, h⟩ := h
    try simp only [↓r_V, ↓r_C, ↓r_Op, ↓r_B, ↓r_Chain, ↓r_And, ↓r_Or, ↓r_Not, ↓r_AndV, ↓r_OrV, ↓r_NotV, ↓r_If, ↓r_Un, ↓r_Add, ↓r_I, ↓r_I0, ↓r_Mul, ↓r_Eq, ↓r_Is, ↓r_Nil, ↓r_Cons, ↓r_Tup, ↓r_N, ↓r_CatN, ↓r_RepN, ↓r_No, ↓r_So, ↓r_Sl, ↓r_One, ↓r_Len, ↓r_Int1, ↓r_Int, ↓r_Sum, ↓r_Max, ↓r_All, ↓r_Min2, ↓r_Isi, ↓r_Repr, ↓r_TupOf, ↓r_LstOf, ↓r_Rd, ↓r_Rn, ↓r_Nm, ↓r_Gnil, ↓r_Gcons, ↓r_Gtup, ↓r_Glst, ↓r_Next, ↓r_Seq, ↓r_Cut, ↓r_Never, ↓r_Brk, ↓r_Cnt, ↓r_Drop, ↓r_Ret, ↓r_RetN, ↓r_IfS, ↓r_Set, ↓r_Asg, ↓r_Aug, ↓r_App, ↓r_Par, ↓r_Par3, ↓r_SeqI, ↓r_Rg1, ↓r_Rg2, ↓r_EnT, ↓r_For, ↓r_While, ↓r_Yes, ↓r_Lc, ↓r_Call, ↓r_CallF, ↓r_EqA, ↓r_asD, ↓r_seqOf, ↓r_dataOf, ↓r_isOw, ↓r_Ix, ↓r_Sub, ixx_some, at_0, at_1, at_2, at_3, at_4, ix_40, ix_41, ix_42, ix_43, RV.sl, b2n, Pu.isNon, notRaw, endP, endF, endL, slots0, wipeE, wipeL, List.map_cons, List.map_nil, List.length_cons, List.length_nil, decide_eq_true_eq, decide_true, decide_false, List.cons_append, List.nil_append, List.append_nil, List.replicate_succ, List.replicate_zero, List.getElem?_cons_zero, List.getElem?_cons_succ, List.set_cons_zero, List.set_cons_succ, Option.isSome_some, ite_true, ite_false, Bool.false_eq_true, true_and, and_true, if_true, if_false, Nat.reduceSub, Nat.reduceAdd, Nat.reduceLT, Bool.not_true, Bool.not_false, reduceIte, eq_self, okC_int, okC_bl, okC_lnil, eqD_lnil, okC_tI, okC_lI, eqD_int, eqD_bl, eqD_tups, eqD_lsts, isTy_int_int, isTy_int_bool, isTy_int_tuple, isTy_tup_tuple, isTy_tup_int, isTy_str_str, isTy_bl_int, isTy_bl_bool, List.length_map, List.length_range, ↓r_Rg3, ↓r_St, ↓r_Dc, ↓r_Dg, ↓r_In, ↓r_IxN, ↓r_Ss, ↓r_IsB]
    have em := fun x : Int => (⟨Int.emod_nonneg x (by omega), Int.emod_lt_of_pos x (by omega)⟩ : 0 ≤ x % l ∧ x % l < l)
    have lb : l.natAbs < 2 ^ 64 := by omega
    split
    · exact ⟨mulW (a := 64) (b := 64) (by decide) (by omega), by omega, _, _, rfl, ⟨cells, sp, ov, tn + 1, rfl, by omega, by omega, by omega, by omega⟩, h _ (em _).1 (em _).2⟩
    rename_i hc
    have hc : 0 < cells.length := List.length_pos_iff.mpr hc
    split
    · exact ⟨by omega, divW lb, _, _, rfl, ⟨cells, sp, ov / l, tn + 1, rfl, by omega, by omega, by omega, by omega⟩, h _ (em _).1 (em _).2⟩
    refine ⟨by omega, _, atI_per (Int.emod_nonneg _ (by omega)) (Int.emod_lt_of_pos _ (by omega)), ?_⟩
    generalize per cells _ = c
    try simp only [↓r_V, ↓r_C, ↓r_Op, ↓r_B, ↓r_Chain, ↓r_And, ↓r_Or, ↓r_Not, ↓r_AndV, ↓r_OrV, ↓r_NotV, ↓r_If, ↓r_Un, ↓r_Add, ↓r_I, ↓r_I0, ↓r_Mul, ↓r_Eq, ↓r_Is, ↓r_Nil, ↓r_Cons, ↓r_Tup, ↓r_N, ↓r_CatN, ↓r_RepN, ↓r_No, ↓r_So, ↓r_Sl, ↓r_One, ↓r_Len, ↓r_Int1, ↓r_Int, ↓r_Sum, ↓r_Max, ↓r_All, ↓r_Min2, ↓r_Isi, ↓r_Repr, ↓r_TupOf, ↓r_LstOf, ↓r_Rd, ↓r_Rn, ↓r_Nm, ↓r_Gnil, ↓r_Gcons, ↓r_Gtup, ↓r_Glst, ↓r_Next, ↓r_Seq, ↓r_Cut, ↓r_Never, ↓r_Brk, ↓r_Cnt, ↓r_Drop, ↓r_Ret, ↓r_RetN, ↓r_IfS, ↓r_Set, ↓r_Asg, ↓r_Aug, ↓r_App, ↓r_Par, ↓r_Par3, ↓r_SeqI, ↓r_Rg1, ↓r_Rg2, ↓r_EnT, ↓r_For, ↓r_While, ↓r_Yes, ↓r_Lc, ↓r_Call, ↓r_CallF, ↓r_EqA, ↓r_asD, ↓r_seqOf, ↓r_dataOf, ↓r_isOw, ↓r_Ix, ↓r_Sub, ixx_some, at_0, at_1, at_2, at_3, at_4, ix_40, ix_41, ix_42, ix_43, RV.sl, b2n, Pu.isNon, notRaw, endP, endF, endL, slots0, wipeE, wipeL, List.map_cons, List.map_nil, List.length_cons, List.length_nil, decide_eq_true_eq, decide_true, decide_false, List.cons_append, List.nil_append, List.append_nil, List.replicate_succ, List.replicate_zero, List.getElem?_cons_zero, List.getElem?_cons_succ, List.set_cons_zero, List.set_cons_succ, Option.isSome_some, ite_true, ite_false, Bool.false_eq_true, true_and, and_true, if_true, if_false, Nat.reduceSub, Nat.reduceAdd, Nat.reduceLT, Bool.not_true, Bool.not_false, reduceIte, eq_self, okC_int, okC_bl, okC_lnil, eqD_lnil, okC_tI, okC_lI, eqD_int, eqD_bl, eqD_tups, eqD_lsts, isTy_int_int, isTy_int_bool, isTy_int_tuple, isTy_tup_tuple, isTy_tup_int, isTy_str_str, isTy_bl_int, isTy_bl_bool, List.length_map, List.length_range, ↓r_Rg3, ↓r_St, ↓r_Dc, ↓r_Dg, ↓r_In, ↓r_IxN, ↓r_Ss, ↓r_IsB]
    have bl := fun x => blends1 (c := c) (x := x) (show 0 ≤ tn + 1 by omega) (by omega)
    obtain ⟨w1, w2, w3, w4, -⟩ := bl 0
    refine ⟨powW (n := 18) (by decide), ?_⟩
    have fin : ∃ items B, some (Sl.ow (some d) [lI cells, Pu.D.int (sp + 1), Pu.D.int ov, Pu.D.int (tn + 1)]) = some (Sl.ow (some d) items) ∧ okI items B ∧ k (Pu.D.int (((c % 1999999327 + 12113 * (tn + 1) + 109) ^ Int.toNat 3 % 2147482507 + 1123 * (tn + 1) * (tn + 1) + 83) ^ Int.toNat 5 % 2147482501 / 64 % l)) B :=
      ⟨_, _, rfl, ⟨cells, sp + 1, ov, tn + 1, rfl, by omega, by omega, by omega, by omega⟩, h _ (em _).1 (em _).2⟩
    split
    · split
      · exact ⟨divW lb, by omega, _, _, rfl, ⟨cells, sp + 1, c / l, tn + 1, rfl, by omega, by omega, by omega, by omega⟩, h _ (em _).1 (em _).2⟩
      · exact ⟨by decide, w1, w2, by decide, w3, w4, (bl _).2.2.2.2, by decide, divW (b := 64) (by decide), by omega, fin⟩
    · exact ⟨by decide, w1, w2, by decide, w3, w4, (bl _).2.2.2.2, by decide, divW (b := 64) (by decide), by omega, fin⟩
def Bq (xs : List Int) : Prop := ∀ x ∈ xs, -49 ≤ x ∧ x ≤ 49
theorem Bq.bd {xs : List Int} (h : Bq xs) : Bd 6 xs := fun x hx => by have := h x hx; omega
theorem bq_per {ns : List Int} (h : Bq ns) (i : Int) : -49 ≤ per ns i ∧ per ns i ≤ 49 := by
  have := per_abs (B := 49) (fun x hx => by have := h x hx; omega) i
  omega
theorem bq_of {n : Nat} {F : Int → Int} (h : ∀ i, -49 ≤ F i ∧ F i ≤ 49) : Bq (of n F) := fun x hx => by
  unfold of at hx
  obtain ⟨j, _, rfl⟩ := List.mem_map.mp hx
  exact h j
def sd__law_voice : SpF := fun ds B k => ∃ (n : Nat) (way : Int), ds = [.int n, .int way] ∧ 0 < n ∧ n ≤ 32 ∧ B ≤ 900000 ∧ ∀ (ns : List Int) (B2 : Nat), ns.length = n → Bq ns → B2 ≤ B + 100 → k (tI ns) B2
theorem c__law_voice (D : At K mg "_law_voice" s__law_voice ["_law_feed_here", "_law_wide", "_law_way"]) (c__law_draw : CalG P w K mg base 1 "_law_draw" ["_law_feed_here", "_law_bound"] (spF K (FdL K okI) 1 sd__law_draw)) (z_int : mg "int" = none) (z_len : mg "len" = none) (z_range : mg "range" = none) (z_tuple : mg "tuple" = none) : CalG P w K mg base 2 "_law_voice" ["_law_feed_here", "_law_wide", "_law_way"] (spF K (FdL K okI) 2 sd__law_voice) := by
  have nd := sc__law_voice.nd
  apply okF (F := FdL K okI) D sc__law_voice (by decide)
  case body =>
    intro f cdv A outer s H E hr hG
    have hu64 := hr.units
    exact (qss_cons (qs_if (qt_cmp (op_eqA hu64) l_eqA (qv 2) q_int (nomark _))
 (qss_one (qs_ret (q_tupOf (by rfl) z_tuple (q_n (qn_lc (own := [("_law_beat", 7)]) rfl nd (qi_rg1 (by rfl) z_range (qv 1)) (blkOk_by (N := N__law_voice) (sc := defScope s__law_voice) (by decide +kernel)) (fun _ _ _ _ _ => (qg_name (i := 7) nd rfl (Or.inl rfl))) (fun _ _ _ _ _ => qts_nil) (fun _ _ _ _ _ => (q_callF (i := 0) c__law_draw hr hG (by decide) (by rfl) (qa_cons q_int qa_nil) rfl)))))))
 qss_nil)
 (qss_cons (qs_if (qt_cmp (op_eqA hu64) l_eqA (qv 2) q_int (nomark _))
 (qss_one (qs_ret (q_tupOf (by rfl) z_tuple (q_n (qn_lc (own := [("_law_beat", 7)]) rfl nd (qi_rg1 (by rfl) z_range (qv 1)) (blkOk_by (N := N__law_voice) (sc := defScope s__law_voice) (by decide +kernel)) (fun _ _ _ _ _ => (qg_name (i := 7) nd rfl (Or.inl rfl))) (fun _ _ _ _ _ => qts_nil) (fun _ _ _ _ _ => (q_op op_sub l_sub (q_callF (i := 0) c__law_draw hr hG (by decide) (by rfl) (qa_cons q_int qa_nil) rfl) q_int)))))))
 qss_nil)
 (qss_cons (qs_if (qt_cmp (op_eqA hu64) l_eqA (qv 2) q_int (nomark _))
 (qss_one (qs_ret (q_tupOf (by rfl) z_tuple (q_n (qn_lc (own := [("_law_beat", 7)]) rfl nd (qi_rg1 (by rfl) z_range (qv 1)) (blkOk_by (N := N__law_voice) (sc := defScope s__law_voice) (by decide +kernel)) (fun _ _ _ _ _ => (qg_name (i := 7) nd rfl (Or.inl rfl))) (fun _ _ _ _ _ => qts_nil) (fun _ _ _ _ _ => (q_op op_sub l_sub (q_callF (i := 0) c__law_draw hr hG (by decide) (by rfl) (qa_cons q_int qa_nil) rfl) q_int)))))))
 qss_nil)
 (qss_cons (qs_setLc (i := 3) (own := [("_law_k", 6)]) rfl nd rfl rfl (sw_true rfl rfl rfl (by decide +kernel)) (qi_rg2 (by rfl) z_range q_int (q_op op_addA l_add (qv 1) q_int)) (blkOk_by (N := N__law_voice) (sc := defScope s__law_voice) (by decide +kernel)) (fun _ _ _ _ _ => (qg_name (i := 6) nd rfl (Or.inl rfl))) (fun _ _ _ _ _ => (qts_one (qt_cmp (op_eqA hu64) l_eqA (q_op op_mod l_mod (qv 1) (qv 6)) q_int (nomark _)))) (fun _ _ _ _ _ => (qv 6)))
 (qss_cons (qs_set (i := 4) nd rfl (.inr rfl) (qr_d (q_ix (qv 3) (q_callF (i := 0) c__law_draw hr hG (by decide) (by rfl) (qa_cons (q_b1 (fun p => pe_callB call_len (by rfl) z_len PySem.boot_len (pa_cons p pa_nil)) l_len (qv 3)) qa_nil) rfl) (fun _ _ => rfl))))
 (qss_cons (qs_set (i := 5) nd rfl (.inr rfl) (qr_n (qn_lc (own := [("_law_beat", 7)]) rfl nd (qi_rg1 (by rfl) z_range (qv 4)) (blkOk_by (N := N__law_voice) (sc := defScope s__law_voice) (by decide +kernel)) (fun _ _ _ _ _ => (qg_name (i := 7) nd rfl (Or.inl rfl))) (fun _ _ _ _ _ => qts_nil) (fun _ _ _ _ _ => (q_op op_sub l_sub (q_callF (i := 0) c__law_draw hr hG (by decide) (by rfl) (qa_cons q_int qa_nil) rfl) (q_b1 (fun p => pe_callTy call_int1 (by rfl) z_int (by decide +kernel) (pa_cons p pa_nil)) l_int (q_cmp (op_eqA hu64) l_eqA (qv 2) q_int (nomark _))))))))
 (qss_one (qs_ret (q_tupOf (by rfl) z_tuple (q_n (qn_lc (own := [("_law_beat", 7)]) rfl nd (qi_rg1 (by rfl) z_range (qv 1)) (blkOk_by (N := N__law_voice) (sc := defScope s__law_voice) (by decide +kernel)) (fun _ _ _ _ _ => (qg_name (i := 7) nd rfl (Or.inl rfl))) (fun _ _ _ _ _ => qts_nil) (fun _ _ _ _ _ => (q_ix (qv 5) (q_op op_mod l_mod (q_b1 (fun p => pe_callTy call_int1 (by rfl) z_int (by decide +kernel) (pa_cons p pa_nil)) l_int (qv 7)) (qv 4)) (fun _ _ => rfl))))))))))))))
  case go =>
    intro ds B k hl h
    obtain ⟨n, way, rfl, h0, hn, hB, h⟩ := h
    try simp only [↓r_V, ↓r_C, ↓r_Op, ↓r_B, ↓r_Chain, ↓r_And, ↓r_Or, ↓r_Not, ↓r_AndV, ↓r_OrV, ↓r_NotV, ↓r_If, ↓r_Un, ↓r_Add, ↓r_I, ↓r_I0, ↓r_Mul, ↓r_Eq, ↓r_Is, ↓r_Nil, ↓r_Cons, ↓r_Tup, ↓r_N, ↓r_CatN, ↓r_RepN, ↓r_No, ↓r_So, ↓r_Sl, ↓r_One, ↓r_Len, ↓r_Int1, ↓r_Int, ↓r_Sum, ↓r_Max, ↓r_All, ↓r_Min2, ↓r_Isi, ↓r_Repr, ↓r_TupOf, ↓r_LstOf, ↓r_Rd, ↓r_Rn, ↓r_Nm, ↓r_Gnil, ↓r_Gcons, ↓r_Gtup, ↓r_Glst, ↓r_Next, ↓r_Seq, ↓r_Cut, ↓r_Never, ↓r_Brk, ↓r_Cnt, ↓r_Drop, ↓r_Ret, ↓r_RetN, ↓r_IfS, ↓r_Set, ↓r_Asg, ↓r_Aug, ↓r_App, ↓r_Par, ↓r_Par3, ↓r_SeqI, ↓r_Rg1, ↓r_Rg2, ↓r_EnT, ↓r_For, ↓r_While, ↓r_Yes, ↓r_Lc, ↓r_Call, ↓r_CallF, ↓r_EqA, ↓r_asD, ↓r_seqOf, ↓r_dataOf, ↓r_isOw, ↓r_Ix, ↓r_Sub, ixx_some, at_0, at_1, at_2, at_3, at_4, ix_40, ix_41, ix_42, ix_43, RV.sl, b2n, Pu.isNon, notRaw, endP, endF, endL, slots0, wipeE, wipeL, List.map_cons, List.map_nil, List.length_cons, List.length_nil, decide_eq_true_eq, decide_true, decide_false, List.cons_append, List.nil_append, List.append_nil, List.replicate_succ, List.replicate_zero, List.getElem?_cons_zero, List.getElem?_cons_succ, List.set_cons_zero, List.set_cons_succ, Option.isSome_some, ite_true, ite_false, Bool.false_eq_true, true_and, and_true, if_true, if_false, Nat.reduceSub, Nat.reduceAdd, Nat.reduceLT, Bool.not_true, Bool.not_false, reduceIte, eq_self, okC_int, okC_bl, okC_lnil, eqD_lnil, okC_tI, okC_lI, eqD_int, eqD_bl, eqD_tups, eqD_lsts, isTy_int_int, isTy_int_bool, isTy_int_tuple, isTy_tup_tuple, isTy_tup_int, isTy_str_str, isTy_bl_int, isTy_bl_bool, List.length_map, List.length_range, ↓r_Rg3, ↓r_St, ↓r_Dc, ↓r_Dg, ↓r_In, ↓r_IxN, ↓r_Ss, ↓r_IsB, ↓sd__law_draw]
    split
    · rename_i hw
      refine ⟨⟨by omega, by omega⟩, lc_fi 1 (fun x => 0 ≤ x ∧ x ≤ 1) (by omega) (fun j hj Inv i acc B' hB' h => ?_) (fun ns B' hl hp hB' => ?_)⟩
      · try simp only [↓r_V, ↓r_C, ↓r_Op, ↓r_B, ↓r_Chain, ↓r_And, ↓r_Or, ↓r_Not, ↓r_AndV, ↓r_OrV, ↓r_NotV, ↓r_If, ↓r_Un, ↓r_Add, ↓r_I, ↓r_I0, ↓r_Mul, ↓r_Eq, ↓r_Is, ↓r_Nil, ↓r_Cons, ↓r_Tup, ↓r_N, ↓r_CatN, ↓r_RepN, ↓r_No, ↓r_So, ↓r_Sl, ↓r_One, ↓r_Len, ↓r_Int1, ↓r_Int, ↓r_Sum, ↓r_Max, ↓r_All, ↓r_Min2, ↓r_Isi, ↓r_Repr, ↓r_TupOf, ↓r_LstOf, ↓r_Rd, ↓r_Rn, ↓r_Nm, ↓r_Gnil, ↓r_Gcons, ↓r_Gtup, ↓r_Glst, ↓r_Next, ↓r_Seq, ↓r_Cut, ↓r_Never, ↓r_Brk, ↓r_Cnt, ↓r_Drop, ↓r_Ret, ↓r_RetN, ↓r_IfS, ↓r_Set, ↓r_Asg, ↓r_Aug, ↓r_App, ↓r_Par, ↓r_Par3, ↓r_SeqI, ↓r_Rg1, ↓r_Rg2, ↓r_EnT, ↓r_For, ↓r_While, ↓r_Yes, ↓r_Lc, ↓r_Call, ↓r_CallF, ↓r_EqA, ↓r_asD, ↓r_seqOf, ↓r_dataOf, ↓r_isOw, ↓r_Ix, ↓r_Sub, ixx_some, at_0, at_1, at_2, at_3, at_4, ix_40, ix_41, ix_42, ix_43, RV.sl, b2n, Pu.isNon, notRaw, endP, endF, endL, slots0, wipeE, wipeL, List.map_cons, List.map_nil, List.length_cons, List.length_nil, decide_eq_true_eq, decide_true, decide_false, List.cons_append, List.nil_append, List.append_nil, List.replicate_succ, List.replicate_zero, List.getElem?_cons_zero, List.getElem?_cons_succ, List.set_cons_zero, List.set_cons_succ, Option.isSome_some, ite_true, ite_false, Bool.false_eq_true, true_and, and_true, if_true, if_false, Nat.reduceSub, Nat.reduceAdd, Nat.reduceLT, Bool.not_true, Bool.not_false, reduceIte, eq_self, okC_int, okC_bl, okC_lnil, eqD_lnil, okC_tI, okC_lI, eqD_int, eqD_bl, eqD_tups, eqD_lsts, isTy_int_int, isTy_int_bool, isTy_int_tuple, isTy_tup_tuple, isTy_tup_int, isTy_str_str, isTy_bl_int, isTy_bl_bool, List.length_map, List.length_range, ↓r_Rg3, ↓r_St, ↓r_Dc, ↓r_Dg, ↓r_In, ↓r_IxN, ↓r_Ss, ↓r_IsB, ↓sd__law_draw]
        refine ⟨2, rfl, by omega, by omega, by omega, fun r r0 r1 => h _ _ (by omega) (by omega)⟩
      · try simp only [↓r_V, ↓r_C, ↓r_Op, ↓r_B, ↓r_Chain, ↓r_And, ↓r_Or, ↓r_Not, ↓r_AndV, ↓r_OrV, ↓r_NotV, ↓r_If, ↓r_Un, ↓r_Add, ↓r_I, ↓r_I0, ↓r_Mul, ↓r_Eq, ↓r_Is, ↓r_Nil, ↓r_Cons, ↓r_Tup, ↓r_N, ↓r_CatN, ↓r_RepN, ↓r_No, ↓r_So, ↓r_Sl, ↓r_One, ↓r_Len, ↓r_Int1, ↓r_Int, ↓r_Sum, ↓r_Max, ↓r_All, ↓r_Min2, ↓r_Isi, ↓r_Repr, ↓r_TupOf, ↓r_LstOf, ↓r_Rd, ↓r_Rn, ↓r_Nm, ↓r_Gnil, ↓r_Gcons, ↓r_Gtup, ↓r_Glst, ↓r_Next, ↓r_Seq, ↓r_Cut, ↓r_Never, ↓r_Brk, ↓r_Cnt, ↓r_Drop, ↓r_Ret, ↓r_RetN, ↓r_IfS, ↓r_Set, ↓r_Asg, ↓r_Aug, ↓r_App, ↓r_Par, ↓r_Par3, ↓r_SeqI, ↓r_Rg1, ↓r_Rg2, ↓r_EnT, ↓r_For, ↓r_While, ↓r_Yes, ↓r_Lc, ↓r_Call, ↓r_CallF, ↓r_EqA, ↓r_asD, ↓r_seqOf, ↓r_dataOf, ↓r_isOw, ↓r_Ix, ↓r_Sub, ixx_some, at_0, at_1, at_2, at_3, at_4, ix_40, ix_41, ix_42, ix_43, RV.sl, b2n, Pu.isNon, notRaw, endP, endF, endL, slots0, wipeE, wipeL, List.map_cons, List.map_nil, List.length_cons, List.length_nil, decide_eq_true_eq, decide_true, decide_false, List.cons_append, List.nil_append, List.append_nil, List.replicate_succ, List.replicate_zero, List.getElem?_cons_zero, List.getElem?_cons_succ, List.set_cons_zero, List.set_cons_succ, Option.isSome_some, ite_true, ite_false, Bool.false_eq_true, true_and, and_true, if_true, if_false, Nat.reduceSub, Nat.reduceAdd, Nat.reduceLT, Bool.not_true, Bool.not_false, reduceIte, eq_self, okC_int, okC_bl, okC_lnil, eqD_lnil, okC_tI, okC_lI, eqD_int, eqD_bl, eqD_tups, eqD_lsts, isTy_int_int, isTy_int_bool, isTy_int_tuple, isTy_tup_tuple, isTy_tup_int, isTy_str_str, isTy_bl_int, isTy_bl_bool, List.length_map, List.length_range, ↓r_Rg3, ↓r_St, ↓r_Dc, ↓r_Dg, ↓r_In, ↓r_IxN, ↓r_Ss, ↓r_IsB, ↓sd__law_draw]
        refine h ns B' hl (fun x hx => ?_) (by omega)
        have := hp x hx
        omega
    rename_i hw
    split
    · refine ⟨⟨by omega, by omega⟩, lc_fi 1 (fun x => -2 ≤ x ∧ x ≤ 2) (by omega) (fun j hj Inv i acc B' hB' h => ?_) (fun ns B' hl hp hB' => ?_)⟩
      · try simp only [↓r_V, ↓r_C, ↓r_Op, ↓r_B, ↓r_Chain, ↓r_And, ↓r_Or, ↓r_Not, ↓r_AndV, ↓r_OrV, ↓r_NotV, ↓r_If, ↓r_Un, ↓r_Add, ↓r_I, ↓r_I0, ↓r_Mul, ↓r_Eq, ↓r_Is, ↓r_Nil, ↓r_Cons, ↓r_Tup, ↓r_N, ↓r_CatN, ↓r_RepN, ↓r_No, ↓r_So, ↓r_Sl, ↓r_One, ↓r_Len, ↓r_Int1, ↓r_Int, ↓r_Sum, ↓r_Max, ↓r_All, ↓r_Min2, ↓r_Isi, ↓r_Repr, ↓r_TupOf, ↓r_LstOf, ↓r_Rd, ↓r_Rn, ↓r_Nm, ↓r_Gnil, ↓r_Gcons, ↓r_Gtup, ↓r_Glst, ↓r_Next, ↓r_Seq, ↓r_Cut, ↓r_Never, ↓r_Brk, ↓r_Cnt, ↓r_Drop, ↓r_Ret, ↓r_RetN, ↓r_IfS, ↓r_Set, ↓r_Asg, ↓r_Aug, ↓r_App, ↓r_Par, ↓r_Par3, ↓r_SeqI, ↓r_Rg1, ↓r_Rg2, ↓r_EnT, ↓r_For, ↓r_While, ↓r_Yes, ↓r_Lc, ↓r_Call, ↓r_CallF, ↓r_EqA, ↓r_asD, ↓r_seqOf, ↓r_dataOf, ↓r_isOw, ↓r_Ix, ↓r_Sub, ixx_some, at_0, at_1, at_2, at_3, at_4, ix_40, ix_41, ix_42, ix_43, RV.sl, b2n, Pu.isNon, notRaw, endP, endF, endL, slots0, wipeE, wipeL, List.map_cons, List.map_nil, List.length_cons, List.length_nil, decide_eq_true_eq, decide_true, decide_false, List.cons_append, List.nil_append, List.append_nil, List.replicate_succ, List.replicate_zero, List.getElem?_cons_zero, List.getElem?_cons_succ, List.set_cons_zero, List.set_cons_succ, Option.isSome_some, ite_true, ite_false, Bool.false_eq_true, true_and, and_true, if_true, if_false, Nat.reduceSub, Nat.reduceAdd, Nat.reduceLT, Bool.not_true, Bool.not_false, reduceIte, eq_self, okC_int, okC_bl, okC_lnil, eqD_lnil, okC_tI, okC_lI, eqD_int, eqD_bl, eqD_tups, eqD_lsts, isTy_int_int, isTy_int_bool, isTy_int_tuple, isTy_tup_tuple, isTy_tup_int, isTy_str_str, isTy_bl_int, isTy_bl_bool, List.length_map, List.length_range, ↓r_Rg3, ↓r_St, ↓r_Dc, ↓r_Dg, ↓r_In, ↓r_IxN, ↓r_Ss, ↓r_IsB, ↓sd__law_draw]
        refine ⟨5, rfl, by omega, by omega, by omega, fun r r0 r1 => h _ _ (by omega) (by omega)⟩
      · try simp only [↓r_V, ↓r_C, ↓r_Op, ↓r_B, ↓r_Chain, ↓r_And, ↓r_Or, ↓r_Not, ↓r_AndV, ↓r_OrV, ↓r_NotV, ↓r_If, ↓r_Un, ↓r_Add, ↓r_I, ↓r_I0, ↓r_Mul, ↓r_Eq, ↓r_Is, ↓r_Nil, ↓r_Cons, ↓r_Tup, ↓r_N, ↓r_CatN, ↓r_RepN, ↓r_No, ↓r_So, ↓r_Sl, ↓r_One, ↓r_Len, ↓r_Int1, ↓r_Int, ↓r_Sum, ↓r_Max, ↓r_All, ↓r_Min2, ↓r_Isi, ↓r_Repr, ↓r_TupOf, ↓r_LstOf, ↓r_Rd, ↓r_Rn, ↓r_Nm, ↓r_Gnil, ↓r_Gcons, ↓r_Gtup, ↓r_Glst, ↓r_Next, ↓r_Seq, ↓r_Cut, ↓r_Never, ↓r_Brk, ↓r_Cnt, ↓r_Drop, ↓r_Ret, ↓r_RetN, ↓r_IfS, ↓r_Set, ↓r_Asg, ↓r_Aug, ↓r_App, ↓r_Par, ↓r_Par3, ↓r_SeqI, ↓r_Rg1, ↓r_Rg2, ↓r_EnT, ↓r_For, ↓r_While, ↓r_Yes, ↓r_Lc, ↓r_Call, ↓r_CallF, ↓r_EqA, ↓r_asD, ↓r_seqOf, ↓r_dataOf, ↓r_isOw, ↓r_Ix, ↓r_Sub, ixx_some, at_0, at_1, at_2, at_3, at_4, ix_40, ix_41, ix_42, ix_43, RV.sl, b2n, Pu.isNon, notRaw, endP, endF, endL, slots0, wipeE, wipeL, List.map_cons, List.map_nil, List.length_cons, List.length_nil, decide_eq_true_eq, decide_true, decide_false, List.cons_append, List.nil_append, List.append_nil, List.replicate_succ, List.replicate_zero, List.getElem?_cons_zero, List.getElem?_cons_succ, List.set_cons_zero, List.set_cons_succ, Option.isSome_some, ite_true, ite_false, Bool.false_eq_true, true_and, and_true, if_true, if_false, Nat.reduceSub, Nat.reduceAdd, Nat.reduceLT, Bool.not_true, Bool.not_false, reduceIte, eq_self, okC_int, okC_bl, okC_lnil, eqD_lnil, okC_tI, okC_lI, eqD_int, eqD_bl, eqD_tups, eqD_lsts, isTy_int_int, isTy_int_bool, isTy_int_tuple, isTy_tup_tuple, isTy_tup_int, isTy_str_str, isTy_bl_int, isTy_bl_bool, List.length_map, List.length_range, ↓r_Rg3, ↓r_St, ↓r_Dc, ↓r_Dg, ↓r_In, ↓r_IxN, ↓r_Ss, ↓r_IsB, ↓sd__law_draw]
        refine h ns B' hl (fun x hx => ?_) (by omega)
        have := hp x hx
        omega
    split
    · refine ⟨⟨by omega, by omega⟩, lc_fi 1 (fun x => -49 ≤ x ∧ x ≤ 49) (by omega) (fun j hj Inv i acc B' hB' h => ?_) (fun ns B' hl hp hB' => ?_)⟩
      · try simp only [↓r_V, ↓r_C, ↓r_Op, ↓r_B, ↓r_Chain, ↓r_And, ↓r_Or, ↓r_Not, ↓r_AndV, ↓r_OrV, ↓r_NotV, ↓r_If, ↓r_Un, ↓r_Add, ↓r_I, ↓r_I0, ↓r_Mul, ↓r_Eq, ↓r_Is, ↓r_Nil, ↓r_Cons, ↓r_Tup, ↓r_N, ↓r_CatN, ↓r_RepN, ↓r_No, ↓r_So, ↓r_Sl, ↓r_One, ↓r_Len, ↓r_Int1, ↓r_Int, ↓r_Sum, ↓r_Max, ↓r_All, ↓r_Min2, ↓r_Isi, ↓r_Repr, ↓r_TupOf, ↓r_LstOf, ↓r_Rd, ↓r_Rn, ↓r_Nm, ↓r_Gnil, ↓r_Gcons, ↓r_Gtup, ↓r_Glst, ↓r_Next, ↓r_Seq, ↓r_Cut, ↓r_Never, ↓r_Brk, ↓r_Cnt, ↓r_Drop, ↓r_Ret, ↓r_RetN, ↓r_IfS, ↓r_Set, ↓r_Asg, ↓r_Aug, ↓r_App, ↓r_Par, ↓r_Par3, ↓r_SeqI, ↓r_Rg1, ↓r_Rg2, ↓r_EnT, ↓r_For, ↓r_While, ↓r_Yes, ↓r_Lc, ↓r_Call, ↓r_CallF, ↓r_EqA, ↓r_asD, ↓r_seqOf, ↓r_dataOf, ↓r_isOw, ↓r_Ix, ↓r_Sub, ixx_some, at_0, at_1, at_2, at_3, at_4, ix_40, ix_41, ix_42, ix_43, RV.sl, b2n, Pu.isNon, notRaw, endP, endF, endL, slots0, wipeE, wipeL, List.map_cons, List.map_nil, List.length_cons, List.length_nil, decide_eq_true_eq, decide_true, decide_false, List.cons_append, List.nil_append, List.append_nil, List.replicate_succ, List.replicate_zero, List.getElem?_cons_zero, List.getElem?_cons_succ, List.set_cons_zero, List.set_cons_succ, Option.isSome_some, ite_true, ite_false, Bool.false_eq_true, true_and, and_true, if_true, if_false, Nat.reduceSub, Nat.reduceAdd, Nat.reduceLT, Bool.not_true, Bool.not_false, reduceIte, eq_self, okC_int, okC_bl, okC_lnil, eqD_lnil, okC_tI, okC_lI, eqD_int, eqD_bl, eqD_tups, eqD_lsts, isTy_int_int, isTy_int_bool, isTy_int_tuple, isTy_tup_tuple, isTy_tup_int, isTy_str_str, isTy_bl_int, isTy_bl_bool, List.length_map, List.length_range, ↓r_Rg3, ↓r_St, ↓r_Dc, ↓r_Dg, ↓r_In, ↓r_IxN, ↓r_Ss, ↓r_IsB, ↓sd__law_draw]
        refine ⟨99, rfl, by omega, by omega, by omega, fun r r0 r1 => h _ _ (by omega) (by omega)⟩
      · try simp only [↓r_V, ↓r_C, ↓r_Op, ↓r_B, ↓r_Chain, ↓r_And, ↓r_Or, ↓r_Not, ↓r_AndV, ↓r_OrV, ↓r_NotV, ↓r_If, ↓r_Un, ↓r_Add, ↓r_I, ↓r_I0, ↓r_Mul, ↓r_Eq, ↓r_Is, ↓r_Nil, ↓r_Cons, ↓r_Tup, ↓r_N, ↓r_CatN, ↓r_RepN, ↓r_No, ↓r_So, ↓r_Sl, ↓r_One, ↓r_Len, ↓r_Int1, ↓r_Int, ↓r_Sum, ↓r_Max, ↓r_All, ↓r_Min2, ↓r_Isi, ↓r_Repr, ↓r_TupOf, ↓r_LstOf, ↓r_Rd, ↓r_Rn, ↓r_Nm, ↓r_Gnil, ↓r_Gcons, ↓r_Gtup, ↓r_Glst, ↓r_Next, ↓r_Seq, ↓r_Cut, ↓r_Never, ↓r_Brk, ↓r_Cnt, ↓r_Drop, ↓r_Ret, ↓r_RetN, ↓r_IfS, ↓r_Set, ↓r_Asg, ↓r_Aug, ↓r_App, ↓r_Par, ↓r_Par3, ↓r_SeqI, ↓r_Rg1, ↓r_Rg2, ↓r_EnT, ↓r_For, ↓r_While, ↓r_Yes, ↓r_Lc, ↓r_Call, ↓r_CallF, ↓r_EqA, ↓r_asD, ↓r_seqOf, ↓r_dataOf, ↓r_isOw, ↓r_Ix, ↓r_Sub, ixx_some, at_0, at_1, at_2, at_3, at_4, ix_40, ix_41, ix_42, ix_43, RV.sl, b2n, Pu.isNon, notRaw, endP, endF, endL, slots0, wipeE, wipeL, List.map_cons, List.map_nil, List.length_cons, List.length_nil, decide_eq_true_eq, decide_true, decide_false, List.cons_append, List.nil_append, List.append_nil, List.replicate_succ, List.replicate_zero, List.getElem?_cons_zero, List.getElem?_cons_succ, List.set_cons_zero, List.set_cons_succ, Option.isSome_some, ite_true, ite_false, Bool.false_eq_true, true_and, and_true, if_true, if_false, Nat.reduceSub, Nat.reduceAdd, Nat.reduceLT, Bool.not_true, Bool.not_false, reduceIte, eq_self, okC_int, okC_bl, okC_lnil, eqD_lnil, okC_tI, okC_lI, eqD_int, eqD_bl, eqD_tups, eqD_lsts, isTy_int_int, isTy_int_bool, isTy_int_tuple, isTy_tup_tuple, isTy_tup_int, isTy_str_str, isTy_bl_int, isTy_bl_bool, List.length_map, List.length_range, ↓r_Rg3, ↓r_St, ↓r_Dc, ↓r_Dg, ↓r_In, ↓r_IxN, ↓r_Ss, ↓r_IsB, ↓sd__law_draw]
        refine h ns B' hl (fun x hx => ?_) (by omega)
        have := hp x hx
        omega
    have en : ((n : Int) + 1 - 1).toNat = (n : Int).toNat := by omega
    rw [en]
    refine ⟨⟨by omega, by omega, by omega, by omega⟩, lc_fil (fun k : Nat => if (n : Int) % (1 + k) = 0 then some (Pu.D.int (1 + k)) else none) (by rw [List.length_range]; omega) (fun k hk Inv i acc h => ?_) ?_⟩
    · have hk := mem_rg hk
      try simp only [↓r_V, ↓r_C, ↓r_Op, ↓r_B, ↓r_Chain, ↓r_And, ↓r_Or, ↓r_Not, ↓r_AndV, ↓r_OrV, ↓r_NotV, ↓r_If, ↓r_Un, ↓r_Add, ↓r_I, ↓r_I0, ↓r_Mul, ↓r_Eq, ↓r_Is, ↓r_Nil, ↓r_Cons, ↓r_Tup, ↓r_N, ↓r_CatN, ↓r_RepN, ↓r_No, ↓r_So, ↓r_Sl, ↓r_One, ↓r_Len, ↓r_Int1, ↓r_Int, ↓r_Sum, ↓r_Max, ↓r_All, ↓r_Min2, ↓r_Isi, ↓r_Repr, ↓r_TupOf, ↓r_LstOf, ↓r_Rd, ↓r_Rn, ↓r_Nm, ↓r_Gnil, ↓r_Gcons, ↓r_Gtup, ↓r_Glst, ↓r_Next, ↓r_Seq, ↓r_Cut, ↓r_Never, ↓r_Brk, ↓r_Cnt, ↓r_Drop, ↓r_Ret, ↓r_RetN, ↓r_IfS, ↓r_Set, ↓r_Asg, ↓r_Aug, ↓r_App, ↓r_Par, ↓r_Par3, ↓r_SeqI, ↓r_Rg1, ↓r_Rg2, ↓r_EnT, ↓r_For, ↓r_While, ↓r_Yes, ↓r_Lc, ↓r_Call, ↓r_CallF, ↓r_EqA, ↓r_asD, ↓r_seqOf, ↓r_dataOf, ↓r_isOw, ↓r_Ix, ↓r_Sub, ixx_some, at_0, at_1, at_2, at_3, at_4, ix_40, ix_41, ix_42, ix_43, RV.sl, b2n, Pu.isNon, notRaw, endP, endF, endL, slots0, wipeE, wipeL, List.map_cons, List.map_nil, List.length_cons, List.length_nil, decide_eq_true_eq, decide_true, decide_false, List.cons_append, List.nil_append, List.append_nil, List.replicate_succ, List.replicate_zero, List.getElem?_cons_zero, List.getElem?_cons_succ, List.set_cons_zero, List.set_cons_succ, Option.isSome_some, ite_true, ite_false, Bool.false_eq_true, true_and, and_true, if_true, if_false, Nat.reduceSub, Nat.reduceAdd, Nat.reduceLT, Bool.not_true, Bool.not_false, reduceIte, eq_self, okC_int, okC_bl, okC_lnil, eqD_lnil, okC_tI, okC_lI, eqD_int, eqD_bl, eqD_tups, eqD_lsts, isTy_int_int, isTy_int_bool, isTy_int_tuple, isTy_tup_tuple, isTy_tup_int, isTy_str_str, isTy_bl_int, isTy_bl_bool, List.length_map, List.length_range, ↓r_Rg3, ↓r_St, ↓r_Dc, ↓r_Dg, ↓r_In, ↓r_IxN, ↓r_Ss, ↓r_IsB, ↓sd__law_draw]
      refine ⟨by omega, ?_⟩
      split
      · rename_i hz
        rw [if_pos hz] at h
        exact h
      · rename_i hz
        rw [if_neg hz] at h
        rw [Option.toList_none, List.append_nil] at h
        exact h
    · generalize hS : List.filterMap (fun k : Nat => if (n : Int) % (1 + k) = 0 then some (Pu.D.int (1 + k)) else none) (List.range (n : Int).toNat) = S
      have s2 : ∀ x ∈ S, ∃ m : Nat, 1 ≤ m ∧ m ≤ n ∧ x = .int (m : Nat) := fun x hx => by
        rw [← hS] at hx
        obtain ⟨k, hk, e⟩ := List.mem_filterMap.mp hx
        have hk := mem_rg hk
        split at e
        · cases e
          exact ⟨1 + k, by omega, by omega, by rw [Int.natCast_add]; rfl⟩
        · cases e
      have s1 : S.length ≤ n := by
        rw [← hS]
        exact Nat.le_trans (List.length_filterMap_le _ _) (by rw [List.length_range]; omega)
      have s0 : 0 < S.length := by
        refine List.length_pos_of_mem (a := Pu.D.int (1 + (0 : Nat))) ?_
        rw [← hS]
        refine List.mem_filterMap.mpr ⟨0, List.mem_range.mpr (by omega), ?_⟩
        rw [if_pos (by simp)]
      try simp only [↓r_V, ↓r_C, ↓r_Op, ↓r_B, ↓r_Chain, ↓r_And, ↓r_Or, ↓r_Not, ↓r_AndV, ↓r_OrV, ↓r_NotV, ↓r_If, ↓r_Un, ↓r_Add, ↓r_I, ↓r_I0, ↓r_Mul, ↓r_Eq, ↓r_Is, ↓r_Nil, ↓r_Cons, ↓r_Tup, ↓r_N, ↓r_CatN, ↓r_RepN, ↓r_No, ↓r_So, ↓r_Sl, ↓r_One, ↓r_Len, ↓r_Int1, ↓r_Int, ↓r_Sum, ↓r_Max, ↓r_All, ↓r_Min2, ↓r_Isi, ↓r_Repr, ↓r_TupOf, ↓r_LstOf, ↓r_Rd, ↓r_Rn, ↓r_Nm, ↓r_Gnil, ↓r_Gcons, ↓r_Gtup, ↓r_Glst, ↓r_Next, ↓r_Seq, ↓r_Cut, ↓r_Never, ↓r_Brk, ↓r_Cnt, ↓r_Drop, ↓r_Ret, ↓r_RetN, ↓r_IfS, ↓r_Set, ↓r_Asg, ↓r_Aug, ↓r_App, ↓r_Par, ↓r_Par3, ↓r_SeqI, ↓r_Rg1, ↓r_Rg2, ↓r_EnT, ↓r_For, ↓r_While, ↓r_Yes, ↓r_Lc, ↓r_Call, ↓r_CallF, ↓r_EqA, ↓r_asD, ↓r_seqOf, ↓r_dataOf, ↓r_isOw, ↓r_Ix, ↓r_Sub, ixx_some, at_0, at_1, at_2, at_3, at_4, ix_40, ix_41, ix_42, ix_43, RV.sl, b2n, Pu.isNon, notRaw, endP, endF, endL, slots0, wipeE, wipeL, List.map_cons, List.map_nil, List.length_cons, List.length_nil, decide_eq_true_eq, decide_true, decide_false, List.cons_append, List.nil_append, List.append_nil, List.replicate_succ, List.replicate_zero, List.getElem?_cons_zero, List.getElem?_cons_succ, List.set_cons_zero, List.set_cons_succ, Option.isSome_some, ite_true, ite_false, Bool.false_eq_true, true_and, and_true, if_true, if_false, Nat.reduceSub, Nat.reduceAdd, Nat.reduceLT, Bool.not_true, Bool.not_false, reduceIte, eq_self, okC_int, okC_bl, okC_lnil, eqD_lnil, okC_tI, okC_lI, eqD_int, eqD_bl, eqD_tups, eqD_lsts, isTy_int_int, isTy_int_bool, isTy_int_tuple, isTy_tup_tuple, isTy_tup_int, isTy_str_str, isTy_bl_int, isTy_bl_bool, List.length_map, List.length_range, ↓r_Rg3, ↓r_St, ↓r_Dc, ↓r_Dg, ↓r_In, ↓r_IxN, ↓r_Ss, ↓r_IsB, ↓sd__law_draw]
      refine ⟨_, rfl, by omega, by omega, by omega, fun r r0 r1 => ⟨_, atI_in r0 r1, ?_⟩⟩
      obtain ⟨m, m0, m1, e⟩ := s2 _ (List.getElem_mem (l := S) (n := r.toNat) (by omega))
      rw [e]
      try simp only [↓r_V, ↓r_C, ↓r_Op, ↓r_B, ↓r_Chain, ↓r_And, ↓r_Or, ↓r_Not, ↓r_AndV, ↓r_OrV, ↓r_NotV, ↓r_If, ↓r_Un, ↓r_Add, ↓r_I, ↓r_I0, ↓r_Mul, ↓r_Eq, ↓r_Is, ↓r_Nil, ↓r_Cons, ↓r_Tup, ↓r_N, ↓r_CatN, ↓r_RepN, ↓r_No, ↓r_So, ↓r_Sl, ↓r_One, ↓r_Len, ↓r_Int1, ↓r_Int, ↓r_Sum, ↓r_Max, ↓r_All, ↓r_Min2, ↓r_Isi, ↓r_Repr, ↓r_TupOf, ↓r_LstOf, ↓r_Rd, ↓r_Rn, ↓r_Nm, ↓r_Gnil, ↓r_Gcons, ↓r_Gtup, ↓r_Glst, ↓r_Next, ↓r_Seq, ↓r_Cut, ↓r_Never, ↓r_Brk, ↓r_Cnt, ↓r_Drop, ↓r_Ret, ↓r_RetN, ↓r_IfS, ↓r_Set, ↓r_Asg, ↓r_Aug, ↓r_App, ↓r_Par, ↓r_Par3, ↓r_SeqI, ↓r_Rg1, ↓r_Rg2, ↓r_EnT, ↓r_For, ↓r_While, ↓r_Yes, ↓r_Lc, ↓r_Call, ↓r_CallF, ↓r_EqA, ↓r_asD, ↓r_seqOf, ↓r_dataOf, ↓r_isOw, ↓r_Ix, ↓r_Sub, ixx_some, at_0, at_1, at_2, at_3, at_4, ix_40, ix_41, ix_42, ix_43, RV.sl, b2n, Pu.isNon, notRaw, endP, endF, endL, slots0, wipeE, wipeL, List.map_cons, List.map_nil, List.length_cons, List.length_nil, decide_eq_true_eq, decide_true, decide_false, List.cons_append, List.nil_append, List.append_nil, List.replicate_succ, List.replicate_zero, List.getElem?_cons_zero, List.getElem?_cons_succ, List.set_cons_zero, List.set_cons_succ, Option.isSome_some, ite_true, ite_false, Bool.false_eq_true, true_and, and_true, if_true, if_false, Nat.reduceSub, Nat.reduceAdd, Nat.reduceLT, Bool.not_true, Bool.not_false, reduceIte, eq_self, okC_int, okC_bl, okC_lnil, eqD_lnil, okC_tI, okC_lI, eqD_int, eqD_bl, eqD_tups, eqD_lsts, isTy_int_int, isTy_int_bool, isTy_int_tuple, isTy_tup_tuple, isTy_tup_int, isTy_str_str, isTy_bl_int, isTy_bl_bool, List.length_map, List.length_range, ↓r_Rg3, ↓r_St, ↓r_Dc, ↓r_Dg, ↓r_In, ↓r_IxN, ↓r_Ss, ↓r_IsB, ↓sd__law_draw]
      refine ⟨⟨by omega, by omega⟩, lc_fi 1 (fun x => -1 ≤ x ∧ x ≤ 2) (by omega) (fun j hj Inv i acc B' hB' h => ?_) (fun ns B' hl hp hB' => ?_)⟩
      · try simp only [↓r_V, ↓r_C, ↓r_Op, ↓r_B, ↓r_Chain, ↓r_And, ↓r_Or, ↓r_Not, ↓r_AndV, ↓r_OrV, ↓r_NotV, ↓r_If, ↓r_Un, ↓r_Add, ↓r_I, ↓r_I0, ↓r_Mul, ↓r_Eq, ↓r_Is, ↓r_Nil, ↓r_Cons, ↓r_Tup, ↓r_N, ↓r_CatN, ↓r_RepN, ↓r_No, ↓r_So, ↓r_Sl, ↓r_One, ↓r_Len, ↓r_Int1, ↓r_Int, ↓r_Sum, ↓r_Max, ↓r_All, ↓r_Min2, ↓r_Isi, ↓r_Repr, ↓r_TupOf, ↓r_LstOf, ↓r_Rd, ↓r_Rn, ↓r_Nm, ↓r_Gnil, ↓r_Gcons, ↓r_Gtup, ↓r_Glst, ↓r_Next, ↓r_Seq, ↓r_Cut, ↓r_Never, ↓r_Brk, ↓r_Cnt, ↓r_Drop, ↓r_Ret, ↓r_RetN, ↓r_IfS, ↓r_Set, ↓r_Asg, ↓r_Aug, ↓r_App, ↓r_Par, ↓r_Par3, ↓r_SeqI, ↓r_Rg1, ↓r_Rg2, ↓r_EnT, ↓r_For, ↓r_While, ↓r_Yes, ↓r_Lc, ↓r_Call, ↓r_CallF, ↓r_EqA, ↓r_asD, ↓r_seqOf, ↓r_dataOf, ↓r_isOw, ↓r_Ix, ↓r_Sub, ixx_some, at_0, at_1, at_2, at_3, at_4, ix_40, ix_41, ix_42, ix_43, RV.sl, b2n, Pu.isNon, notRaw, endP, endF, endL, slots0, wipeE, wipeL, List.map_cons, List.map_nil, List.length_cons, List.length_nil, decide_eq_true_eq, decide_true, decide_false, List.cons_append, List.nil_append, List.append_nil, List.replicate_succ, List.replicate_zero, List.getElem?_cons_zero, List.getElem?_cons_succ, List.set_cons_zero, List.set_cons_succ, Option.isSome_some, ite_true, ite_false, Bool.false_eq_true, true_and, and_true, if_true, if_false, Nat.reduceSub, Nat.reduceAdd, Nat.reduceLT, Bool.not_true, Bool.not_false, reduceIte, eq_self, okC_int, okC_bl, okC_lnil, eqD_lnil, okC_tI, okC_lI, eqD_int, eqD_bl, eqD_tups, eqD_lsts, isTy_int_int, isTy_int_bool, isTy_int_tuple, isTy_tup_tuple, isTy_tup_int, isTy_str_str, isTy_bl_int, isTy_bl_bool, List.length_map, List.length_range, ↓r_Rg3, ↓r_St, ↓r_Dc, ↓r_Dg, ↓r_In, ↓r_IxN, ↓r_Ss, ↓r_IsB, ↓sd__law_draw]
        refine ⟨3, rfl, by omega, by omega, by omega, fun r r0 r1 => ?_⟩
        try simp only [↓r_V, ↓r_C, ↓r_Op, ↓r_B, ↓r_Chain, ↓r_And, ↓r_Or, ↓r_Not, ↓r_AndV, ↓r_OrV, ↓r_NotV, ↓r_If, ↓r_Un, ↓r_Add, ↓r_I, ↓r_I0, ↓r_Mul, ↓r_Eq, ↓r_Is, ↓r_Nil, ↓r_Cons, ↓r_Tup, ↓r_N, ↓r_CatN, ↓r_RepN, ↓r_No, ↓r_So, ↓r_Sl, ↓r_One, ↓r_Len, ↓r_Int1, ↓r_Int, ↓r_Sum, ↓r_Max, ↓r_All, ↓r_Min2, ↓r_Isi, ↓r_Repr, ↓r_TupOf, ↓r_LstOf, ↓r_Rd, ↓r_Rn, ↓r_Nm, ↓r_Gnil, ↓r_Gcons, ↓r_Gtup, ↓r_Glst, ↓r_Next, ↓r_Seq, ↓r_Cut, ↓r_Never, ↓r_Brk, ↓r_Cnt, ↓r_Drop, ↓r_Ret, ↓r_RetN, ↓r_IfS, ↓r_Set, ↓r_Asg, ↓r_Aug, ↓r_App, ↓r_Par, ↓r_Par3, ↓r_SeqI, ↓r_Rg1, ↓r_Rg2, ↓r_EnT, ↓r_For, ↓r_While, ↓r_Yes, ↓r_Lc, ↓r_Call, ↓r_CallF, ↓r_EqA, ↓r_asD, ↓r_seqOf, ↓r_dataOf, ↓r_isOw, ↓r_Ix, ↓r_Sub, ixx_some, at_0, at_1, at_2, at_3, at_4, ix_40, ix_41, ix_42, ix_43, RV.sl, b2n, Pu.isNon, notRaw, endP, endF, endL, slots0, wipeE, wipeL, List.map_cons, List.map_nil, List.length_cons, List.length_nil, decide_eq_true_eq, decide_true, decide_false, List.cons_append, List.nil_append, List.append_nil, List.replicate_succ, List.replicate_zero, List.getElem?_cons_zero, List.getElem?_cons_succ, List.set_cons_zero, List.set_cons_succ, Option.isSome_some, ite_true, ite_false, Bool.false_eq_true, true_and, and_true, if_true, if_false, Nat.reduceSub, Nat.reduceAdd, Nat.reduceLT, Bool.not_true, Bool.not_false, reduceIte, eq_self, okC_int, okC_bl, okC_lnil, eqD_lnil, okC_tI, okC_lI, eqD_int, eqD_bl, eqD_tups, eqD_lsts, isTy_int_int, isTy_int_bool, isTy_int_tuple, isTy_tup_tuple, isTy_tup_int, isTy_str_str, isTy_bl_int, isTy_bl_bool, List.length_map, List.length_range, ↓r_Rg3, ↓r_St, ↓r_Dc, ↓r_Dg, ↓r_In, ↓r_IxN, ↓r_Ss, ↓r_IsB, ↓sd__law_draw]
        exact h _ _ (by split <;> omega) (by omega)
      · try simp only [↓r_V, ↓r_C, ↓r_Op, ↓r_B, ↓r_Chain, ↓r_And, ↓r_Or, ↓r_Not, ↓r_AndV, ↓r_OrV, ↓r_NotV, ↓r_If, ↓r_Un, ↓r_Add, ↓r_I, ↓r_I0, ↓r_Mul, ↓r_Eq, ↓r_Is, ↓r_Nil, ↓r_Cons, ↓r_Tup, ↓r_N, ↓r_CatN, ↓r_RepN, ↓r_No, ↓r_So, ↓r_Sl, ↓r_One, ↓r_Len, ↓r_Int1, ↓r_Int, ↓r_Sum, ↓r_Max, ↓r_All, ↓r_Min2, ↓r_Isi, ↓r_Repr, ↓r_TupOf, ↓r_LstOf, ↓r_Rd, ↓r_Rn, ↓r_Nm, ↓r_Gnil, ↓r_Gcons, ↓r_Gtup, ↓r_Glst, ↓r_Next, ↓r_Seq, ↓r_Cut, ↓r_Never, ↓r_Brk, ↓r_Cnt, ↓r_Drop, ↓r_Ret, ↓r_RetN, ↓r_IfS, ↓r_Set, ↓r_Asg, ↓r_Aug, ↓r_App, ↓r_Par, ↓r_Par3, ↓r_SeqI, ↓r_Rg1, ↓r_Rg2, ↓r_EnT, ↓r_For, ↓r_While, ↓r_Yes, ↓r_Lc, ↓r_Call, ↓r_CallF, ↓r_EqA, ↓r_asD, ↓r_seqOf, ↓r_dataOf, ↓r_isOw, ↓r_Ix, ↓r_Sub, ixx_some, at_0, at_1, at_2, at_3, at_4, ix_40, ix_41, ix_42, ix_43, RV.sl, b2n, Pu.isNon, notRaw, endP, endF, endL, slots0, wipeE, wipeL, List.map_cons, List.map_nil, List.length_cons, List.length_nil, decide_eq_true_eq, decide_true, decide_false, List.cons_append, List.nil_append, List.append_nil, List.replicate_succ, List.replicate_zero, List.getElem?_cons_zero, List.getElem?_cons_succ, List.set_cons_zero, List.set_cons_succ, Option.isSome_some, ite_true, ite_false, Bool.false_eq_true, true_and, and_true, if_true, if_false, Nat.reduceSub, Nat.reduceAdd, Nat.reduceLT, Bool.not_true, Bool.not_false, reduceIte, eq_self, okC_int, okC_bl, okC_lnil, eqD_lnil, okC_tI, okC_lI, eqD_int, eqD_bl, eqD_tups, eqD_lsts, isTy_int_int, isTy_int_bool, isTy_int_tuple, isTy_tup_tuple, isTy_tup_int, isTy_str_str, isTy_bl_int, isTy_bl_bool, List.length_map, List.length_range, ↓r_Rg3, ↓r_St, ↓r_Dc, ↓r_Dg, ↓r_In, ↓r_IxN, ↓r_Ss, ↓r_IsB, ↓sd__law_draw]
        refine ⟨⟨by omega, by omega⟩, lc_of (fun i => per ns i) (by omega) (fun j hj Inv i acc h => ?_) ?_⟩
        · try simp only [↓r_V, ↓r_C, ↓r_Op, ↓r_B, ↓r_Chain, ↓r_And, ↓r_Or, ↓r_Not, ↓r_AndV, ↓r_OrV, ↓r_NotV, ↓r_If, ↓r_Un, ↓r_Add, ↓r_I, ↓r_I0, ↓r_Mul, ↓r_Eq, ↓r_Is, ↓r_Nil, ↓r_Cons, ↓r_Tup, ↓r_N, ↓r_CatN, ↓r_RepN, ↓r_No, ↓r_So, ↓r_Sl, ↓r_One, ↓r_Len, ↓r_Int1, ↓r_Int, ↓r_Sum, ↓r_Max, ↓r_All, ↓r_Min2, ↓r_Isi, ↓r_Repr, ↓r_TupOf, ↓r_LstOf, ↓r_Rd, ↓r_Rn, ↓r_Nm, ↓r_Gnil, ↓r_Gcons, ↓r_Gtup, ↓r_Glst, ↓r_Next, ↓r_Seq, ↓r_Cut, ↓r_Never, ↓r_Brk, ↓r_Cnt, ↓r_Drop, ↓r_Ret, ↓r_RetN, ↓r_IfS, ↓r_Set, ↓r_Asg, ↓r_Aug, ↓r_App, ↓r_Par, ↓r_Par3, ↓r_SeqI, ↓r_Rg1, ↓r_Rg2, ↓r_EnT, ↓r_For, ↓r_While, ↓r_Yes, ↓r_Lc, ↓r_Call, ↓r_CallF, ↓r_EqA, ↓r_asD, ↓r_seqOf, ↓r_dataOf, ↓r_isOw, ↓r_Ix, ↓r_Sub, ixx_some, at_0, at_1, at_2, at_3, at_4, ix_40, ix_41, ix_42, ix_43, RV.sl, b2n, Pu.isNon, notRaw, endP, endF, endL, slots0, wipeE, wipeL, List.map_cons, List.map_nil, List.length_cons, List.length_nil, decide_eq_true_eq, decide_true, decide_false, List.cons_append, List.nil_append, List.append_nil, List.replicate_succ, List.replicate_zero, List.getElem?_cons_zero, List.getElem?_cons_succ, List.set_cons_zero, List.set_cons_succ, Option.isSome_some, ite_true, ite_false, Bool.false_eq_true, true_and, and_true, if_true, if_false, Nat.reduceSub, Nat.reduceAdd, Nat.reduceLT, Bool.not_true, Bool.not_false, reduceIte, eq_self, okC_int, okC_bl, okC_lnil, eqD_lnil, okC_tI, okC_lI, eqD_int, eqD_bl, eqD_tups, eqD_lsts, isTy_int_int, isTy_int_bool, isTy_int_tuple, isTy_tup_tuple, isTy_tup_int, isTy_str_str, isTy_bl_int, isTy_bl_bool, List.length_map, List.length_range, ↓r_Rg3, ↓r_St, ↓r_Dc, ↓r_Dg, ↓r_In, ↓r_IxN, ↓r_Ss, ↓r_IsB, ↓sd__law_draw]
          refine ⟨by omega, _, atI_per (Int.emod_nonneg _ (by omega)) (by rw [hl]; exact Int.emod_lt_of_pos _ (by omega)), ?_⟩
          rw [← hl, (per_per ns).mod (by omega), hl]
          exact h
        · try simp only [↓r_V, ↓r_C, ↓r_Op, ↓r_B, ↓r_Chain, ↓r_And, ↓r_Or, ↓r_Not, ↓r_AndV, ↓r_OrV, ↓r_NotV, ↓r_If, ↓r_Un, ↓r_Add, ↓r_I, ↓r_I0, ↓r_Mul, ↓r_Eq, ↓r_Is, ↓r_Nil, ↓r_Cons, ↓r_Tup, ↓r_N, ↓r_CatN, ↓r_RepN, ↓r_No, ↓r_So, ↓r_Sl, ↓r_One, ↓r_Len, ↓r_Int1, ↓r_Int, ↓r_Sum, ↓r_Max, ↓r_All, ↓r_Min2, ↓r_Isi, ↓r_Repr, ↓r_TupOf, ↓r_LstOf, ↓r_Rd, ↓r_Rn, ↓r_Nm, ↓r_Gnil, ↓r_Gcons, ↓r_Gtup, ↓r_Glst, ↓r_Next, ↓r_Seq, ↓r_Cut, ↓r_Never, ↓r_Brk, ↓r_Cnt, ↓r_Drop, ↓r_Ret, ↓r_RetN, ↓r_IfS, ↓r_Set, ↓r_Asg, ↓r_Aug, ↓r_App, ↓r_Par, ↓r_Par3, ↓r_SeqI, ↓r_Rg1, ↓r_Rg2, ↓r_EnT, ↓r_For, ↓r_While, ↓r_Yes, ↓r_Lc, ↓r_Call, ↓r_CallF, ↓r_EqA, ↓r_asD, ↓r_seqOf, ↓r_dataOf, ↓r_isOw, ↓r_Ix, ↓r_Sub, ixx_some, at_0, at_1, at_2, at_3, at_4, ix_40, ix_41, ix_42, ix_43, RV.sl, b2n, Pu.isNon, notRaw, endP, endF, endL, slots0, wipeE, wipeL, List.map_cons, List.map_nil, List.length_cons, List.length_nil, decide_eq_true_eq, decide_true, decide_false, List.cons_append, List.nil_append, List.append_nil, List.replicate_succ, List.replicate_zero, List.getElem?_cons_zero, List.getElem?_cons_succ, List.set_cons_zero, List.set_cons_succ, Option.isSome_some, ite_true, ite_false, Bool.false_eq_true, true_and, and_true, if_true, if_false, Nat.reduceSub, Nat.reduceAdd, Nat.reduceLT, Bool.not_true, Bool.not_false, reduceIte, eq_self, okC_int, okC_bl, okC_lnil, eqD_lnil, okC_tI, okC_lI, eqD_int, eqD_bl, eqD_tups, eqD_lsts, isTy_int_int, isTy_int_bool, isTy_int_tuple, isTy_tup_tuple, isTy_tup_int, isTy_str_str, isTy_bl_int, isTy_bl_bool, List.length_map, List.length_range, ↓r_Rg3, ↓r_St, ↓r_Dc, ↓r_Dg, ↓r_In, ↓r_IxN, ↓r_Ss, ↓r_IsB, ↓sd__law_draw]
          refine h _ _ (of_len _ _) (bq_of fun i => bq_per (fun x hx => ?_) i) (by omega)
          have := hp x hx
          omega
def sd__law_kin : SpD := fun ds k => ∃ xs : List Int, ds = [tI xs] ∧ 0 < xs.length ∧ xs.length ≤ 30 ∧ Bd 6 xs ∧ ∀ out, IsKin xs out → k (.lst (out.map fun r => (tI r : Pu.D)))
theorem c__law_kin (D : At K mg "_law_kin" s__law_kin ["_law_voice_here"]) (c__law_mirror : CalG P w K mg base 1 "_law_mirror" ["_law_voice_here"] (spP K 1 sd__law_mirror)) (c__law_turn : CalG P w K mg base 1 "_law_turn" ["_law_voice_here", "_law_k"] (spP K 2 sd__law_turn)) (z_len : mg "len" = none) (z_range : mg "range" = none) (z_set : mg "set" = none) (z_sorted : mg "sorted" = none) : CalG P w K mg base 2 "_law_kin" ["_law_voice_here"] (spP K 1 sd__law_kin) := by
  have nd := sc__law_kin.nd
  apply okP (F := Fd0) D sc__law_kin (by decide)
  case body =>
    intro f cdv A outer s H E hr hG
    have hu64 := hr.units
    exact (qss_cons (qs_set (i := 1) nd rfl (.inr rfl) (qr_d (q_call c__law_mirror hr hG (by decide) (by rfl) (qa_cons (qv 0) qa_nil) rfl)))
 (qss_cons (qs_setLc (i := 2) (own := [("_law_k", 3)]) rfl nd rfl rfl (sw_true rfl rfl rfl (by decide +kernel)) (qi_rg1 (by rfl) z_range (q_b1 (fun p => pe_callB call_len (by rfl) z_len PySem.boot_len (pa_cons p pa_nil)) l_len (qv 0))) (blkOk_by (N := N__law_kin) (sc := defScope s__law_kin) (by decide +kernel)) (fun _ _ _ _ _ => (qg_name (i := 3) nd rfl (Or.inl rfl))) (fun _ _ _ _ _ => qts_nil) (fun _ _ _ _ _ => (q_call c__law_turn hr hG (by decide) (by rfl) (qa_cons (qv 0) (qa_cons (qv 3) qa_nil)) rfl)))
 (qss_one (qs_ret (q_n (qn_ss hu64 (fun p => pe_callB (cr_sortedR rfl) (by rfl) z_sorted (by decide +kernel) (pa_cons (pe_callTy (cr_setOfT rfl hu64) (by rfl) z_set (by decide +kernel) (pa_cons p pa_nil)) pa_nil)) (q_n (qn_cat (qv 2) (q_n (qn_lc (own := [("_law_k", 3)]) rfl nd (qi_rg1 (by rfl) z_range (q_b1 (fun p => pe_callB call_len (by rfl) z_len PySem.boot_len (pa_cons p pa_nil)) l_len (qv 0))) (blkOk_by (N := N__law_kin) (sc := defScope s__law_kin) (by decide +kernel)) (fun _ _ _ _ _ => (qg_name (i := 3) nd rfl (Or.inl rfl))) (fun _ _ _ _ _ => qts_nil) (fun _ _ _ _ _ => (q_call c__law_turn hr hG (by decide) (by rfl) (qa_cons (qv 1) (qa_cons (qv 3) qa_nil)) rfl))))))))))))
  case go =>
    intro ds k hl h
    obtain ⟨xs, rfl, h0, hn, bx, h⟩ := h
    have lm := mir_len xs
    try simp only [↓r_V, ↓r_C, ↓r_Op, ↓r_B, ↓r_Chain, ↓r_And, ↓r_Or, ↓r_Not, ↓r_AndV, ↓r_OrV, ↓r_NotV, ↓r_If, ↓r_Un, ↓r_Add, ↓r_I, ↓r_I0, ↓r_Mul, ↓r_Eq, ↓r_Is, ↓r_Nil, ↓r_Cons, ↓r_Tup, ↓r_N, ↓r_CatN, ↓r_RepN, ↓r_No, ↓r_So, ↓r_Sl, ↓r_One, ↓r_Len, ↓r_Int1, ↓r_Int, ↓r_Sum, ↓r_Max, ↓r_All, ↓r_Min2, ↓r_Isi, ↓r_Repr, ↓r_TupOf, ↓r_LstOf, ↓r_Rd, ↓r_Rn, ↓r_Nm, ↓r_Gnil, ↓r_Gcons, ↓r_Gtup, ↓r_Glst, ↓r_Next, ↓r_Seq, ↓r_Cut, ↓r_Never, ↓r_Brk, ↓r_Cnt, ↓r_Drop, ↓r_Ret, ↓r_RetN, ↓r_IfS, ↓r_Set, ↓r_Asg, ↓r_Aug, ↓r_App, ↓r_Par, ↓r_Par3, ↓r_SeqI, ↓r_Rg1, ↓r_Rg2, ↓r_EnT, ↓r_For, ↓r_While, ↓r_Yes, ↓r_Lc, ↓r_Call, ↓r_CallF, ↓r_EqA, ↓r_asD, ↓r_seqOf, ↓r_dataOf, ↓r_isOw, ↓r_Ix, ↓r_Sub, ixx_some, at_0, at_1, at_2, at_3, at_4, ix_40, ix_41, ix_42, ix_43, RV.sl, b2n, Pu.isNon, notRaw, endP, endF, endL, slots0, wipeE, wipeL, List.map_cons, List.map_nil, List.length_cons, List.length_nil, decide_eq_true_eq, decide_true, decide_false, List.cons_append, List.nil_append, List.append_nil, List.replicate_succ, List.replicate_zero, List.getElem?_cons_zero, List.getElem?_cons_succ, List.set_cons_zero, List.set_cons_succ, Option.isSome_some, ite_true, ite_false, Bool.false_eq_true, true_and, and_true, if_true, if_false, Nat.reduceSub, Nat.reduceAdd, Nat.reduceLT, Bool.not_true, Bool.not_false, reduceIte, eq_self, okC_int, okC_bl, okC_lnil, eqD_lnil, okC_tI, okC_lI, eqD_int, eqD_bl, eqD_tups, eqD_lsts, isTy_int_int, isTy_int_bool, isTy_int_tuple, isTy_tup_tuple, isTy_tup_int, isTy_str_str, isTy_bl_int, isTy_bl_bool, List.length_map, List.length_range, ↓r_Rg3, ↓r_St, ↓r_Dc, ↓r_Dg, ↓r_In, ↓r_IxN, ↓r_Ss, ↓r_IsB, ↓sd__law_mirror, ↓sd__law_turn]
    refine ⟨xs, rfl, h0, by omega, ?_⟩
    try simp only [↓r_V, ↓r_C, ↓r_Op, ↓r_B, ↓r_Chain, ↓r_And, ↓r_Or, ↓r_Not, ↓r_AndV, ↓r_OrV, ↓r_NotV, ↓r_If, ↓r_Un, ↓r_Add, ↓r_I, ↓r_I0, ↓r_Mul, ↓r_Eq, ↓r_Is, ↓r_Nil, ↓r_Cons, ↓r_Tup, ↓r_N, ↓r_CatN, ↓r_RepN, ↓r_No, ↓r_So, ↓r_Sl, ↓r_One, ↓r_Len, ↓r_Int1, ↓r_Int, ↓r_Sum, ↓r_Max, ↓r_All, ↓r_Min2, ↓r_Isi, ↓r_Repr, ↓r_TupOf, ↓r_LstOf, ↓r_Rd, ↓r_Rn, ↓r_Nm, ↓r_Gnil, ↓r_Gcons, ↓r_Gtup, ↓r_Glst, ↓r_Next, ↓r_Seq, ↓r_Cut, ↓r_Never, ↓r_Brk, ↓r_Cnt, ↓r_Drop, ↓r_Ret, ↓r_RetN, ↓r_IfS, ↓r_Set, ↓r_Asg, ↓r_Aug, ↓r_App, ↓r_Par, ↓r_Par3, ↓r_SeqI, ↓r_Rg1, ↓r_Rg2, ↓r_EnT, ↓r_For, ↓r_While, ↓r_Yes, ↓r_Lc, ↓r_Call, ↓r_CallF, ↓r_EqA, ↓r_asD, ↓r_seqOf, ↓r_dataOf, ↓r_isOw, ↓r_Ix, ↓r_Sub, ixx_some, at_0, at_1, at_2, at_3, at_4, ix_40, ix_41, ix_42, ix_43, RV.sl, b2n, Pu.isNon, notRaw, endP, endF, endL, slots0, wipeE, wipeL, List.map_cons, List.map_nil, List.length_cons, List.length_nil, decide_eq_true_eq, decide_true, decide_false, List.cons_append, List.nil_append, List.append_nil, List.replicate_succ, List.replicate_zero, List.getElem?_cons_zero, List.getElem?_cons_succ, List.set_cons_zero, List.set_cons_succ, Option.isSome_some, ite_true, ite_false, Bool.false_eq_true, true_and, and_true, if_true, if_false, Nat.reduceSub, Nat.reduceAdd, Nat.reduceLT, Bool.not_true, Bool.not_false, reduceIte, eq_self, okC_int, okC_bl, okC_lnil, eqD_lnil, okC_tI, okC_lI, eqD_int, eqD_bl, eqD_tups, eqD_lsts, isTy_int_int, isTy_int_bool, isTy_int_tuple, isTy_tup_tuple, isTy_tup_int, isTy_str_str, isTy_bl_int, isTy_bl_bool, List.length_map, List.length_range, ↓r_Rg3, ↓r_St, ↓r_Dc, ↓r_Dg, ↓r_In, ↓r_IxN, ↓r_Ss, ↓r_IsB, ↓sd__law_mirror, ↓sd__law_turn]
    refine ⟨⟨by omega, by omega⟩, lc_xs (fun j : Nat => tI (turnV xs j)) (by rw [List.length_range]; omega) (fun j hj Inv i acc h => ?_) ?_⟩
    · try simp only [↓r_V, ↓r_C, ↓r_Op, ↓r_B, ↓r_Chain, ↓r_And, ↓r_Or, ↓r_Not, ↓r_AndV, ↓r_OrV, ↓r_NotV, ↓r_If, ↓r_Un, ↓r_Add, ↓r_I, ↓r_I0, ↓r_Mul, ↓r_Eq, ↓r_Is, ↓r_Nil, ↓r_Cons, ↓r_Tup, ↓r_N, ↓r_CatN, ↓r_RepN, ↓r_No, ↓r_So, ↓r_Sl, ↓r_One, ↓r_Len, ↓r_Int1, ↓r_Int, ↓r_Sum, ↓r_Max, ↓r_All, ↓r_Min2, ↓r_Isi, ↓r_Repr, ↓r_TupOf, ↓r_LstOf, ↓r_Rd, ↓r_Rn, ↓r_Nm, ↓r_Gnil, ↓r_Gcons, ↓r_Gtup, ↓r_Glst, ↓r_Next, ↓r_Seq, ↓r_Cut, ↓r_Never, ↓r_Brk, ↓r_Cnt, ↓r_Drop, ↓r_Ret, ↓r_RetN, ↓r_IfS, ↓r_Set, ↓r_Asg, ↓r_Aug, ↓r_App, ↓r_Par, ↓r_Par3, ↓r_SeqI, ↓r_Rg1, ↓r_Rg2, ↓r_EnT, ↓r_For, ↓r_While, ↓r_Yes, ↓r_Lc, ↓r_Call, ↓r_CallF, ↓r_EqA, ↓r_asD, ↓r_seqOf, ↓r_dataOf, ↓r_isOw, ↓r_Ix, ↓r_Sub, ixx_some, at_0, at_1, at_2, at_3, at_4, ix_40, ix_41, ix_42, ix_43, RV.sl, b2n, Pu.isNon, notRaw, endP, endF, endL, slots0, wipeE, wipeL, List.map_cons, List.map_nil, List.length_cons, List.length_nil, decide_eq_true_eq, decide_true, decide_false, List.cons_append, List.nil_append, List.append_nil, List.replicate_succ, List.replicate_zero, List.getElem?_cons_zero, List.getElem?_cons_succ, List.set_cons_zero, List.set_cons_succ, Option.isSome_some, ite_true, ite_false, Bool.false_eq_true, true_and, and_true, if_true, if_false, Nat.reduceSub, Nat.reduceAdd, Nat.reduceLT, Bool.not_true, Bool.not_false, reduceIte, eq_self, okC_int, okC_bl, okC_lnil, eqD_lnil, okC_tI, okC_lI, eqD_int, eqD_bl, eqD_tups, eqD_lsts, isTy_int_int, isTy_int_bool, isTy_int_tuple, isTy_tup_tuple, isTy_tup_int, isTy_str_str, isTy_bl_int, isTy_bl_bool, List.length_map, List.length_range, ↓r_Rg3, ↓r_St, ↓r_Dc, ↓r_Dg, ↓r_In, ↓r_IxN, ↓r_Ss, ↓r_IsB, ↓sd__law_mirror, ↓sd__law_turn]
      exact ⟨xs, j, rfl, h0, by omega, h⟩
    try simp only [↓r_V, ↓r_C, ↓r_Op, ↓r_B, ↓r_Chain, ↓r_And, ↓r_Or, ↓r_Not, ↓r_AndV, ↓r_OrV, ↓r_NotV, ↓r_If, ↓r_Un, ↓r_Add, ↓r_I, ↓r_I0, ↓r_Mul, ↓r_Eq, ↓r_Is, ↓r_Nil, ↓r_Cons, ↓r_Tup, ↓r_N, ↓r_CatN, ↓r_RepN, ↓r_No, ↓r_So, ↓r_Sl, ↓r_One, ↓r_Len, ↓r_Int1, ↓r_Int, ↓r_Sum, ↓r_Max, ↓r_All, ↓r_Min2, ↓r_Isi, ↓r_Repr, ↓r_TupOf, ↓r_LstOf, ↓r_Rd, ↓r_Rn, ↓r_Nm, ↓r_Gnil, ↓r_Gcons, ↓r_Gtup, ↓r_Glst, ↓r_Next, ↓r_Seq, ↓r_Cut, ↓r_Never, ↓r_Brk, ↓r_Cnt, ↓r_Drop, ↓r_Ret, ↓r_RetN, ↓r_IfS, ↓r_Set, ↓r_Asg, ↓r_Aug, ↓r_App, ↓r_Par, ↓r_Par3, ↓r_SeqI, ↓r_Rg1, ↓r_Rg2, ↓r_EnT, ↓r_For, ↓r_While, ↓r_Yes, ↓r_Lc, ↓r_Call, ↓r_CallF, ↓r_EqA, ↓r_asD, ↓r_seqOf, ↓r_dataOf, ↓r_isOw, ↓r_Ix, ↓r_Sub, ixx_some, at_0, at_1, at_2, at_3, at_4, ix_40, ix_41, ix_42, ix_43, RV.sl, b2n, Pu.isNon, notRaw, endP, endF, endL, slots0, wipeE, wipeL, List.map_cons, List.map_nil, List.length_cons, List.length_nil, decide_eq_true_eq, decide_true, decide_false, List.cons_append, List.nil_append, List.append_nil, List.replicate_succ, List.replicate_zero, List.getElem?_cons_zero, List.getElem?_cons_succ, List.set_cons_zero, List.set_cons_succ, Option.isSome_some, ite_true, ite_false, Bool.false_eq_true, true_and, and_true, if_true, if_false, Nat.reduceSub, Nat.reduceAdd, Nat.reduceLT, Bool.not_true, Bool.not_false, reduceIte, eq_self, okC_int, okC_bl, okC_lnil, eqD_lnil, okC_tI, okC_lI, eqD_int, eqD_bl, eqD_tups, eqD_lsts, isTy_int_int, isTy_int_bool, isTy_int_tuple, isTy_tup_tuple, isTy_tup_int, isTy_str_str, isTy_bl_int, isTy_bl_bool, List.length_map, List.length_range, ↓r_Rg3, ↓r_St, ↓r_Dc, ↓r_Dg, ↓r_In, ↓r_IxN, ↓r_Ss, ↓r_IsB, ↓sd__law_mirror, ↓sd__law_turn]
    refine ⟨⟨by omega, by omega⟩, lc_xs (fun j : Nat => tI (turnV (mir xs) j)) (by rw [List.length_range]; omega) (fun j hj Inv i acc h => ?_) ?_⟩
    · try simp only [↓r_V, ↓r_C, ↓r_Op, ↓r_B, ↓r_Chain, ↓r_And, ↓r_Or, ↓r_Not, ↓r_AndV, ↓r_OrV, ↓r_NotV, ↓r_If, ↓r_Un, ↓r_Add, ↓r_I, ↓r_I0, ↓r_Mul, ↓r_Eq, ↓r_Is, ↓r_Nil, ↓r_Cons, ↓r_Tup, ↓r_N, ↓r_CatN, ↓r_RepN, ↓r_No, ↓r_So, ↓r_Sl, ↓r_One, ↓r_Len, ↓r_Int1, ↓r_Int, ↓r_Sum, ↓r_Max, ↓r_All, ↓r_Min2, ↓r_Isi, ↓r_Repr, ↓r_TupOf, ↓r_LstOf, ↓r_Rd, ↓r_Rn, ↓r_Nm, ↓r_Gnil, ↓r_Gcons, ↓r_Gtup, ↓r_Glst, ↓r_Next, ↓r_Seq, ↓r_Cut, ↓r_Never, ↓r_Brk, ↓r_Cnt, ↓r_Drop, ↓r_Ret, ↓r_RetN, ↓r_IfS, ↓r_Set, ↓r_Asg, ↓r_Aug, ↓r_App, ↓r_Par, ↓r_Par3, ↓r_SeqI, ↓r_Rg1, ↓r_Rg2, ↓r_EnT, ↓r_For, ↓r_While, ↓r_Yes, ↓r_Lc, ↓r_Call, ↓r_CallF, ↓r_EqA, ↓r_asD, ↓r_seqOf, ↓r_dataOf, ↓r_isOw, ↓r_Ix, ↓r_Sub, ixx_some, at_0, at_1, at_2, at_3, at_4, ix_40, ix_41, ix_42, ix_43, RV.sl, b2n, Pu.isNon, notRaw, endP, endF, endL, slots0, wipeE, wipeL, List.map_cons, List.map_nil, List.length_cons, List.length_nil, decide_eq_true_eq, decide_true, decide_false, List.cons_append, List.nil_append, List.append_nil, List.replicate_succ, List.replicate_zero, List.getElem?_cons_zero, List.getElem?_cons_succ, List.set_cons_zero, List.set_cons_succ, Option.isSome_some, ite_true, ite_false, Bool.false_eq_true, true_and, and_true, if_true, if_false, Nat.reduceSub, Nat.reduceAdd, Nat.reduceLT, Bool.not_true, Bool.not_false, reduceIte, eq_self, okC_int, okC_bl, okC_lnil, eqD_lnil, okC_tI, okC_lI, eqD_int, eqD_bl, eqD_tups, eqD_lsts, isTy_int_int, isTy_int_bool, isTy_int_tuple, isTy_tup_tuple, isTy_tup_int, isTy_str_str, isTy_bl_int, isTy_bl_bool, List.length_map, List.length_range, ↓r_Rg3, ↓r_St, ↓r_Dc, ↓r_Dg, ↓r_In, ↓r_IxN, ↓r_Ss, ↓r_IsB, ↓sd__law_mirror, ↓sd__law_turn]
      exact ⟨mir xs, j, rfl, by omega, by omega, h⟩
    rw [turns_map, show ((List.range (xs.length : Int).toNat).map fun k : Nat => (tI (turnV (mir xs) k) : Pu.D)) = (turnsL (mir xs)).map fun r => (tI r : Pu.D) from by rw [← turns_map, mir_len]]
    try simp only [↓r_V, ↓r_C, ↓r_Op, ↓r_B, ↓r_Chain, ↓r_And, ↓r_Or, ↓r_Not, ↓r_AndV, ↓r_OrV, ↓r_NotV, ↓r_If, ↓r_Un, ↓r_Add, ↓r_I, ↓r_I0, ↓r_Mul, ↓r_Eq, ↓r_Is, ↓r_Nil, ↓r_Cons, ↓r_Tup, ↓r_N, ↓r_CatN, ↓r_RepN, ↓r_No, ↓r_So, ↓r_Sl, ↓r_One, ↓r_Len, ↓r_Int1, ↓r_Int, ↓r_Sum, ↓r_Max, ↓r_All, ↓r_Min2, ↓r_Isi, ↓r_Repr, ↓r_TupOf, ↓r_LstOf, ↓r_Rd, ↓r_Rn, ↓r_Nm, ↓r_Gnil, ↓r_Gcons, ↓r_Gtup, ↓r_Glst, ↓r_Next, ↓r_Seq, ↓r_Cut, ↓r_Never, ↓r_Brk, ↓r_Cnt, ↓r_Drop, ↓r_Ret, ↓r_RetN, ↓r_IfS, ↓r_Set, ↓r_Asg, ↓r_Aug, ↓r_App, ↓r_Par, ↓r_Par3, ↓r_SeqI, ↓r_Rg1, ↓r_Rg2, ↓r_EnT, ↓r_For, ↓r_While, ↓r_Yes, ↓r_Lc, ↓r_Call, ↓r_CallF, ↓r_EqA, ↓r_asD, ↓r_seqOf, ↓r_dataOf, ↓r_isOw, ↓r_Ix, ↓r_Sub, ixx_some, at_0, at_1, at_2, at_3, at_4, ix_40, ix_41, ix_42, ix_43, RV.sl, b2n, Pu.isNon, notRaw, endP, endF, endL, slots0, wipeE, wipeL, List.map_cons, List.map_nil, List.length_cons, List.length_nil, decide_eq_true_eq, decide_true, decide_false, List.cons_append, List.nil_append, List.append_nil, List.replicate_succ, List.replicate_zero, List.getElem?_cons_zero, List.getElem?_cons_succ, List.set_cons_zero, List.set_cons_succ, Option.isSome_some, ite_true, ite_false, Bool.false_eq_true, true_and, and_true, if_true, if_false, Nat.reduceSub, Nat.reduceAdd, Nat.reduceLT, Bool.not_true, Bool.not_false, reduceIte, eq_self, okC_int, okC_bl, okC_lnil, eqD_lnil, okC_tI, okC_lI, eqD_int, eqD_bl, eqD_tups, eqD_lsts, isTy_int_int, isTy_int_bool, isTy_int_tuple, isTy_tup_tuple, isTy_tup_int, isTy_str_str, isTy_bl_int, isTy_bl_bool, List.length_map, List.length_range, ↓r_Rg3, ↓r_St, ↓r_Dc, ↓r_Dg, ↓r_In, ↓r_IxN, ↓r_Ss, ↓r_IsB, ↓sd__law_mirror, ↓sd__law_turn]
    have e : ((turnsL xs).map fun r => (tI r : Pu.D)) ++ ((turnsL (mir xs)).map fun r => (tI r : Pu.D)) = (kinL xs).map fun r => (tI r : Pu.D) := by
      unfold kinL
      rw [List.map_append]
    rw [e]
    refine ⟨by rw [turns_len, turns_len]; omega, kinL xs, xs.length, 64, 128, ⟨rfl, ?_, h0, fun ns hns => ⟨kin_len h0 hns, dg_of (bd_kin h0 bx hns)⟩⟩, fun out nd mem sr => ?_⟩
    · unfold kinL
      rw [List.length_append, turns_len, turns_len]
      omega
    · try simp only [↓r_V, ↓r_C, ↓r_Op, ↓r_B, ↓r_Chain, ↓r_And, ↓r_Or, ↓r_Not, ↓r_AndV, ↓r_OrV, ↓r_NotV, ↓r_If, ↓r_Un, ↓r_Add, ↓r_I, ↓r_I0, ↓r_Mul, ↓r_Eq, ↓r_Is, ↓r_Nil, ↓r_Cons, ↓r_Tup, ↓r_N, ↓r_CatN, ↓r_RepN, ↓r_No, ↓r_So, ↓r_Sl, ↓r_One, ↓r_Len, ↓r_Int1, ↓r_Int, ↓r_Sum, ↓r_Max, ↓r_All, ↓r_Min2, ↓r_Isi, ↓r_Repr, ↓r_TupOf, ↓r_LstOf, ↓r_Rd, ↓r_Rn, ↓r_Nm, ↓r_Gnil, ↓r_Gcons, ↓r_Gtup, ↓r_Glst, ↓r_Next, ↓r_Seq, ↓r_Cut, ↓r_Never, ↓r_Brk, ↓r_Cnt, ↓r_Drop, ↓r_Ret, ↓r_RetN, ↓r_IfS, ↓r_Set, ↓r_Asg, ↓r_Aug, ↓r_App, ↓r_Par, ↓r_Par3, ↓r_SeqI, ↓r_Rg1, ↓r_Rg2, ↓r_EnT, ↓r_For, ↓r_While, ↓r_Yes, ↓r_Lc, ↓r_Call, ↓r_CallF, ↓r_EqA, ↓r_asD, ↓r_seqOf, ↓r_dataOf, ↓r_isOw, ↓r_Ix, ↓r_Sub, ixx_some, at_0, at_1, at_2, at_3, at_4, ix_40, ix_41, ix_42, ix_43, RV.sl, b2n, Pu.isNon, notRaw, endP, endF, endL, slots0, wipeE, wipeL, List.map_cons, List.map_nil, List.length_cons, List.length_nil, decide_eq_true_eq, decide_true, decide_false, List.cons_append, List.nil_append, List.append_nil, List.replicate_succ, List.replicate_zero, List.getElem?_cons_zero, List.getElem?_cons_succ, List.set_cons_zero, List.set_cons_succ, Option.isSome_some, ite_true, ite_false, Bool.false_eq_true, true_and, and_true, if_true, if_false, Nat.reduceSub, Nat.reduceAdd, Nat.reduceLT, Bool.not_true, Bool.not_false, reduceIte, eq_self, okC_int, okC_bl, okC_lnil, eqD_lnil, okC_tI, okC_lI, eqD_int, eqD_bl, eqD_tups, eqD_lsts, isTy_int_int, isTy_int_bool, isTy_int_tuple, isTy_tup_tuple, isTy_tup_int, isTy_str_str, isTy_bl_int, isTy_bl_bool, List.length_map, List.length_range, ↓r_Rg3, ↓r_St, ↓r_Dc, ↓r_Dg, ↓r_In, ↓r_IxN, ↓r_Ss, ↓r_IsB, ↓sd__law_mirror, ↓sd__law_turn]
      exact h out ⟨nd, mem, sr⟩
def sd__law_step : SpD := fun ds k => ∃ xs ys : List Int, ds = [tI xs, tI ys] ∧ ys.length = xs.length ∧ 0 < xs.length ∧ xs.length ≤ 30 ∧ k (stp xs ys)
theorem c__law_step (D : At K mg "_law_step" s__law_step ["_law_one", "_law_other"]) (c__law_mirror : CalG P w K mg base 1 "_law_mirror" ["_law_voice_here"] (spP K 1 sd__law_mirror)) (c__law_turn : CalG P w K mg base 1 "_law_turn" ["_law_voice_here", "_law_k"] (spP K 2 sd__law_turn)) (z_len : mg "len" = none) (z_range : mg "range" = none) : CalG P w K mg base 2 "_law_step" ["_law_one", "_law_other"] (spP K 2 sd__law_step) := by
  have nd := sc__law_step.nd
  apply okP (F := Fd0) D sc__law_step (by decide)
  case body =>
    intro f cdv A outer s H E hr hG
    have hu64 := hr.units
    exact (qss_cons (qs_set (i := 2) nd rfl (.inl rfl) (qr_d (q_call c__law_mirror hr hG (by decide) (by rfl) (qa_cons (qv 0) qa_nil) rfl)))
 (qss_cons (qs_for PassesOwn.never rfl (qi_rg1 (by rfl) z_range (q_b1 (fun p => pe_callB call_len (by rfl) z_len PySem.boot_len (pa_cons p pa_nil)) l_len (qv 0))) (qg_name (i := 3) nd rfl (.inl rfl))
 (qss_one (qs_if (qt_cmp (op_eqA hu64) l_eqA (q_call c__law_turn hr hG (by decide) (by rfl) (qa_cons (qv 0) (qa_cons (qv 3) qa_nil)) rfl) (qv 1) (nomark _))
 (qss_one (qs_ret (q_tup (qa_cons q_str (qa_cons (qv 3) qa_nil)))))
 qss_nil)))
 (qss_cons (qs_for PassesOwn.never rfl (qi_rg1 (by rfl) z_range (q_b1 (fun p => pe_callB call_len (by rfl) z_len PySem.boot_len (pa_cons p pa_nil)) l_len (qv 0))) (qg_name (i := 3) nd rfl (.inl rfl))
 (qss_one (qs_if (qt_cmp (op_eqA hu64) l_eqA (q_call c__law_turn hr hG (by decide) (by rfl) (qa_cons (qv 2) (qa_cons (qv 3) qa_nil)) rfl) (qv 1) (nomark _))
 (qss_one (qs_ret (q_tup (qa_cons q_str (qa_cons (qv 3) qa_nil)))))
 qss_nil)))
 (qss_one (qs_ret q_non)))))
  case go =>
    intro ds k hl h
    obtain ⟨xs, ys, rfl, hxy, h0, hn, h⟩ := h
    have lm := mir_len xs
    try simp only [↓r_V, ↓r_C, ↓r_Op, ↓r_B, ↓r_Chain, ↓r_And, ↓r_Or, ↓r_Not, ↓r_AndV, ↓r_OrV, ↓r_NotV, ↓r_If, ↓r_Un, ↓r_Add, ↓r_I, ↓r_I0, ↓r_Mul, ↓r_Eq, ↓r_Is, ↓r_Nil, ↓r_Cons, ↓r_Tup, ↓r_N, ↓r_CatN, ↓r_RepN, ↓r_No, ↓r_So, ↓r_Sl, ↓r_One, ↓r_Len, ↓r_Int1, ↓r_Int, ↓r_Sum, ↓r_Max, ↓r_All, ↓r_Min2, ↓r_Isi, ↓r_Repr, ↓r_TupOf, ↓r_LstOf, ↓r_Rd, ↓r_Rn, ↓r_Nm, ↓r_Gnil, ↓r_Gcons, ↓r_Gtup, ↓r_Glst, ↓r_Next, ↓r_Seq, ↓r_Cut, ↓r_Never, ↓r_Brk, ↓r_Cnt, ↓r_Drop, ↓r_Ret, ↓r_RetN, ↓r_IfS, ↓r_Set, ↓r_Asg, ↓r_Aug, ↓r_App, ↓r_Par, ↓r_Par3, ↓r_SeqI, ↓r_Rg1, ↓r_Rg2, ↓r_EnT, ↓r_For, ↓r_While, ↓r_Yes, ↓r_Lc, ↓r_Call, ↓r_CallF, ↓r_EqA, ↓r_asD, ↓r_seqOf, ↓r_dataOf, ↓r_isOw, ↓r_Ix, ↓r_Sub, ixx_some, at_0, at_1, at_2, at_3, at_4, ix_40, ix_41, ix_42, ix_43, RV.sl, b2n, Pu.isNon, notRaw, endP, endF, endL, slots0, wipeE, wipeL, List.map_cons, List.map_nil, List.length_cons, List.length_nil, decide_eq_true_eq, decide_true, decide_false, List.cons_append, List.nil_append, List.append_nil, List.replicate_succ, List.replicate_zero, List.getElem?_cons_zero, List.getElem?_cons_succ, List.set_cons_zero, List.set_cons_succ, Option.isSome_some, ite_true, ite_false, Bool.false_eq_true, true_and, and_true, if_true, if_false, Nat.reduceSub, Nat.reduceAdd, Nat.reduceLT, Bool.not_true, Bool.not_false, reduceIte, eq_self, okC_int, okC_bl, okC_lnil, eqD_lnil, okC_tI, okC_lI, eqD_int, eqD_bl, eqD_tups, eqD_lsts, isTy_int_int, isTy_int_bool, isTy_int_tuple, isTy_tup_tuple, isTy_tup_int, isTy_str_str, isTy_bl_int, isTy_bl_bool, List.length_map, List.length_range, ↓r_Rg3, ↓r_St, ↓r_Dc, ↓r_Dg, ↓r_In, ↓r_IxN, ↓r_Ss, ↓r_IsB, ↓sd__law_mirror, ↓sd__law_turn]
    refine ⟨xs, rfl, h0, by omega, ⟨by omega, by omega⟩, ?_⟩
    try simp only [↓r_V, ↓r_C, ↓r_Op, ↓r_B, ↓r_Chain, ↓r_And, ↓r_Or, ↓r_Not, ↓r_AndV, ↓r_OrV, ↓r_NotV, ↓r_If, ↓r_Un, ↓r_Add, ↓r_I, ↓r_I0, ↓r_Mul, ↓r_Eq, ↓r_Is, ↓r_Nil, ↓r_Cons, ↓r_Tup, ↓r_N, ↓r_CatN, ↓r_RepN, ↓r_No, ↓r_So, ↓r_Sl, ↓r_One, ↓r_Len, ↓r_Int1, ↓r_Int, ↓r_Sum, ↓r_Max, ↓r_All, ↓r_Min2, ↓r_Isi, ↓r_Repr, ↓r_TupOf, ↓r_LstOf, ↓r_Rd, ↓r_Rn, ↓r_Nm, ↓r_Gnil, ↓r_Gcons, ↓r_Gtup, ↓r_Glst, ↓r_Next, ↓r_Seq, ↓r_Cut, ↓r_Never, ↓r_Brk, ↓r_Cnt, ↓r_Drop, ↓r_Ret, ↓r_RetN, ↓r_IfS, ↓r_Set, ↓r_Asg, ↓r_Aug, ↓r_App, ↓r_Par, ↓r_Par3, ↓r_SeqI, ↓r_Rg1, ↓r_Rg2, ↓r_EnT, ↓r_For, ↓r_While, ↓r_Yes, ↓r_Lc, ↓r_Call, ↓r_CallF, ↓r_EqA, ↓r_asD, ↓r_seqOf, ↓r_dataOf, ↓r_isOw, ↓r_Ix, ↓r_Sub, ixx_some, at_0, at_1, at_2, at_3, at_4, ix_40, ix_41, ix_42, ix_43, RV.sl, b2n, Pu.isNon, notRaw, endP, endF, endL, slots0, wipeE, wipeL, List.map_cons, List.map_nil, List.length_cons, List.length_nil, decide_eq_true_eq, decide_true, decide_false, List.cons_append, List.nil_append, List.append_nil, List.replicate_succ, List.replicate_zero, List.getElem?_cons_zero, List.getElem?_cons_succ, List.set_cons_zero, List.set_cons_succ, Option.isSome_some, ite_true, ite_false, Bool.false_eq_true, true_and, and_true, if_true, if_false, Nat.reduceSub, Nat.reduceAdd, Nat.reduceLT, Bool.not_true, Bool.not_false, reduceIte, eq_self, okC_int, okC_bl, okC_lnil, eqD_lnil, okC_tI, okC_lI, eqD_int, eqD_bl, eqD_tups, eqD_lsts, isTy_int_int, isTy_int_bool, isTy_int_tuple, isTy_tup_tuple, isTy_tup_int, isTy_str_str, isTy_bl_int, isTy_bl_bool, List.length_map, List.length_range, ↓r_Rg3, ↓r_St, ↓r_Dc, ↓r_Dg, ↓r_In, ↓r_IxN, ↓r_Ss, ↓r_IsB, ↓sd__law_mirror, ↓sd__law_turn]
    refine ⟨fun i ε => ∃ s3 : Sl, ε = { sl := [.sh (tI xs), .sh (tI ys), .sh (tI (mir xs)), s3], fs := 0 } ∧ ∀ m : Nat, m < i → turnV xs m ≠ ys, ⟨_, rfl, fun m hm => (Nat.not_lt_zero _ hm).elim⟩, ?_, ?_⟩
    · rintro i d ε2 hd ⟨s3, rfl, no⟩
      obtain ⟨hi, rfl⟩ := rg_get hd
      rw [Int.toNat_natCast] at hi
      try simp only [↓r_V, ↓r_C, ↓r_Op, ↓r_B, ↓r_Chain, ↓r_And, ↓r_Or, ↓r_Not, ↓r_AndV, ↓r_OrV, ↓r_NotV, ↓r_If, ↓r_Un, ↓r_Add, ↓r_I, ↓r_I0, ↓r_Mul, ↓r_Eq, ↓r_Is, ↓r_Nil, ↓r_Cons, ↓r_Tup, ↓r_N, ↓r_CatN, ↓r_RepN, ↓r_No, ↓r_So, ↓r_Sl, ↓r_One, ↓r_Len, ↓r_Int1, ↓r_Int, ↓r_Sum, ↓r_Max, ↓r_All, ↓r_Min2, ↓r_Isi, ↓r_Repr, ↓r_TupOf, ↓r_LstOf, ↓r_Rd, ↓r_Rn, ↓r_Nm, ↓r_Gnil, ↓r_Gcons, ↓r_Gtup, ↓r_Glst, ↓r_Next, ↓r_Seq, ↓r_Cut, ↓r_Never, ↓r_Brk, ↓r_Cnt, ↓r_Drop, ↓r_Ret, ↓r_RetN, ↓r_IfS, ↓r_Set, ↓r_Asg, ↓r_Aug, ↓r_App, ↓r_Par, ↓r_Par3, ↓r_SeqI, ↓r_Rg1, ↓r_Rg2, ↓r_EnT, ↓r_For, ↓r_While, ↓r_Yes, ↓r_Lc, ↓r_Call, ↓r_CallF, ↓r_EqA, ↓r_asD, ↓r_seqOf, ↓r_dataOf, ↓r_isOw, ↓r_Ix, ↓r_Sub, ixx_some, at_0, at_1, at_2, at_3, at_4, ix_40, ix_41, ix_42, ix_43, RV.sl, b2n, Pu.isNon, notRaw, endP, endF, endL, slots0, wipeE, wipeL, List.map_cons, List.map_nil, List.length_cons, List.length_nil, decide_eq_true_eq, decide_true, decide_false, List.cons_append, List.nil_append, List.append_nil, List.replicate_succ, List.replicate_zero, List.getElem?_cons_zero, List.getElem?_cons_succ, List.set_cons_zero, List.set_cons_succ, Option.isSome_some, ite_true, ite_false, Bool.false_eq_true, true_and, and_true, if_true, if_false, Nat.reduceSub, Nat.reduceAdd, Nat.reduceLT, Bool.not_true, Bool.not_false, reduceIte, eq_self, okC_int, okC_bl, okC_lnil, eqD_lnil, okC_tI, okC_lI, eqD_int, eqD_bl, eqD_tups, eqD_lsts, isTy_int_int, isTy_int_bool, isTy_int_tuple, isTy_tup_tuple, isTy_tup_int, isTy_str_str, isTy_bl_int, isTy_bl_bool, List.length_map, List.length_range, ↓r_Rg3, ↓r_St, ↓r_Dc, ↓r_Dg, ↓r_In, ↓r_IxN, ↓r_Ss, ↓r_IsB, ↓sd__law_mirror, ↓sd__law_turn]
      refine ⟨xs, i, rfl, h0, by omega, ?_⟩
      try simp only [↓r_V, ↓r_C, ↓r_Op, ↓r_B, ↓r_Chain, ↓r_And, ↓r_Or, ↓r_Not, ↓r_AndV, ↓r_OrV, ↓r_NotV, ↓r_If, ↓r_Un, ↓r_Add, ↓r_I, ↓r_I0, ↓r_Mul, ↓r_Eq, ↓r_Is, ↓r_Nil, ↓r_Cons, ↓r_Tup, ↓r_N, ↓r_CatN, ↓r_RepN, ↓r_No, ↓r_So, ↓r_Sl, ↓r_One, ↓r_Len, ↓r_Int1, ↓r_Int, ↓r_Sum, ↓r_Max, ↓r_All, ↓r_Min2, ↓r_Isi, ↓r_Repr, ↓r_TupOf, ↓r_LstOf, ↓r_Rd, ↓r_Rn, ↓r_Nm, ↓r_Gnil, ↓r_Gcons, ↓r_Gtup, ↓r_Glst, ↓r_Next, ↓r_Seq, ↓r_Cut, ↓r_Never, ↓r_Brk, ↓r_Cnt, ↓r_Drop, ↓r_Ret, ↓r_RetN, ↓r_IfS, ↓r_Set, ↓r_Asg, ↓r_Aug, ↓r_App, ↓r_Par, ↓r_Par3, ↓r_SeqI, ↓r_Rg1, ↓r_Rg2, ↓r_EnT, ↓r_For, ↓r_While, ↓r_Yes, ↓r_Lc, ↓r_Call, ↓r_CallF, ↓r_EqA, ↓r_asD, ↓r_seqOf, ↓r_dataOf, ↓r_isOw, ↓r_Ix, ↓r_Sub, ixx_some, at_0, at_1, at_2, at_3, at_4, ix_40, ix_41, ix_42, ix_43, RV.sl, b2n, Pu.isNon, notRaw, endP, endF, endL, slots0, wipeE, wipeL, List.map_cons, List.map_nil, List.length_cons, List.length_nil, decide_eq_true_eq, decide_true, decide_false, List.cons_append, List.nil_append, List.append_nil, List.replicate_succ, List.replicate_zero, List.getElem?_cons_zero, List.getElem?_cons_succ, List.set_cons_zero, List.set_cons_succ, Option.isSome_some, ite_true, ite_false, Bool.false_eq_true, true_and, and_true, if_true, if_false, Nat.reduceSub, Nat.reduceAdd, Nat.reduceLT, Bool.not_true, Bool.not_false, reduceIte, eq_self, okC_int, okC_bl, okC_lnil, eqD_lnil, okC_tI, okC_lI, eqD_int, eqD_bl, eqD_tups, eqD_lsts, isTy_int_int, isTy_int_bool, isTy_int_tuple, isTy_tup_tuple, isTy_tup_int, isTy_str_str, isTy_bl_int, isTy_bl_bool, List.length_map, List.length_range, ↓r_Rg3, ↓r_St, ↓r_Dc, ↓r_Dg, ↓r_In, ↓r_IxN, ↓r_Ss, ↓r_IsB, ↓sd__law_mirror, ↓sd__law_turn]
      split
      · rename_i e
        have st : stp xs ys = .tup [.str "turned", .int (i : Nat)] := by
          unfold stp
          rw [first_at ((turns_get hi).trans (congrArg some e)) fun m hm z => no m hm (Option.some.inj ((turns_get (by omega)).symm.trans z))]
        rw [st] at h
        exact h
      · rename_i e
        exact ⟨_, rfl, fun m hm => if q : m = i then q ▸ e else no m (by omega)⟩
    rintro ε2 ⟨s3, rfl, no⟩
    rw [List.length_map, List.length_range, Int.toNat_natCast] at no
    have n1 : ys ∉ turnsL xs := fun z => by
      obtain ⟨j, hj, e⟩ := List.mem_map.mp z
      exact no j (List.mem_range.mp hj) e
    try simp only [↓r_V, ↓r_C, ↓r_Op, ↓r_B, ↓r_Chain, ↓r_And, ↓r_Or, ↓r_Not, ↓r_AndV, ↓r_OrV, ↓r_NotV, ↓r_If, ↓r_Un, ↓r_Add, ↓r_I, ↓r_I0, ↓r_Mul, ↓r_Eq, ↓r_Is, ↓r_Nil, ↓r_Cons, ↓r_Tup, ↓r_N, ↓r_CatN, ↓r_RepN, ↓r_No, ↓r_So, ↓r_Sl, ↓r_One, ↓r_Len, ↓r_Int1, ↓r_Int, ↓r_Sum, ↓r_Max, ↓r_All, ↓r_Min2, ↓r_Isi, ↓r_Repr, ↓r_TupOf, ↓r_LstOf, ↓r_Rd, ↓r_Rn, ↓r_Nm, ↓r_Gnil, ↓r_Gcons, ↓r_Gtup, ↓r_Glst, ↓r_Next, ↓r_Seq, ↓r_Cut, ↓r_Never, ↓r_Brk, ↓r_Cnt, ↓r_Drop, ↓r_Ret, ↓r_RetN, ↓r_IfS, ↓r_Set, ↓r_Asg, ↓r_Aug, ↓r_App, ↓r_Par, ↓r_Par3, ↓r_SeqI, ↓r_Rg1, ↓r_Rg2, ↓r_EnT, ↓r_For, ↓r_While, ↓r_Yes, ↓r_Lc, ↓r_Call, ↓r_CallF, ↓r_EqA, ↓r_asD, ↓r_seqOf, ↓r_dataOf, ↓r_isOw, ↓r_Ix, ↓r_Sub, ixx_some, at_0, at_1, at_2, at_3, at_4, ix_40, ix_41, ix_42, ix_43, RV.sl, b2n, Pu.isNon, notRaw, endP, endF, endL, slots0, wipeE, wipeL, List.map_cons, List.map_nil, List.length_cons, List.length_nil, decide_eq_true_eq, decide_true, decide_false, List.cons_append, List.nil_append, List.append_nil, List.replicate_succ, List.replicate_zero, List.getElem?_cons_zero, List.getElem?_cons_succ, List.set_cons_zero, List.set_cons_succ, Option.isSome_some, ite_true, ite_false, Bool.false_eq_true, true_and, and_true, if_true, if_false, Nat.reduceSub, Nat.reduceAdd, Nat.reduceLT, Bool.not_true, Bool.not_false, reduceIte, eq_self, okC_int, okC_bl, okC_lnil, eqD_lnil, okC_tI, okC_lI, eqD_int, eqD_bl, eqD_tups, eqD_lsts, isTy_int_int, isTy_int_bool, isTy_int_tuple, isTy_tup_tuple, isTy_tup_int, isTy_str_str, isTy_bl_int, isTy_bl_bool, List.length_map, List.length_range, ↓r_Rg3, ↓r_St, ↓r_Dc, ↓r_Dg, ↓r_In, ↓r_IxN, ↓r_Ss, ↓r_IsB, ↓sd__law_mirror, ↓sd__law_turn]
    refine ⟨⟨by omega, by omega⟩, ?_⟩
    refine ⟨fun i ε => ∃ s3 : Sl, ε = { sl := [.sh (tI xs), .sh (tI ys), .sh (tI (mir xs)), s3], fs := 0 } ∧ ∀ m : Nat, m < i → turnV (mir xs) m ≠ ys, ⟨_, rfl, fun m hm => (Nat.not_lt_zero _ hm).elim⟩, ?_, ?_⟩
    · rintro i d ε2 hd ⟨s3, rfl, no⟩
      obtain ⟨hi, rfl⟩ := rg_get hd
      rw [Int.toNat_natCast] at hi
      try simp only [↓r_V, ↓r_C, ↓r_Op, ↓r_B, ↓r_Chain, ↓r_And, ↓r_Or, ↓r_Not, ↓r_AndV, ↓r_OrV, ↓r_NotV, ↓r_If, ↓r_Un, ↓r_Add, ↓r_I, ↓r_I0, ↓r_Mul, ↓r_Eq, ↓r_Is, ↓r_Nil, ↓r_Cons, ↓r_Tup, ↓r_N, ↓r_CatN, ↓r_RepN, ↓r_No, ↓r_So, ↓r_Sl, ↓r_One, ↓r_Len, ↓r_Int1, ↓r_Int, ↓r_Sum, ↓r_Max, ↓r_All, ↓r_Min2, ↓r_Isi, ↓r_Repr, ↓r_TupOf, ↓r_LstOf, ↓r_Rd, ↓r_Rn, ↓r_Nm, ↓r_Gnil, ↓r_Gcons, ↓r_Gtup, ↓r_Glst, ↓r_Next, ↓r_Seq, ↓r_Cut, ↓r_Never, ↓r_Brk, ↓r_Cnt, ↓r_Drop, ↓r_Ret, ↓r_RetN, ↓r_IfS, ↓r_Set, ↓r_Asg, ↓r_Aug, ↓r_App, ↓r_Par, ↓r_Par3, ↓r_SeqI, ↓r_Rg1, ↓r_Rg2, ↓r_EnT, ↓r_For, ↓r_While, ↓r_Yes, ↓r_Lc, ↓r_Call, ↓r_CallF, ↓r_EqA, ↓r_asD, ↓r_seqOf, ↓r_dataOf, ↓r_isOw, ↓r_Ix, ↓r_Sub, ixx_some, at_0, at_1, at_2, at_3, at_4, ix_40, ix_41, ix_42, ix_43, RV.sl, b2n, Pu.isNon, notRaw, endP, endF, endL, slots0, wipeE, wipeL, List.map_cons, List.map_nil, List.length_cons, List.length_nil, decide_eq_true_eq, decide_true, decide_false, List.cons_append, List.nil_append, List.append_nil, List.replicate_succ, List.replicate_zero, List.getElem?_cons_zero, List.getElem?_cons_succ, List.set_cons_zero, List.set_cons_succ, Option.isSome_some, ite_true, ite_false, Bool.false_eq_true, true_and, and_true, if_true, if_false, Nat.reduceSub, Nat.reduceAdd, Nat.reduceLT, Bool.not_true, Bool.not_false, reduceIte, eq_self, okC_int, okC_bl, okC_lnil, eqD_lnil, okC_tI, okC_lI, eqD_int, eqD_bl, eqD_tups, eqD_lsts, isTy_int_int, isTy_int_bool, isTy_int_tuple, isTy_tup_tuple, isTy_tup_int, isTy_str_str, isTy_bl_int, isTy_bl_bool, List.length_map, List.length_range, ↓r_Rg3, ↓r_St, ↓r_Dc, ↓r_Dg, ↓r_In, ↓r_IxN, ↓r_Ss, ↓r_IsB, ↓sd__law_mirror, ↓sd__law_turn]
      refine ⟨mir xs, i, rfl, by omega, by omega, ?_⟩
      try simp only [↓r_V, ↓r_C, ↓r_Op, ↓r_B, ↓r_Chain, ↓r_And, ↓r_Or, ↓r_Not, ↓r_AndV, ↓r_OrV, ↓r_NotV, ↓r_If, ↓r_Un, ↓r_Add, ↓r_I, ↓r_I0, ↓r_Mul, ↓r_Eq, ↓r_Is, ↓r_Nil, ↓r_Cons, ↓r_Tup, ↓r_N, ↓r_CatN, ↓r_RepN, ↓r_No, ↓r_So, ↓r_Sl, ↓r_One, ↓r_Len, ↓r_Int1, ↓r_Int, ↓r_Sum, ↓r_Max, ↓r_All, ↓r_Min2, ↓r_Isi, ↓r_Repr, ↓r_TupOf, ↓r_LstOf, ↓r_Rd, ↓r_Rn, ↓r_Nm, ↓r_Gnil, ↓r_Gcons, ↓r_Gtup, ↓r_Glst, ↓r_Next, ↓r_Seq, ↓r_Cut, ↓r_Never, ↓r_Brk, ↓r_Cnt, ↓r_Drop, ↓r_Ret, ↓r_RetN, ↓r_IfS, ↓r_Set, ↓r_Asg, ↓r_Aug, ↓r_App, ↓r_Par, ↓r_Par3, ↓r_SeqI, ↓r_Rg1, ↓r_Rg2, ↓r_EnT, ↓r_For, ↓r_While, ↓r_Yes, ↓r_Lc, ↓r_Call, ↓r_CallF, ↓r_EqA, ↓r_asD, ↓r_seqOf, ↓r_dataOf, ↓r_isOw, ↓r_Ix, ↓r_Sub, ixx_some, at_0, at_1, at_2, at_3, at_4, ix_40, ix_41, ix_42, ix_43, RV.sl, b2n, Pu.isNon, notRaw, endP, endF, endL, slots0, wipeE, wipeL, List.map_cons, List.map_nil, List.length_cons, List.length_nil, decide_eq_true_eq, decide_true, decide_false, List.cons_append, List.nil_append, List.append_nil, List.replicate_succ, List.replicate_zero, List.getElem?_cons_zero, List.getElem?_cons_succ, List.set_cons_zero, List.set_cons_succ, Option.isSome_some, ite_true, ite_false, Bool.false_eq_true, true_and, and_true, if_true, if_false, Nat.reduceSub, Nat.reduceAdd, Nat.reduceLT, Bool.not_true, Bool.not_false, reduceIte, eq_self, okC_int, okC_bl, okC_lnil, eqD_lnil, okC_tI, okC_lI, eqD_int, eqD_bl, eqD_tups, eqD_lsts, isTy_int_int, isTy_int_bool, isTy_int_tuple, isTy_tup_tuple, isTy_tup_int, isTy_str_str, isTy_bl_int, isTy_bl_bool, List.length_map, List.length_range, ↓r_Rg3, ↓r_St, ↓r_Dc, ↓r_Dg, ↓r_In, ↓r_IxN, ↓r_Ss, ↓r_IsB, ↓sd__law_mirror, ↓sd__law_turn]
      split
      · rename_i e
        have st : stp xs ys = .tup [.str "mirrored", .int (i : Nat)] := by
          unfold stp
          rw [first_no n1, first_at ((turns_get (by omega)).trans (congrArg some e)) fun m hm z => no m hm (Option.some.inj ((turns_get (by omega)).symm.trans z))]
        rw [st] at h
        exact h
      · rename_i e
        exact ⟨_, rfl, fun m hm => if q : m = i then q ▸ e else no m (by omega)⟩
    rintro ε2 ⟨s3, rfl, no⟩
    rw [List.length_map, List.length_range, Int.toNat_natCast] at no
    have n2 : ys ∉ turnsL (mir xs) := fun z => by
      obtain ⟨j, hj, e⟩ := List.mem_map.mp z
      exact no j (mir_len xs ▸ List.mem_range.mp hj) e
    try simp only [↓r_V, ↓r_C, ↓r_Op, ↓r_B, ↓r_Chain, ↓r_And, ↓r_Or, ↓r_Not, ↓r_AndV, ↓r_OrV, ↓r_NotV, ↓r_If, ↓r_Un, ↓r_Add, ↓r_I, ↓r_I0, ↓r_Mul, ↓r_Eq, ↓r_Is, ↓r_Nil, ↓r_Cons, ↓r_Tup, ↓r_N, ↓r_CatN, ↓r_RepN, ↓r_No, ↓r_So, ↓r_Sl, ↓r_One, ↓r_Len, ↓r_Int1, ↓r_Int, ↓r_Sum, ↓r_Max, ↓r_All, ↓r_Min2, ↓r_Isi, ↓r_Repr, ↓r_TupOf, ↓r_LstOf, ↓r_Rd, ↓r_Rn, ↓r_Nm, ↓r_Gnil, ↓r_Gcons, ↓r_Gtup, ↓r_Glst, ↓r_Next, ↓r_Seq, ↓r_Cut, ↓r_Never, ↓r_Brk, ↓r_Cnt, ↓r_Drop, ↓r_Ret, ↓r_RetN, ↓r_IfS, ↓r_Set, ↓r_Asg, ↓r_Aug, ↓r_App, ↓r_Par, ↓r_Par3, ↓r_SeqI, ↓r_Rg1, ↓r_Rg2, ↓r_EnT, ↓r_For, ↓r_While, ↓r_Yes, ↓r_Lc, ↓r_Call, ↓r_CallF, ↓r_EqA, ↓r_asD, ↓r_seqOf, ↓r_dataOf, ↓r_isOw, ↓r_Ix, ↓r_Sub, ixx_some, at_0, at_1, at_2, at_3, at_4, ix_40, ix_41, ix_42, ix_43, RV.sl, b2n, Pu.isNon, notRaw, endP, endF, endL, slots0, wipeE, wipeL, List.map_cons, List.map_nil, List.length_cons, List.length_nil, decide_eq_true_eq, decide_true, decide_false, List.cons_append, List.nil_append, List.append_nil, List.replicate_succ, List.replicate_zero, List.getElem?_cons_zero, List.getElem?_cons_succ, List.set_cons_zero, List.set_cons_succ, Option.isSome_some, ite_true, ite_false, Bool.false_eq_true, true_and, and_true, if_true, if_false, Nat.reduceSub, Nat.reduceAdd, Nat.reduceLT, Bool.not_true, Bool.not_false, reduceIte, eq_self, okC_int, okC_bl, okC_lnil, eqD_lnil, okC_tI, okC_lI, eqD_int, eqD_bl, eqD_tups, eqD_lsts, isTy_int_int, isTy_int_bool, isTy_int_tuple, isTy_tup_tuple, isTy_tup_int, isTy_str_str, isTy_bl_int, isTy_bl_bool, List.length_map, List.length_range, ↓r_Rg3, ↓r_St, ↓r_Dc, ↓r_Dg, ↓r_In, ↓r_IxN, ↓r_Ss, ↓r_IsB, ↓sd__law_mirror, ↓sd__law_turn]
    rw [show stp xs ys = .non from by unfold stp; rw [first_no n1, first_no n2]] at h
    exact h
end
end U32

set_option Elab.async false
set_option linter.all false
set_option maxRecDepth 100000
set_option maxHeartbeats 4000000
namespace U32
open PySem PySem.Spec PyProof.Rows L2 Gd RZ Pu Pv Pm
section
variable {P : Program} {w : World} {K : PySem.W.Frag} {mg : Str → Option Value} {base : Heap}
def sd__law_near : SpF := fun ds B k => ∃ xs : List Int, ds = [tI xs] ∧ 0 < xs.length ∧ xs.length ≤ 30 ∧ Bq xs ∧ B ≤ 800000 ∧ ∀ (ys : List Int) (B2 : Nat), ys.length = xs.length → Bd 6 ys → B2 ≤ B + 200 → k (tI ys) B2
theorem c__law_near (D : At K mg "_law_near" s__law_near ["_law_feed_here", "_law_one"]) (c__law_draw : CalG P w K mg base 1 "_law_draw" ["_law_feed_here", "_law_bound"] (spF K (FdL K okI) 1 sd__law_draw)) (c__law_turn : CalG P w K mg base 1 "_law_turn" ["_law_voice_here", "_law_k"] (spP K 2 sd__law_turn)) (c__law_mirror : CalG P w K mg base 1 "_law_mirror" ["_law_voice_here"] (spP K 1 sd__law_mirror)) (c__law_voice : CalG P w K mg base 2 "_law_voice" ["_law_feed_here", "_law_wide", "_law_way"] (spF K (FdL K okI) 2 sd__law_voice)) (z_len : mg "len" = none) (z_list : mg "list" = none) (z_tuple : mg "tuple" = none) : CalG P w K mg base 3 "_law_near" ["_law_feed_here", "_law_one"] (spF K (FdL K okI) 1 sd__law_near) := by
  have nd := sc__law_near.nd
  apply okF (F := FdL K okI) D sc__law_near (by decide)
  case body =>
    intro f cdv A outer s H E hr hG
    have hu64 := hr.units
    exact (qss_cons (qs_par (i := 3) (j := 4) rfl nd rfl rfl (by decide) rfl rfl (qr_d (q_callF (i := 0) c__law_draw hr hG (by decide) (by rfl) (qa_cons q_int qa_nil) rfl)) (qr_d (q_b1 (fun p => pe_callB call_len (by rfl) z_len PySem.boot_len (pa_cons p pa_nil)) l_len (qv 1))) rfl)
 (qss_cons (qs_set (i := 2) nd rfl (.inl rfl) (qr_n (qn_lstOf (fun p => pe_callTy call_list_of (by rfl) z_list (by decide +kernel) (pa_cons p pa_nil)) (q_call c__law_turn hr hG (by decide) (by rfl) (qa_cons (q_if (qt_cmp (op_inA (hr65 hr)) l_inA (qv 3) (q_tup (qa_cons q_int (qa_cons q_int qa_nil))) (by rfl)) (q_call c__law_mirror hr hG (by decide) (by rfl) (qa_cons (qv 1) qa_nil) rfl) (qv 1)) (qa_cons (q_callF (i := 0) c__law_draw hr hG (by decide) (by rfl) (qa_cons (qv 4) qa_nil) rfl) qa_nil)) rfl))))
 (qss_cons (qs_par (i := 5) (j := 6) rfl nd rfl rfl (by decide) rfl rfl (qr_d (q_callF (i := 0) c__law_draw hr hG (by decide) (by rfl) (qa_cons (qv 4) qa_nil) rfl)) (qr_d (q_callF (i := 0) c__law_draw hr hG (by decide) (by rfl) (qa_cons (qv 4) qa_nil) rfl)) rfl)
 (qss_cons (qs_if (QW.qt (qw_or (qt_cmp (op_eqA hu64) l_eqA (qv 3) q_int (nomark _)) (qw_or1 (qt_cmp (op_eqA hu64) l_eqA (qv 3) q_int (nomark _)))))
 (qss_one (qs_asg (q_op op_addA l_add (q_ix (qv 2) (qv 5) (fun _ _ => rfl)) q_int) (qg_sub (i := 2) (qv 5))))
 (qss_one (qs_if (qt_cmp (op_eqA hu64) l_eqA (qv 3) q_int (nomark _))
 (qss_one (qs_asg (q_tup (qa_cons (q_ix (qv 2) (qv 6) (fun _ _ => rfl)) (qa_cons (q_ix (qv 2) (qv 5) (fun _ _ => rfl)) qa_nil))) (qg_tup (n := 2) rfl (qgs_cons (qg_sub (i := 2) (qv 5)) (qgs_cons (qg_sub (i := 2) (qv 6)) qgs_nil)))))
 (qss_one (qs_if (qt_cmp (op_eqA hu64) l_eqA (qv 3) q_int (nomark _))
 (qss_one (qs_ret (q_callF (i := 0) c__law_voice hr hG (by decide) (by rfl) (qa_cons (qv 4) (qa_cons (q_callF (i := 0) c__law_draw hr hG (by decide) (by rfl) (qa_cons q_int qa_nil) rfl) qa_nil)) rfl)))
 qss_nil)))))
 (qss_one (qs_ret (q_tupOf (by rfl) z_tuple (qv 2))))))))
  case go =>
    intro ds B k hl h
    obtain ⟨xs, rfl, h0, hn, bx, hB, h⟩ := h
    have lm := mir_len xs
    try simp only [↓r_V, ↓r_C, ↓r_Op, ↓r_B, ↓r_Chain, ↓r_And, ↓r_Or, ↓r_Not, ↓r_AndV, ↓r_OrV, ↓r_NotV, ↓r_If, ↓r_Un, ↓r_Add, ↓r_I, ↓r_I0, ↓r_Mul, ↓r_Eq, ↓r_Is, ↓r_Nil, ↓r_Cons, ↓r_Tup, ↓r_N, ↓r_CatN, ↓r_RepN, ↓r_No, ↓r_So, ↓r_Sl, ↓r_One, ↓r_Len, ↓r_Int1, ↓r_Int, ↓r_Sum, ↓r_Max, ↓r_All, ↓r_Min2, ↓r_Isi, ↓r_Repr, ↓r_TupOf, ↓r_LstOf, ↓r_Rd, ↓r_Rn, ↓r_Nm, ↓r_Gnil, ↓r_Gcons, ↓r_Gtup, ↓r_Glst, ↓r_Next, ↓r_Seq, ↓r_Cut, ↓r_Never, ↓r_Brk, ↓r_Cnt, ↓r_Drop, ↓r_Ret, ↓r_RetN, ↓r_IfS, ↓r_Set, ↓r_Asg, ↓r_Aug, ↓r_App, ↓r_Par, ↓r_Par3, ↓r_SeqI, ↓r_Rg1, ↓r_Rg2, ↓r_EnT, ↓r_For, ↓r_While, ↓r_Yes, ↓r_Lc, ↓r_Call, ↓r_CallF, ↓r_EqA, ↓r_asD, ↓r_seqOf, ↓r_dataOf, ↓r_isOw, ↓r_Ix, ↓r_Sub, ixx_some, at_0, at_1, at_2, at_3, at_4, ix_40, ix_41, ix_42, ix_43, RV.sl, b2n, Pu.isNon, notRaw, endP, endF, endL, slots0, wipeE, wipeL, List.map_cons, List.map_nil, List.length_cons, List.length_nil, decide_eq_true_eq, decide_true, decide_false, List.cons_append, List.nil_append, List.append_nil, List.replicate_succ, List.replicate_zero, List.getElem?_cons_zero, List.getElem?_cons_succ, List.set_cons_zero, List.set_cons_succ, Option.isSome_some, ite_true, ite_false, Bool.false_eq_true, true_and, and_true, if_true, if_false, Nat.reduceSub, Nat.reduceAdd, Nat.reduceLT, Bool.not_true, Bool.not_false, reduceIte, eq_self, okC_int, okC_bl, okC_lnil, eqD_lnil, okC_tI, okC_lI, eqD_int, eqD_bl, eqD_tups, eqD_lsts, isTy_int_int, isTy_int_bool, isTy_int_tuple, isTy_tup_tuple, isTy_tup_int, isTy_str_str, isTy_bl_int, isTy_bl_bool, List.length_map, List.length_range, ↓r_Rg3, ↓r_St, ↓r_Dc, ↓r_Dg, ↓r_In, ↓r_IxN, ↓r_Ss, ↓r_IsB, ↓sd__law_draw, ↓sd__law_turn, ↓sd__law_mirror, ↓sd__law_voice]
    refine ⟨6, rfl, by decide, by decide, by omega, fun way w0 w1 => ?_⟩
    try simp only [↓r_V, ↓r_C, ↓r_Op, ↓r_B, ↓r_Chain, ↓r_And, ↓r_Or, ↓r_Not, ↓r_AndV, ↓r_OrV, ↓r_NotV, ↓r_If, ↓r_Un, ↓r_Add, ↓r_I, ↓r_I0, ↓r_Mul, ↓r_Eq, ↓r_Is, ↓r_Nil, ↓r_Cons, ↓r_Tup, ↓r_N, ↓r_CatN, ↓r_RepN, ↓r_No, ↓r_So, ↓r_Sl, ↓r_One, ↓r_Len, ↓r_Int1, ↓r_Int, ↓r_Sum, ↓r_Max, ↓r_All, ↓r_Min2, ↓r_Isi, ↓r_Repr, ↓r_TupOf, ↓r_LstOf, ↓r_Rd, ↓r_Rn, ↓r_Nm, ↓r_Gnil, ↓r_Gcons, ↓r_Gtup, ↓r_Glst, ↓r_Next, ↓r_Seq, ↓r_Cut, ↓r_Never, ↓r_Brk, ↓r_Cnt, ↓r_Drop, ↓r_Ret, ↓r_RetN, ↓r_IfS, ↓r_Set, ↓r_Asg, ↓r_Aug, ↓r_App, ↓r_Par, ↓r_Par3, ↓r_SeqI, ↓r_Rg1, ↓r_Rg2, ↓r_EnT, ↓r_For, ↓r_While, ↓r_Yes, ↓r_Lc, ↓r_Call, ↓r_CallF, ↓r_EqA, ↓r_asD, ↓r_seqOf, ↓r_dataOf, ↓r_isOw, ↓r_Ix, ↓r_Sub, ixx_some, at_0, at_1, at_2, at_3, at_4, ix_40, ix_41, ix_42, ix_43, RV.sl, b2n, Pu.isNon, notRaw, endP, endF, endL, slots0, wipeE, wipeL, List.map_cons, List.map_nil, List.length_cons, List.length_nil, decide_eq_true_eq, decide_true, decide_false, List.cons_append, List.nil_append, List.append_nil, List.replicate_succ, List.replicate_zero, List.getElem?_cons_zero, List.getElem?_cons_succ, List.set_cons_zero, List.set_cons_succ, Option.isSome_some, ite_true, ite_false, Bool.false_eq_true, true_and, and_true, if_true, if_false, Nat.reduceSub, Nat.reduceAdd, Nat.reduceLT, Bool.not_true, Bool.not_false, reduceIte, eq_self, okC_int, okC_bl, okC_lnil, eqD_lnil, okC_tI, okC_lI, eqD_int, eqD_bl, eqD_tups, eqD_lsts, isTy_int_int, isTy_int_bool, isTy_int_tuple, isTy_tup_tuple, isTy_tup_int, isTy_str_str, isTy_bl_int, isTy_bl_bool, List.length_map, List.length_range, ↓r_Rg3, ↓r_St, ↓r_Dc, ↓r_Dg, ↓r_In, ↓r_IxN, ↓r_Ss, ↓r_IsB, ↓sd__law_draw, ↓sd__law_turn, ↓sd__law_mirror, ↓sd__law_voice]
    refine ⟨[1, 3], rfl, ?_⟩
    try simp only [↓r_V, ↓r_C, ↓r_Op, ↓r_B, ↓r_Chain, ↓r_And, ↓r_Or, ↓r_Not, ↓r_AndV, ↓r_OrV, ↓r_NotV, ↓r_If, ↓r_Un, ↓r_Add, ↓r_I, ↓r_I0, ↓r_Mul, ↓r_Eq, ↓r_Is, ↓r_Nil, ↓r_Cons, ↓r_Tup, ↓r_N, ↓r_CatN, ↓r_RepN, ↓r_No, ↓r_So, ↓r_Sl, ↓r_One, ↓r_Len, ↓r_Int1, ↓r_Int, ↓r_Sum, ↓r_Max, ↓r_All, ↓r_Min2, ↓r_Isi, ↓r_Repr, ↓r_TupOf, ↓r_LstOf, ↓r_Rd, ↓r_Rn, ↓r_Nm, ↓r_Gnil, ↓r_Gcons, ↓r_Gtup, ↓r_Glst, ↓r_Next, ↓r_Seq, ↓r_Cut, ↓r_Never, ↓r_Brk, ↓r_Cnt, ↓r_Drop, ↓r_Ret, ↓r_RetN, ↓r_IfS, ↓r_Set, ↓r_Asg, ↓r_Aug, ↓r_App, ↓r_Par, ↓r_Par3, ↓r_SeqI, ↓r_Rg1, ↓r_Rg2, ↓r_EnT, ↓r_For, ↓r_While, ↓r_Yes, ↓r_Lc, ↓r_Call, ↓r_CallF, ↓r_EqA, ↓r_asD, ↓r_seqOf, ↓r_dataOf, ↓r_isOw, ↓r_Ix, ↓r_Sub, ixx_some, at_0, at_1, at_2, at_3, at_4, ix_40, ix_41, ix_42, ix_43, RV.sl, b2n, Pu.isNon, notRaw, endP, endF, endL, slots0, wipeE, wipeL, List.map_cons, List.map_nil, List.length_cons, List.length_nil, decide_eq_true_eq, decide_true, decide_false, List.cons_append, List.nil_append, List.append_nil, List.replicate_succ, List.replicate_zero, List.getElem?_cons_zero, List.getElem?_cons_succ, List.set_cons_zero, List.set_cons_succ, Option.isSome_some, ite_true, ite_false, Bool.false_eq_true, true_and, and_true, if_true, if_false, Nat.reduceSub, Nat.reduceAdd, Nat.reduceLT, Bool.not_true, Bool.not_false, reduceIte, eq_self, okC_int, okC_bl, okC_lnil, eqD_lnil, okC_tI, okC_lI, eqD_int, eqD_bl, eqD_tups, eqD_lsts, isTy_int_int, isTy_int_bool, isTy_int_tuple, isTy_tup_tuple, isTy_tup_int, isTy_str_str, isTy_bl_int, isTy_bl_bool, List.length_map, List.length_range, ↓r_Rg3, ↓r_St, ↓r_Dc, ↓r_Dg, ↓r_In, ↓r_IxN, ↓r_Ss, ↓r_IsB, ↓sd__law_draw, ↓sd__law_turn, ↓sd__law_mirror, ↓sd__law_voice]
    split
    · refine ⟨xs, rfl, h0, by omega, xs.length, rfl, by omega, by omega, by omega, fun r r0 r1 => ⟨mir xs, r, rfl, by omega, by omega, xs.length, rfl, by omega, by omega, by omega, fun a a0 a1 => ⟨xs.length, rfl, by omega, by omega, by omega, fun b b0 b1 => ?_⟩⟩⟩
      obtain ⟨zs, ez⟩ : ∃ zs, turnV (mir xs) r = zs := ⟨_, rfl⟩
      rw [ez]
      have lz : zs.length = xs.length := by rw [← ez, turn_len]; exact lm
      have bz : Bq zs := by rw [← ez]; exact bq_of fun i => bq_per (bq_of fun i => bq_per bx _) _
      clear ez
      have bs : ∀ (j : Nat) (v : Int), -50 ≤ v → v ≤ 50 → Bd 6 (zs.set j v) := fun j v v0 v1 x hx => by
        rcases List.mem_or_eq_of_mem_set hx with z | z
        · have := bz x z; omega
        · omega
      have ba := bq_per bz a
      have bb := bq_per bz b
      split
      · refine ⟨_, atI_per a0 (by omega), ?_⟩
        try simp only [↓r_V, ↓r_C, ↓r_Op, ↓r_B, ↓r_Chain, ↓r_And, ↓r_Or, ↓r_Not, ↓r_AndV, ↓r_OrV, ↓r_NotV, ↓r_If, ↓r_Un, ↓r_Add, ↓r_I, ↓r_I0, ↓r_Mul, ↓r_Eq, ↓r_Is, ↓r_Nil, ↓r_Cons, ↓r_Tup, ↓r_N, ↓r_CatN, ↓r_RepN, ↓r_No, ↓r_So, ↓r_Sl, ↓r_One, ↓r_Len, ↓r_Int1, ↓r_Int, ↓r_Sum, ↓r_Max, ↓r_All, ↓r_Min2, ↓r_Isi, ↓r_Repr, ↓r_TupOf, ↓r_LstOf, ↓r_Rd, ↓r_Rn, ↓r_Nm, ↓r_Gnil, ↓r_Gcons, ↓r_Gtup, ↓r_Glst, ↓r_Next, ↓r_Seq, ↓r_Cut, ↓r_Never, ↓r_Brk, ↓r_Cnt, ↓r_Drop, ↓r_Ret, ↓r_RetN, ↓r_IfS, ↓r_Set, ↓r_Asg, ↓r_Aug, ↓r_App, ↓r_Par, ↓r_Par3, ↓r_SeqI, ↓r_Rg1, ↓r_Rg2, ↓r_EnT, ↓r_For, ↓r_While, ↓r_Yes, ↓r_Lc, ↓r_Call, ↓r_CallF, ↓r_EqA, ↓r_asD, ↓r_seqOf, ↓r_dataOf, ↓r_isOw, ↓r_Ix, ↓r_Sub, ixx_some, at_0, at_1, at_2, at_3, at_4, ix_40, ix_41, ix_42, ix_43, RV.sl, b2n, Pu.isNon, notRaw, endP, endF, endL, slots0, wipeE, wipeL, List.map_cons, List.map_nil, List.length_cons, List.length_nil, decide_eq_true_eq, decide_true, decide_false, List.cons_append, List.nil_append, List.append_nil, List.replicate_succ, List.replicate_zero, List.getElem?_cons_zero, List.getElem?_cons_succ, List.set_cons_zero, List.set_cons_succ, Option.isSome_some, ite_true, ite_false, Bool.false_eq_true, true_and, and_true, if_true, if_false, Nat.reduceSub, Nat.reduceAdd, Nat.reduceLT, Bool.not_true, Bool.not_false, reduceIte, eq_self, okC_int, okC_bl, okC_lnil, eqD_lnil, okC_tI, okC_lI, eqD_int, eqD_bl, eqD_tups, eqD_lsts, isTy_int_int, isTy_int_bool, isTy_int_tuple, isTy_tup_tuple, isTy_tup_int, isTy_str_str, isTy_bl_int, isTy_bl_bool, List.length_map, List.length_range, ↓r_Rg3, ↓r_St, ↓r_Dc, ↓r_Dg, ↓r_In, ↓r_IxN, ↓r_Ss, ↓r_IsB, ↓sd__law_draw, ↓sd__law_turn, ↓sd__law_mirror, ↓sd__law_voice]
        refine ⟨_, ixN_in a0 (by omega), ?_⟩
        try simp only [↓r_V, ↓r_C, ↓r_Op, ↓r_B, ↓r_Chain, ↓r_And, ↓r_Or, ↓r_Not, ↓r_AndV, ↓r_OrV, ↓r_NotV, ↓r_If, ↓r_Un, ↓r_Add, ↓r_I, ↓r_I0, ↓r_Mul, ↓r_Eq, ↓r_Is, ↓r_Nil, ↓r_Cons, ↓r_Tup, ↓r_N, ↓r_CatN, ↓r_RepN, ↓r_No, ↓r_So, ↓r_Sl, ↓r_One, ↓r_Len, ↓r_Int1, ↓r_Int, ↓r_Sum, ↓r_Max, ↓r_All, ↓r_Min2, ↓r_Isi, ↓r_Repr, ↓r_TupOf, ↓r_LstOf, ↓r_Rd, ↓r_Rn, ↓r_Nm, ↓r_Gnil, ↓r_Gcons, ↓r_Gtup, ↓r_Glst, ↓r_Next, ↓r_Seq, ↓r_Cut, ↓r_Never, ↓r_Brk, ↓r_Cnt, ↓r_Drop, ↓r_Ret, ↓r_RetN, ↓r_IfS, ↓r_Set, ↓r_Asg, ↓r_Aug, ↓r_App, ↓r_Par, ↓r_Par3, ↓r_SeqI, ↓r_Rg1, ↓r_Rg2, ↓r_EnT, ↓r_For, ↓r_While, ↓r_Yes, ↓r_Lc, ↓r_Call, ↓r_CallF, ↓r_EqA, ↓r_asD, ↓r_seqOf, ↓r_dataOf, ↓r_isOw, ↓r_Ix, ↓r_Sub, ixx_some, at_0, at_1, at_2, at_3, at_4, ix_40, ix_41, ix_42, ix_43, RV.sl, b2n, Pu.isNon, notRaw, endP, endF, endL, slots0, wipeE, wipeL, List.map_cons, List.map_nil, List.length_cons, List.length_nil, decide_eq_true_eq, decide_true, decide_false, List.cons_append, List.nil_append, List.append_nil, List.replicate_succ, List.replicate_zero, List.getElem?_cons_zero, List.getElem?_cons_succ, List.set_cons_zero, List.set_cons_succ, Option.isSome_some, ite_true, ite_false, Bool.false_eq_true, true_and, and_true, if_true, if_false, Nat.reduceSub, Nat.reduceAdd, Nat.reduceLT, Bool.not_true, Bool.not_false, reduceIte, eq_self, okC_int, okC_bl, okC_lnil, eqD_lnil, okC_tI, okC_lI, eqD_int, eqD_bl, eqD_tups, eqD_lsts, isTy_int_int, isTy_int_bool, isTy_int_tuple, isTy_tup_tuple, isTy_tup_int, isTy_str_str, isTy_bl_int, isTy_bl_bool, List.length_map, List.length_range, ↓r_Rg3, ↓r_St, ↓r_Dc, ↓r_Dg, ↓r_In, ↓r_IxN, ↓r_Ss, ↓r_IsB, ↓sd__law_draw, ↓sd__law_turn, ↓sd__law_mirror, ↓sd__law_voice]
        rw [set_ints]
        try simp only [↓r_V, ↓r_C, ↓r_Op, ↓r_B, ↓r_Chain, ↓r_And, ↓r_Or, ↓r_Not, ↓r_AndV, ↓r_OrV, ↓r_NotV, ↓r_If, ↓r_Un, ↓r_Add, ↓r_I, ↓r_I0, ↓r_Mul, ↓r_Eq, ↓r_Is, ↓r_Nil, ↓r_Cons, ↓r_Tup, ↓r_N, ↓r_CatN, ↓r_RepN, ↓r_No, ↓r_So, ↓r_Sl, ↓r_One, ↓r_Len, ↓r_Int1, ↓r_Int, ↓r_Sum, ↓r_Max, ↓r_All, ↓r_Min2, ↓r_Isi, ↓r_Repr, ↓r_TupOf, ↓r_LstOf, ↓r_Rd, ↓r_Rn, ↓r_Nm, ↓r_Gnil, ↓r_Gcons, ↓r_Gtup, ↓r_Glst, ↓r_Next, ↓r_Seq, ↓r_Cut, ↓r_Never, ↓r_Brk, ↓r_Cnt, ↓r_Drop, ↓r_Ret, ↓r_RetN, ↓r_IfS, ↓r_Set, ↓r_Asg, ↓r_Aug, ↓r_App, ↓r_Par, ↓r_Par3, ↓r_SeqI, ↓r_Rg1, ↓r_Rg2, ↓r_EnT, ↓r_For, ↓r_While, ↓r_Yes, ↓r_Lc, ↓r_Call, ↓r_CallF, ↓r_EqA, ↓r_asD, ↓r_seqOf, ↓r_dataOf, ↓r_isOw, ↓r_Ix, ↓r_Sub, ixx_some, at_0, at_1, at_2, at_3, at_4, ix_40, ix_41, ix_42, ix_43, RV.sl, b2n, Pu.isNon, notRaw, endP, endF, endL, slots0, wipeE, wipeL, List.map_cons, List.map_nil, List.length_cons, List.length_nil, decide_eq_true_eq, decide_true, decide_false, List.cons_append, List.nil_append, List.append_nil, List.replicate_succ, List.replicate_zero, List.getElem?_cons_zero, List.getElem?_cons_succ, List.set_cons_zero, List.set_cons_succ, Option.isSome_some, ite_true, ite_false, Bool.false_eq_true, true_and, and_true, if_true, if_false, Nat.reduceSub, Nat.reduceAdd, Nat.reduceLT, Bool.not_true, Bool.not_false, reduceIte, eq_self, okC_int, okC_bl, okC_lnil, eqD_lnil, okC_tI, okC_lI, eqD_int, eqD_bl, eqD_tups, eqD_lsts, isTy_int_int, isTy_int_bool, isTy_int_tuple, isTy_tup_tuple, isTy_tup_int, isTy_str_str, isTy_bl_int, isTy_bl_bool, List.length_map, List.length_range, ↓r_Rg3, ↓r_St, ↓r_Dc, ↓r_Dg, ↓r_In, ↓r_IxN, ↓r_Ss, ↓r_IsB, ↓sd__law_draw, ↓sd__law_turn, ↓sd__law_mirror, ↓sd__law_voice]
        exact h _ _ (by rw [List.length_set, lz]) (bs _ _ (by omega) (by omega)) (by omega)
      split
      · refine ⟨_, atI_per a0 (by omega), ?_⟩
        try simp only [↓r_V, ↓r_C, ↓r_Op, ↓r_B, ↓r_Chain, ↓r_And, ↓r_Or, ↓r_Not, ↓r_AndV, ↓r_OrV, ↓r_NotV, ↓r_If, ↓r_Un, ↓r_Add, ↓r_I, ↓r_I0, ↓r_Mul, ↓r_Eq, ↓r_Is, ↓r_Nil, ↓r_Cons, ↓r_Tup, ↓r_N, ↓r_CatN, ↓r_RepN, ↓r_No, ↓r_So, ↓r_Sl, ↓r_One, ↓r_Len, ↓r_Int1, ↓r_Int, ↓r_Sum, ↓r_Max, ↓r_All, ↓r_Min2, ↓r_Isi, ↓r_Repr, ↓r_TupOf, ↓r_LstOf, ↓r_Rd, ↓r_Rn, ↓r_Nm, ↓r_Gnil, ↓r_Gcons, ↓r_Gtup, ↓r_Glst, ↓r_Next, ↓r_Seq, ↓r_Cut, ↓r_Never, ↓r_Brk, ↓r_Cnt, ↓r_Drop, ↓r_Ret, ↓r_RetN, ↓r_IfS, ↓r_Set, ↓r_Asg, ↓r_Aug, ↓r_App, ↓r_Par, ↓r_Par3, ↓r_SeqI, ↓r_Rg1, ↓r_Rg2, ↓r_EnT, ↓r_For, ↓r_While, ↓r_Yes, ↓r_Lc, ↓r_Call, ↓r_CallF, ↓r_EqA, ↓r_asD, ↓r_seqOf, ↓r_dataOf, ↓r_isOw, ↓r_Ix, ↓r_Sub, ixx_some, at_0, at_1, at_2, at_3, at_4, ix_40, ix_41, ix_42, ix_43, RV.sl, b2n, Pu.isNon, notRaw, endP, endF, endL, slots0, wipeE, wipeL, List.map_cons, List.map_nil, List.length_cons, List.length_nil, decide_eq_true_eq, decide_true, decide_false, List.cons_append, List.nil_append, List.append_nil, List.replicate_succ, List.replicate_zero, List.getElem?_cons_zero, List.getElem?_cons_succ, List.set_cons_zero, List.set_cons_succ, Option.isSome_some, ite_true, ite_false, Bool.false_eq_true, true_and, and_true, if_true, if_false, Nat.reduceSub, Nat.reduceAdd, Nat.reduceLT, Bool.not_true, Bool.not_false, reduceIte, eq_self, okC_int, okC_bl, okC_lnil, eqD_lnil, okC_tI, okC_lI, eqD_int, eqD_bl, eqD_tups, eqD_lsts, isTy_int_int, isTy_int_bool, isTy_int_tuple, isTy_tup_tuple, isTy_tup_int, isTy_str_str, isTy_bl_int, isTy_bl_bool, List.length_map, List.length_range, ↓r_Rg3, ↓r_St, ↓r_Dc, ↓r_Dg, ↓r_In, ↓r_IxN, ↓r_Ss, ↓r_IsB, ↓sd__law_draw, ↓sd__law_turn, ↓sd__law_mirror, ↓sd__law_voice]
        refine ⟨_, ixN_in a0 (by omega), ?_⟩
        try simp only [↓r_V, ↓r_C, ↓r_Op, ↓r_B, ↓r_Chain, ↓r_And, ↓r_Or, ↓r_Not, ↓r_AndV, ↓r_OrV, ↓r_NotV, ↓r_If, ↓r_Un, ↓r_Add, ↓r_I, ↓r_I0, ↓r_Mul, ↓r_Eq, ↓r_Is, ↓r_Nil, ↓r_Cons, ↓r_Tup, ↓r_N, ↓r_CatN, ↓r_RepN, ↓r_No, ↓r_So, ↓r_Sl, ↓r_One, ↓r_Len, ↓r_Int1, ↓r_Int, ↓r_Sum, ↓r_Max, ↓r_All, ↓r_Min2, ↓r_Isi, ↓r_Repr, ↓r_TupOf, ↓r_LstOf, ↓r_Rd, ↓r_Rn, ↓r_Nm, ↓r_Gnil, ↓r_Gcons, ↓r_Gtup, ↓r_Glst, ↓r_Next, ↓r_Seq, ↓r_Cut, ↓r_Never, ↓r_Brk, ↓r_Cnt, ↓r_Drop, ↓r_Ret, ↓r_RetN, ↓r_IfS, ↓r_Set, ↓r_Asg, ↓r_Aug, ↓r_App, ↓r_Par, ↓r_Par3, ↓r_SeqI, ↓r_Rg1, ↓r_Rg2, ↓r_EnT, ↓r_For, ↓r_While, ↓r_Yes, ↓r_Lc, ↓r_Call, ↓r_CallF, ↓r_EqA, ↓r_asD, ↓r_seqOf, ↓r_dataOf, ↓r_isOw, ↓r_Ix, ↓r_Sub, ixx_some, at_0, at_1, at_2, at_3, at_4, ix_40, ix_41, ix_42, ix_43, RV.sl, b2n, Pu.isNon, notRaw, endP, endF, endL, slots0, wipeE, wipeL, List.map_cons, List.map_nil, List.length_cons, List.length_nil, decide_eq_true_eq, decide_true, decide_false, List.cons_append, List.nil_append, List.append_nil, List.replicate_succ, List.replicate_zero, List.getElem?_cons_zero, List.getElem?_cons_succ, List.set_cons_zero, List.set_cons_succ, Option.isSome_some, ite_true, ite_false, Bool.false_eq_true, true_and, and_true, if_true, if_false, Nat.reduceSub, Nat.reduceAdd, Nat.reduceLT, Bool.not_true, Bool.not_false, reduceIte, eq_self, okC_int, okC_bl, okC_lnil, eqD_lnil, okC_tI, okC_lI, eqD_int, eqD_bl, eqD_tups, eqD_lsts, isTy_int_int, isTy_int_bool, isTy_int_tuple, isTy_tup_tuple, isTy_tup_int, isTy_str_str, isTy_bl_int, isTy_bl_bool, List.length_map, List.length_range, ↓r_Rg3, ↓r_St, ↓r_Dc, ↓r_Dg, ↓r_In, ↓r_IxN, ↓r_Ss, ↓r_IsB, ↓sd__law_draw, ↓sd__law_turn, ↓sd__law_mirror, ↓sd__law_voice]
        rw [set_ints]
        try simp only [↓r_V, ↓r_C, ↓r_Op, ↓r_B, ↓r_Chain, ↓r_And, ↓r_Or, ↓r_Not, ↓r_AndV, ↓r_OrV, ↓r_NotV, ↓r_If, ↓r_Un, ↓r_Add, ↓r_I, ↓r_I0, ↓r_Mul, ↓r_Eq, ↓r_Is, ↓r_Nil, ↓r_Cons, ↓r_Tup, ↓r_N, ↓r_CatN, ↓r_RepN, ↓r_No, ↓r_So, ↓r_Sl, ↓r_One, ↓r_Len, ↓r_Int1, ↓r_Int, ↓r_Sum, ↓r_Max, ↓r_All, ↓r_Min2, ↓r_Isi, ↓r_Repr, ↓r_TupOf, ↓r_LstOf, ↓r_Rd, ↓r_Rn, ↓r_Nm, ↓r_Gnil, ↓r_Gcons, ↓r_Gtup, ↓r_Glst, ↓r_Next, ↓r_Seq, ↓r_Cut, ↓r_Never, ↓r_Brk, ↓r_Cnt, ↓r_Drop, ↓r_Ret, ↓r_RetN, ↓r_IfS, ↓r_Set, ↓r_Asg, ↓r_Aug, ↓r_App, ↓r_Par, ↓r_Par3, ↓r_SeqI, ↓r_Rg1, ↓r_Rg2, ↓r_EnT, ↓r_For, ↓r_While, ↓r_Yes, ↓r_Lc, ↓r_Call, ↓r_CallF, ↓r_EqA, ↓r_asD, ↓r_seqOf, ↓r_dataOf, ↓r_isOw, ↓r_Ix, ↓r_Sub, ixx_some, at_0, at_1, at_2, at_3, at_4, ix_40, ix_41, ix_42, ix_43, RV.sl, b2n, Pu.isNon, notRaw, endP, endF, endL, slots0, wipeE, wipeL, List.map_cons, List.map_nil, List.length_cons, List.length_nil, decide_eq_true_eq, decide_true, decide_false, List.cons_append, List.nil_append, List.append_nil, List.replicate_succ, List.replicate_zero, List.getElem?_cons_zero, List.getElem?_cons_succ, List.set_cons_zero, List.set_cons_succ, Option.isSome_some, ite_true, ite_false, Bool.false_eq_true, true_and, and_true, if_true, if_false, Nat.reduceSub, Nat.reduceAdd, Nat.reduceLT, Bool.not_true, Bool.not_false, reduceIte, eq_self, okC_int, okC_bl, okC_lnil, eqD_lnil, okC_tI, okC_lI, eqD_int, eqD_bl, eqD_tups, eqD_lsts, isTy_int_int, isTy_int_bool, isTy_int_tuple, isTy_tup_tuple, isTy_tup_int, isTy_str_str, isTy_bl_int, isTy_bl_bool, List.length_map, List.length_range, ↓r_Rg3, ↓r_St, ↓r_Dc, ↓r_Dg, ↓r_In, ↓r_IxN, ↓r_Ss, ↓r_IsB, ↓sd__law_draw, ↓sd__law_turn, ↓sd__law_mirror, ↓sd__law_voice]
        exact h _ _ (by rw [List.length_set, lz]) (bs _ _ (by omega) (by omega)) (by omega)
      split
      · refine ⟨_, atI_per b0 (by omega), _, atI_per a0 (by omega), ?_⟩
        try simp only [↓r_V, ↓r_C, ↓r_Op, ↓r_B, ↓r_Chain, ↓r_And, ↓r_Or, ↓r_Not, ↓r_AndV, ↓r_OrV, ↓r_NotV, ↓r_If, ↓r_Un, ↓r_Add, ↓r_I, ↓r_I0, ↓r_Mul, ↓r_Eq, ↓r_Is, ↓r_Nil, ↓r_Cons, ↓r_Tup, ↓r_N, ↓r_CatN, ↓r_RepN, ↓r_No, ↓r_So, ↓r_Sl, ↓r_One, ↓r_Len, ↓r_Int1, ↓r_Int, ↓r_Sum, ↓r_Max, ↓r_All, ↓r_Min2, ↓r_Isi, ↓r_Repr, ↓r_TupOf, ↓r_LstOf, ↓r_Rd, ↓r_Rn, ↓r_Nm, ↓r_Gnil, ↓r_Gcons, ↓r_Gtup, ↓r_Glst, ↓r_Next, ↓r_Seq, ↓r_Cut, ↓r_Never, ↓r_Brk, ↓r_Cnt, ↓r_Drop, ↓r_Ret, ↓r_RetN, ↓r_IfS, ↓r_Set, ↓r_Asg, ↓r_Aug, ↓r_App, ↓r_Par, ↓r_Par3, ↓r_SeqI, ↓r_Rg1, ↓r_Rg2, ↓r_EnT, ↓r_For, ↓r_While, ↓r_Yes, ↓r_Lc, ↓r_Call, ↓r_CallF, ↓r_EqA, ↓r_asD, ↓r_seqOf, ↓r_dataOf, ↓r_isOw, ↓r_Ix, ↓r_Sub, ixx_some, at_0, at_1, at_2, at_3, at_4, ix_40, ix_41, ix_42, ix_43, RV.sl, b2n, Pu.isNon, notRaw, endP, endF, endL, slots0, wipeE, wipeL, List.map_cons, List.map_nil, List.length_cons, List.length_nil, decide_eq_true_eq, decide_true, decide_false, List.cons_append, List.nil_append, List.append_nil, List.replicate_succ, List.replicate_zero, List.getElem?_cons_zero, List.getElem?_cons_succ, List.set_cons_zero, List.set_cons_succ, Option.isSome_some, ite_true, ite_false, Bool.false_eq_true, true_and, and_true, if_true, if_false, Nat.reduceSub, Nat.reduceAdd, Nat.reduceLT, Bool.not_true, Bool.not_false, reduceIte, eq_self, okC_int, okC_bl, okC_lnil, eqD_lnil, okC_tI, okC_lI, eqD_int, eqD_bl, eqD_tups, eqD_lsts, isTy_int_int, isTy_int_bool, isTy_int_tuple, isTy_tup_tuple, isTy_tup_int, isTy_str_str, isTy_bl_int, isTy_bl_bool, List.length_map, List.length_range, ↓r_Rg3, ↓r_St, ↓r_Dc, ↓r_Dg, ↓r_In, ↓r_IxN, ↓r_Ss, ↓r_IsB, ↓sd__law_draw, ↓sd__law_turn, ↓sd__law_mirror, ↓sd__law_voice]
        refine ⟨_, ixN_in a0 (by omega), ?_⟩
        try simp only [↓r_V, ↓r_C, ↓r_Op, ↓r_B, ↓r_Chain, ↓r_And, ↓r_Or, ↓r_Not, ↓r_AndV, ↓r_OrV, ↓r_NotV, ↓r_If, ↓r_Un, ↓r_Add, ↓r_I, ↓r_I0, ↓r_Mul, ↓r_Eq, ↓r_Is, ↓r_Nil, ↓r_Cons, ↓r_Tup, ↓r_N, ↓r_CatN, ↓r_RepN, ↓r_No, ↓r_So, ↓r_Sl, ↓r_One, ↓r_Len, ↓r_Int1, ↓r_Int, ↓r_Sum, ↓r_Max, ↓r_All, ↓r_Min2, ↓r_Isi, ↓r_Repr, ↓r_TupOf, ↓r_LstOf, ↓r_Rd, ↓r_Rn, ↓r_Nm, ↓r_Gnil, ↓r_Gcons, ↓r_Gtup, ↓r_Glst, ↓r_Next, ↓r_Seq, ↓r_Cut, ↓r_Never, ↓r_Brk, ↓r_Cnt, ↓r_Drop, ↓r_Ret, ↓r_RetN, ↓r_IfS, ↓r_Set, ↓r_Asg, ↓r_Aug, ↓r_App, ↓r_Par, ↓r_Par3, ↓r_SeqI, ↓r_Rg1, ↓r_Rg2, ↓r_EnT, ↓r_For, ↓r_While, ↓r_Yes, ↓r_Lc, ↓r_Call, ↓r_CallF, ↓r_EqA, ↓r_asD, ↓r_seqOf, ↓r_dataOf, ↓r_isOw, ↓r_Ix, ↓r_Sub, ixx_some, at_0, at_1, at_2, at_3, at_4, ix_40, ix_41, ix_42, ix_43, RV.sl, b2n, Pu.isNon, notRaw, endP, endF, endL, slots0, wipeE, wipeL, List.map_cons, List.map_nil, List.length_cons, List.length_nil, decide_eq_true_eq, decide_true, decide_false, List.cons_append, List.nil_append, List.append_nil, List.replicate_succ, List.replicate_zero, List.getElem?_cons_zero, List.getElem?_cons_succ, List.set_cons_zero, List.set_cons_succ, Option.isSome_some, ite_true, ite_false, Bool.false_eq_true, true_and, and_true, if_true, if_false, Nat.reduceSub, Nat.reduceAdd, Nat.reduceLT, Bool.not_true, Bool.not_false, reduceIte, eq_self, okC_int, okC_bl, okC_lnil, eqD_lnil, okC_tI, okC_lI, eqD_int, eqD_bl, eqD_tups, eqD_lsts, isTy_int_int, isTy_int_bool, isTy_int_tuple, isTy_tup_tuple, isTy_tup_int, isTy_str_str, isTy_bl_int, isTy_bl_bool, List.length_map, List.length_range, ↓r_Rg3, ↓r_St, ↓r_Dc, ↓r_Dg, ↓r_In, ↓r_IxN, ↓r_Ss, ↓r_IsB, ↓sd__law_draw, ↓sd__law_turn, ↓sd__law_mirror, ↓sd__law_voice]
        rw [set_ints]
        try simp only [↓r_V, ↓r_C, ↓r_Op, ↓r_B, ↓r_Chain, ↓r_And, ↓r_Or, ↓r_Not, ↓r_AndV, ↓r_OrV, ↓r_NotV, ↓r_If, ↓r_Un, ↓r_Add, ↓r_I, ↓r_I0, ↓r_Mul, ↓r_Eq, ↓r_Is, ↓r_Nil, ↓r_Cons, ↓r_Tup, ↓r_N, ↓r_CatN, ↓r_RepN, ↓r_No, ↓r_So, ↓r_Sl, ↓r_One, ↓r_Len, ↓r_Int1, ↓r_Int, ↓r_Sum, ↓r_Max, ↓r_All, ↓r_Min2, ↓r_Isi, ↓r_Repr, ↓r_TupOf, ↓r_LstOf, ↓r_Rd, ↓r_Rn, ↓r_Nm, ↓r_Gnil, ↓r_Gcons, ↓r_Gtup, ↓r_Glst, ↓r_Next, ↓r_Seq, ↓r_Cut, ↓r_Never, ↓r_Brk, ↓r_Cnt, ↓r_Drop, ↓r_Ret, ↓r_RetN, ↓r_IfS, ↓r_Set, ↓r_Asg, ↓r_Aug, ↓r_App, ↓r_Par, ↓r_Par3, ↓r_SeqI, ↓r_Rg1, ↓r_Rg2, ↓r_EnT, ↓r_For, ↓r_While, ↓r_Yes, ↓r_Lc, ↓r_Call, ↓r_CallF, ↓r_EqA, ↓r_asD, ↓r_seqOf, ↓r_dataOf, ↓r_isOw, ↓r_Ix, ↓r_Sub, ixx_some, at_0, at_1, at_2, at_3, at_4, ix_40, ix_41, ix_42, ix_43, RV.sl, b2n, Pu.isNon, notRaw, endP, endF, endL, slots0, wipeE, wipeL, List.map_cons, List.map_nil, List.length_cons, List.length_nil, decide_eq_true_eq, decide_true, decide_false, List.cons_append, List.nil_append, List.append_nil, List.replicate_succ, List.replicate_zero, List.getElem?_cons_zero, List.getElem?_cons_succ, List.set_cons_zero, List.set_cons_succ, Option.isSome_some, ite_true, ite_false, Bool.false_eq_true, true_and, and_true, if_true, if_false, Nat.reduceSub, Nat.reduceAdd, Nat.reduceLT, Bool.not_true, Bool.not_false, reduceIte, eq_self, okC_int, okC_bl, okC_lnil, eqD_lnil, okC_tI, okC_lI, eqD_int, eqD_bl, eqD_tups, eqD_lsts, isTy_int_int, isTy_int_bool, isTy_int_tuple, isTy_tup_tuple, isTy_tup_int, isTy_str_str, isTy_bl_int, isTy_bl_bool, List.length_map, List.length_range, ↓r_Rg3, ↓r_St, ↓r_Dc, ↓r_Dg, ↓r_In, ↓r_IxN, ↓r_Ss, ↓r_IsB, ↓sd__law_draw, ↓sd__law_turn, ↓sd__law_mirror, ↓sd__law_voice]
        refine ⟨_, ixN_in b0 (by rw [List.length_set]; omega), ?_⟩
        try simp only [↓r_V, ↓r_C, ↓r_Op, ↓r_B, ↓r_Chain, ↓r_And, ↓r_Or, ↓r_Not, ↓r_AndV, ↓r_OrV, ↓r_NotV, ↓r_If, ↓r_Un, ↓r_Add, ↓r_I, ↓r_I0, ↓r_Mul, ↓r_Eq, ↓r_Is, ↓r_Nil, ↓r_Cons, ↓r_Tup, ↓r_N, ↓r_CatN, ↓r_RepN, ↓r_No, ↓r_So, ↓r_Sl, ↓r_One, ↓r_Len, ↓r_Int1, ↓r_Int, ↓r_Sum, ↓r_Max, ↓r_All, ↓r_Min2, ↓r_Isi, ↓r_Repr, ↓r_TupOf, ↓r_LstOf, ↓r_Rd, ↓r_Rn, ↓r_Nm, ↓r_Gnil, ↓r_Gcons, ↓r_Gtup, ↓r_Glst, ↓r_Next, ↓r_Seq, ↓r_Cut, ↓r_Never, ↓r_Brk, ↓r_Cnt, ↓r_Drop, ↓r_Ret, ↓r_RetN, ↓r_IfS, ↓r_Set, ↓r_Asg, ↓r_Aug, ↓r_App, ↓r_Par, ↓r_Par3, ↓r_SeqI, ↓r_Rg1, ↓r_Rg2, ↓r_EnT, ↓r_For, ↓r_While, ↓r_Yes, ↓r_Lc, ↓r_Call, ↓r_CallF, ↓r_EqA, ↓r_asD, ↓r_seqOf, ↓r_dataOf, ↓r_isOw, ↓r_Ix, ↓r_Sub, ixx_some, at_0, at_1, at_2, at_3, at_4, ix_40, ix_41, ix_42, ix_43, RV.sl, b2n, Pu.isNon, notRaw, endP, endF, endL, slots0, wipeE, wipeL, List.map_cons, List.map_nil, List.length_cons, List.length_nil, decide_eq_true_eq, decide_true, decide_false, List.cons_append, List.nil_append, List.append_nil, List.replicate_succ, List.replicate_zero, List.getElem?_cons_zero, List.getElem?_cons_succ, List.set_cons_zero, List.set_cons_succ, Option.isSome_some, ite_true, ite_false, Bool.false_eq_true, true_and, and_true, if_true, if_false, Nat.reduceSub, Nat.reduceAdd, Nat.reduceLT, Bool.not_true, Bool.not_false, reduceIte, eq_self, okC_int, okC_bl, okC_lnil, eqD_lnil, okC_tI, okC_lI, eqD_int, eqD_bl, eqD_tups, eqD_lsts, isTy_int_int, isTy_int_bool, isTy_int_tuple, isTy_tup_tuple, isTy_tup_int, isTy_str_str, isTy_bl_int, isTy_bl_bool, List.length_map, List.length_range, ↓r_Rg3, ↓r_St, ↓r_Dc, ↓r_Dg, ↓r_In, ↓r_IxN, ↓r_Ss, ↓r_IsB, ↓sd__law_draw, ↓sd__law_turn, ↓sd__law_mirror, ↓sd__law_voice]
        rw [set_ints]
        try simp only [↓r_V, ↓r_C, ↓r_Op, ↓r_B, ↓r_Chain, ↓r_And, ↓r_Or, ↓r_Not, ↓r_AndV, ↓r_OrV, ↓r_NotV, ↓r_If, ↓r_Un, ↓r_Add, ↓r_I, ↓r_I0, ↓r_Mul, ↓r_Eq, ↓r_Is, ↓r_Nil, ↓r_Cons, ↓r_Tup, ↓r_N, ↓r_CatN, ↓r_RepN, ↓r_No, ↓r_So, ↓r_Sl, ↓r_One, ↓r_Len, ↓r_Int1, ↓r_Int, ↓r_Sum, ↓r_Max, ↓r_All, ↓r_Min2, ↓r_Isi, ↓r_Repr, ↓r_TupOf, ↓r_LstOf, ↓r_Rd, ↓r_Rn, ↓r_Nm, ↓r_Gnil, ↓r_Gcons, ↓r_Gtup, ↓r_Glst, ↓r_Next, ↓r_Seq, ↓r_Cut, ↓r_Never, ↓r_Brk, ↓r_Cnt, ↓r_Drop, ↓r_Ret, ↓r_RetN, ↓r_IfS, ↓r_Set, ↓r_Asg, ↓r_Aug, ↓r_App, ↓r_Par, ↓r_Par3, ↓r_SeqI, ↓r_Rg1, ↓r_Rg2, ↓r_EnT, ↓r_For, ↓r_While, ↓r_Yes, ↓r_Lc, ↓r_Call, ↓r_CallF, ↓r_EqA, ↓r_asD, ↓r_seqOf, ↓r_dataOf, ↓r_isOw, ↓r_Ix, ↓r_Sub, ixx_some, at_0, at_1, at_2, at_3, at_4, ix_40, ix_41, ix_42, ix_43, RV.sl, b2n, Pu.isNon, notRaw, endP, endF, endL, slots0, wipeE, wipeL, List.map_cons, List.map_nil, List.length_cons, List.length_nil, decide_eq_true_eq, decide_true, decide_false, List.cons_append, List.nil_append, List.append_nil, List.replicate_succ, List.replicate_zero, List.getElem?_cons_zero, List.getElem?_cons_succ, List.set_cons_zero, List.set_cons_succ, Option.isSome_some, ite_true, ite_false, Bool.false_eq_true, true_and, and_true, if_true, if_false, Nat.reduceSub, Nat.reduceAdd, Nat.reduceLT, Bool.not_true, Bool.not_false, reduceIte, eq_self, okC_int, okC_bl, okC_lnil, eqD_lnil, okC_tI, okC_lI, eqD_int, eqD_bl, eqD_tups, eqD_lsts, isTy_int_int, isTy_int_bool, isTy_int_tuple, isTy_tup_tuple, isTy_tup_int, isTy_str_str, isTy_bl_int, isTy_bl_bool, List.length_map, List.length_range, ↓r_Rg3, ↓r_St, ↓r_Dc, ↓r_Dg, ↓r_In, ↓r_IxN, ↓r_Ss, ↓r_IsB, ↓sd__law_draw, ↓sd__law_turn, ↓sd__law_mirror, ↓sd__law_voice]
        exact h _ _ (by rw [List.length_set, List.length_set, lz]) (fun x hx => by
          rcases List.mem_or_eq_of_mem_set hx with z | z
          · exact bs _ _ (by omega) (by omega) x z
          · omega) (by omega)
      split
      · refine ⟨5, rfl, by decide, by decide, by omega, fun q _ _ => ⟨xs.length, q, rfl, h0, by omega, by omega, fun ys B2 ly by_ hB2 => ?_⟩⟩
        exact h _ _ ly by_.bd (by omega)
      exact h _ _ lz bz.bd (by omega)
    · refine ⟨xs.length, rfl, by omega, by omega, by omega, fun r r0 r1 => ⟨xs, r, rfl, by omega, by omega, xs.length, rfl, by omega, by omega, by omega, fun a a0 a1 => ⟨xs.length, rfl, by omega, by omega, by omega, fun b b0 b1 => ?_⟩⟩⟩
      obtain ⟨zs, ez⟩ : ∃ zs, turnV (xs) r = zs := ⟨_, rfl⟩
      rw [ez]
      have lz : zs.length = xs.length := by rw [← ez, turn_len]
      have bz : Bq zs := by rw [← ez]; exact bq_of fun i => bq_per bx _
      clear ez
      have bs : ∀ (j : Nat) (v : Int), -50 ≤ v → v ≤ 50 → Bd 6 (zs.set j v) := fun j v v0 v1 x hx => by
        rcases List.mem_or_eq_of_mem_set hx with z | z
        · have := bz x z; omega
        · omega
      have ba := bq_per bz a
      have bb := bq_per bz b
      split
      · refine ⟨_, atI_per a0 (by omega), ?_⟩
        try simp only [↓r_V, ↓r_C, ↓r_Op, ↓r_B, ↓r_Chain, ↓r_And, ↓r_Or, ↓r_Not, ↓r_AndV, ↓r_OrV, ↓r_NotV, ↓r_If, ↓r_Un, ↓r_Add, ↓r_I, ↓r_I0, ↓r_Mul, ↓r_Eq, ↓r_Is, ↓r_Nil, ↓r_Cons, ↓r_Tup, ↓r_N, ↓r_CatN, ↓r_RepN, ↓r_No, ↓r_So, ↓r_Sl, ↓r_One, ↓r_Len, ↓r_Int1, ↓r_Int, ↓r_Sum, ↓r_Max, ↓r_All, ↓r_Min2, ↓r_Isi, ↓r_Repr, ↓r_TupOf, ↓r_LstOf, ↓r_Rd, ↓r_Rn, ↓r_Nm, ↓r_Gnil, ↓r_Gcons, ↓r_Gtup, ↓r_Glst, ↓r_Next, ↓r_Seq, ↓r_Cut, ↓r_Never, ↓r_Brk, ↓r_Cnt, ↓r_Drop, ↓r_Ret, ↓r_RetN, ↓r_IfS, ↓r_Set, ↓r_Asg, ↓r_Aug, ↓r_App, ↓r_Par, ↓r_Par3, ↓r_SeqI, ↓r_Rg1, ↓r_Rg2, ↓r_EnT, ↓r_For, ↓r_While, ↓r_Yes, ↓r_Lc, ↓r_Call, ↓r_CallF, ↓r_EqA, ↓r_asD, ↓r_seqOf, ↓r_dataOf, ↓r_isOw, ↓r_Ix, ↓r_Sub, ixx_some, at_0, at_1, at_2, at_3, at_4, ix_40, ix_41, ix_42, ix_43, RV.sl, b2n, Pu.isNon, notRaw, endP, endF, endL, slots0, wipeE, wipeL, List.map_cons, List.map_nil, List.length_cons, List.length_nil, decide_eq_true_eq, decide_true, decide_false, List.cons_append, List.nil_append, List.append_nil, List.replicate_succ, List.replicate_zero, List.getElem?_cons_zero, List.getElem?_cons_succ, List.set_cons_zero, List.set_cons_succ, Option.isSome_some, ite_true, ite_false, Bool.false_eq_true, true_and, and_true, if_true, if_false, Nat.reduceSub, Nat.reduceAdd, Nat.reduceLT, Bool.not_true, Bool.not_false, reduceIte, eq_self, okC_int, okC_bl, okC_lnil, eqD_lnil, okC_tI, okC_lI, eqD_int, eqD_bl, eqD_tups, eqD_lsts, isTy_int_int, isTy_int_bool, isTy_int_tuple, isTy_tup_tuple, isTy_tup_int, isTy_str_str, isTy_bl_int, isTy_bl_bool, List.length_map, List.length_range, ↓r_Rg3, ↓r_St, ↓r_Dc, ↓r_Dg, ↓r_In, ↓r_IxN, ↓r_Ss, ↓r_IsB, ↓sd__law_draw, ↓sd__law_turn, ↓sd__law_mirror, ↓sd__law_voice]
        refine ⟨_, ixN_in a0 (by omega), ?_⟩
        try simp only [↓r_V, ↓r_C, ↓r_Op, ↓r_B, ↓r_Chain, ↓r_And, ↓r_Or, ↓r_Not, ↓r_AndV, ↓r_OrV, ↓r_NotV, ↓r_If, ↓r_Un, ↓r_Add, ↓r_I, ↓r_I0, ↓r_Mul, ↓r_Eq, ↓r_Is, ↓r_Nil, ↓r_Cons, ↓r_Tup, ↓r_N, ↓r_CatN, ↓r_RepN, ↓r_No, ↓r_So, ↓r_Sl, ↓r_One, ↓r_Len, ↓r_Int1, ↓r_Int, ↓r_Sum, ↓r_Max, ↓r_All, ↓r_Min2, ↓r_Isi, ↓r_Repr, ↓r_TupOf, ↓r_LstOf, ↓r_Rd, ↓r_Rn, ↓r_Nm, ↓r_Gnil, ↓r_Gcons, ↓r_Gtup, ↓r_Glst, ↓r_Next, ↓r_Seq, ↓r_Cut, ↓r_Never, ↓r_Brk, ↓r_Cnt, ↓r_Drop, ↓r_Ret, ↓r_RetN, ↓r_IfS, ↓r_Set, ↓r_Asg, ↓r_Aug, ↓r_App, ↓r_Par, ↓r_Par3, ↓r_SeqI, ↓r_Rg1, ↓r_Rg2, ↓r_EnT, ↓r_For, ↓r_While, ↓r_Yes, ↓r_Lc, ↓r_Call, ↓r_CallF, ↓r_EqA, ↓r_asD, ↓r_seqOf, ↓r_dataOf, ↓r_isOw, ↓r_Ix, ↓r_Sub, ixx_some, at_0, at_1, at_2, at_3, at_4, ix_40, ix_41, ix_42, ix_43, RV.sl, b2n, Pu.isNon, notRaw, endP, endF, endL, slots0, wipeE, wipeL, List.map_cons, List.map_nil, List.length_cons, List.length_nil, decide_eq_true_eq, decide_true, decide_false, List.cons_append, List.nil_append, List.append_nil, List.replicate_succ, List.replicate_zero, List.getElem?_cons_zero, List.getElem?_cons_succ, List.set_cons_zero, List.set_cons_succ, Option.isSome_some, ite_true, ite_false, Bool.false_eq_true, true_and, and_true, if_true, if_false, Nat.reduceSub, Nat.reduceAdd, Nat.reduceLT, Bool.not_true, Bool.not_false, reduceIte, eq_self, okC_int, okC_bl, okC_lnil, eqD_lnil, okC_tI, okC_lI, eqD_int, eqD_bl, eqD_tups, eqD_lsts, isTy_int_int, isTy_int_bool, isTy_int_tuple, isTy_tup_tuple, isTy_tup_int, isTy_str_str, isTy_bl_int, isTy_bl_bool, List.length_map, List.length_range, ↓r_Rg3, ↓r_St, ↓r_Dc, ↓r_Dg, ↓r_In, ↓r_IxN, ↓r_Ss, ↓r_IsB, ↓sd__law_draw, ↓sd__law_turn, ↓sd__law_mirror, ↓sd__law_voice]
        rw [set_ints]
        try simp only [↓r_V, ↓r_C, ↓r_Op, ↓r_B, ↓r_Chain, ↓r_And, ↓r_Or, ↓r_Not, ↓r_AndV, ↓r_OrV, ↓r_NotV, ↓r_If, ↓r_Un, ↓r_Add, ↓r_I, ↓r_I0, ↓r_Mul, ↓r_Eq, ↓r_Is, ↓r_Nil, ↓r_Cons, ↓r_Tup, ↓r_N, ↓r_CatN, ↓r_RepN, ↓r_No, ↓r_So, ↓r_Sl, ↓r_One, ↓r_Len, ↓r_Int1, ↓r_Int, ↓r_Sum, ↓r_Max, ↓r_All, ↓r_Min2, ↓r_Isi, ↓r_Repr, ↓r_TupOf, ↓r_LstOf, ↓r_Rd, ↓r_Rn, ↓r_Nm, ↓r_Gnil, ↓r_Gcons, ↓r_Gtup, ↓r_Glst, ↓r_Next, ↓r_Seq, ↓r_Cut, ↓r_Never, ↓r_Brk, ↓r_Cnt, ↓r_Drop, ↓r_Ret, ↓r_RetN, ↓r_IfS, ↓r_Set, ↓r_Asg, ↓r_Aug, ↓r_App, ↓r_Par, ↓r_Par3, ↓r_SeqI, ↓r_Rg1, ↓r_Rg2, ↓r_EnT, ↓r_For, ↓r_While, ↓r_Yes, ↓r_Lc, ↓r_Call, ↓r_CallF, ↓r_EqA, ↓r_asD, ↓r_seqOf, ↓r_dataOf, ↓r_isOw, ↓r_Ix, ↓r_Sub, ixx_some, at_0, at_1, at_2, at_3, at_4, ix_40, ix_41, ix_42, ix_43, RV.sl, b2n, Pu.isNon, notRaw, endP, endF, endL, slots0, wipeE, wipeL, List.map_cons, List.map_nil, List.length_cons, List.length_nil, decide_eq_true_eq, decide_true, decide_false, List.cons_append, List.nil_append, List.append_nil, List.replicate_succ, List.replicate_zero, List.getElem?_cons_zero, List.getElem?_cons_succ, List.set_cons_zero, List.set_cons_succ, Option.isSome_some, ite_true, ite_false, Bool.false_eq_true, true_and, and_true, if_true, if_false, Nat.reduceSub, Nat.reduceAdd, Nat.reduceLT, Bool.not_true, Bool.not_false, reduceIte, eq_self, okC_int, okC_bl, okC_lnil, eqD_lnil, okC_tI, okC_lI, eqD_int, eqD_bl, eqD_tups, eqD_lsts, isTy_int_int, isTy_int_bool, isTy_int_tuple, isTy_tup_tuple, isTy_tup_int, isTy_str_str, isTy_bl_int, isTy_bl_bool, List.length_map, List.length_range, ↓r_Rg3, ↓r_St, ↓r_Dc, ↓r_Dg, ↓r_In, ↓r_IxN, ↓r_Ss, ↓r_IsB, ↓sd__law_draw, ↓sd__law_turn, ↓sd__law_mirror, ↓sd__law_voice]
        exact h _ _ (by rw [List.length_set, lz]) (bs _ _ (by omega) (by omega)) (by omega)
      split
      · refine ⟨_, atI_per a0 (by omega), ?_⟩
        try simp only [↓r_V, ↓r_C, ↓r_Op, ↓r_B, ↓r_Chain, ↓r_And, ↓r_Or, ↓r_Not, ↓r_AndV, ↓r_OrV, ↓r_NotV, ↓r_If, ↓r_Un, ↓r_Add, ↓r_I, ↓r_I0, ↓r_Mul, ↓r_Eq, ↓r_Is, ↓r_Nil, ↓r_Cons, ↓r_Tup, ↓r_N, ↓r_CatN, ↓r_RepN, ↓r_No, ↓r_So, ↓r_Sl, ↓r_One, ↓r_Len, ↓r_Int1, ↓r_Int, ↓r_Sum, ↓r_Max, ↓r_All, ↓r_Min2, ↓r_Isi, ↓r_Repr, ↓r_TupOf, ↓r_LstOf, ↓r_Rd, ↓r_Rn, ↓r_Nm, ↓r_Gnil, ↓r_Gcons, ↓r_Gtup, ↓r_Glst, ↓r_Next, ↓r_Seq, ↓r_Cut, ↓r_Never, ↓r_Brk, ↓r_Cnt, ↓r_Drop, ↓r_Ret, ↓r_RetN, ↓r_IfS, ↓r_Set, ↓r_Asg, ↓r_Aug, ↓r_App, ↓r_Par, ↓r_Par3, ↓r_SeqI, ↓r_Rg1, ↓r_Rg2, ↓r_EnT, ↓r_For, ↓r_While, ↓r_Yes, ↓r_Lc, ↓r_Call, ↓r_CallF, ↓r_EqA, ↓r_asD, ↓r_seqOf, ↓r_dataOf, ↓r_isOw, ↓r_Ix, ↓r_Sub, ixx_some, at_0, at_1, at_2, at_3, at_4, ix_40, ix_41, ix_42, ix_43, RV.sl, b2n, Pu.isNon, notRaw, endP, endF, endL, slots0, wipeE, wipeL, List.map_cons, List.map_nil, List.length_cons, List.length_nil, decide_eq_true_eq, decide_true, decide_false, List.cons_append, List.nil_append, List.append_nil, List.replicate_succ, List.replicate_zero, List.getElem?_cons_zero, List.getElem?_cons_succ, List.set_cons_zero, List.set_cons_succ, Option.isSome_some, ite_true, ite_false, Bool.false_eq_true, true_and, and_true, if_true, if_false, Nat.reduceSub, Nat.reduceAdd, Nat.reduceLT, Bool.not_true, Bool.not_false, reduceIte, eq_self, okC_int, okC_bl, okC_lnil, eqD_lnil, okC_tI, okC_lI, eqD_int, eqD_bl, eqD_tups, eqD_lsts, isTy_int_int, isTy_int_bool, isTy_int_tuple, isTy_tup_tuple, isTy_tup_int, isTy_str_str, isTy_bl_int, isTy_bl_bool, List.length_map, List.length_range, ↓r_Rg3, ↓r_St, ↓r_Dc, ↓r_Dg, ↓r_In, ↓r_IxN, ↓r_Ss, ↓r_IsB, ↓sd__law_draw, ↓sd__law_turn, ↓sd__law_mirror, ↓sd__law_voice]
        refine ⟨_, ixN_in a0 (by omega), ?_⟩
        try simp only [↓r_V, ↓r_C, ↓r_Op, ↓r_B, ↓r_Chain, ↓r_And, ↓r_Or, ↓r_Not, ↓r_AndV, ↓r_OrV, ↓r_NotV, ↓r_If, ↓r_Un, ↓r_Add, ↓r_I, ↓r_I0, ↓r_Mul, ↓r_Eq, ↓r_Is, ↓r_Nil, ↓r_Cons, ↓r_Tup, ↓r_N, ↓r_CatN, ↓r_RepN, ↓r_No, ↓r_So, ↓r_Sl, ↓r_One, ↓r_Len, ↓r_Int1, ↓r_Int, ↓r_Sum, ↓r_Max, ↓r_All, ↓r_Min2, ↓r_Isi, ↓r_Repr, ↓r_TupOf, ↓r_LstOf, ↓r_Rd, ↓r_Rn, ↓r_Nm, ↓r_Gnil, ↓r_Gcons, ↓r_Gtup, ↓r_Glst, ↓r_Next, ↓r_Seq, ↓r_Cut, ↓r_Never, ↓r_Brk, ↓r_Cnt, ↓r_Drop, ↓r_Ret, ↓r_RetN, ↓r_IfS, ↓r_Set, ↓r_Asg, ↓r_Aug, ↓r_App, ↓r_Par, ↓r_Par3, ↓r_SeqI, ↓r_Rg1, ↓r_Rg2, ↓r_EnT, ↓r_For, ↓r_While, ↓r_Yes, ↓r_Lc, ↓r_Call, ↓r_CallF, ↓r_EqA, ↓r_asD, ↓r_seqOf, ↓r_dataOf, ↓r_isOw, ↓r_Ix, ↓r_Sub, ixx_some, at_0, at_1, at_2, at_3, at_4, ix_40, ix_41, ix_42, ix_43, RV.sl, b2n, Pu.isNon, notRaw, endP, endF, endL, slots0, wipeE, wipeL, List.map_cons, List.map_nil, List.length_cons, List.length_nil, decide_eq_true_eq, decide_true, decide_false, List.cons_append, List.nil_append, List.append_nil, List.replicate_succ, List.replicate_zero, List.getElem?_cons_zero, List.getElem?_cons_succ, List.set_cons_zero, List.set_cons_succ, Option.isSome_some, ite_true, ite_false, Bool.false_eq_true, true_and, and_true, if_true, if_false, Nat.reduceSub, Nat.reduceAdd, Nat.reduceLT, Bool.not_true, Bool.not_false, reduceIte, eq_self, okC_int, okC_bl, okC_lnil, eqD_lnil, okC_tI, okC_lI, eqD_int, eqD_bl, eqD_tups, eqD_lsts, isTy_int_int, isTy_int_bool, isTy_int_tuple, isTy_tup_tuple, isTy_tup_int, isTy_str_str, isTy_bl_int, isTy_bl_bool, List.length_map, List.length_range, ↓r_Rg3, ↓r_St, ↓r_Dc, ↓r_Dg, ↓r_In, ↓r_IxN, ↓r_Ss, ↓r_IsB, ↓sd__law_draw, ↓sd__law_turn, ↓sd__law_mirror, ↓sd__law_voice]
        rw [set_ints]
        try simp only [↓r_V, ↓r_C, ↓r_Op, ↓r_B, ↓r_Chain, ↓r_And, ↓r_Or, ↓r_Not, ↓r_AndV, ↓r_OrV, ↓r_NotV, ↓r_If, ↓r_Un, ↓r_Add, ↓r_I, ↓r_I0, ↓r_Mul, ↓r_Eq, ↓r_Is, ↓r_Nil, ↓r_Cons, ↓r_Tup, ↓r_N, ↓r_CatN, ↓r_RepN, ↓r_No, ↓r_So, ↓r_Sl, ↓r_One, ↓r_Len, ↓r_Int1, ↓r_Int, ↓r_Sum, ↓r_Max, ↓r_All, ↓r_Min2, ↓r_Isi, ↓r_Repr, ↓r_TupOf, ↓r_LstOf, ↓r_Rd, ↓r_Rn, ↓r_Nm, ↓r_Gnil, ↓r_Gcons, ↓r_Gtup, ↓r_Glst, ↓r_Next, ↓r_Seq, ↓r_Cut, ↓r_Never, ↓r_Brk, ↓r_Cnt, ↓r_Drop, ↓r_Ret, ↓r_RetN, ↓r_IfS, ↓r_Set, ↓r_Asg, ↓r_Aug, ↓r_App, ↓r_Par, ↓r_Par3, ↓r_SeqI, ↓r_Rg1, ↓r_Rg2, ↓r_EnT, ↓r_For, ↓r_While, ↓r_Yes, ↓r_Lc, ↓r_Call, ↓r_CallF, ↓r_EqA, ↓r_asD, ↓r_seqOf, ↓r_dataOf, ↓r_isOw, ↓r_Ix, ↓r_Sub, ixx_some, at_0, at_1, at_2, at_3, at_4, ix_40, ix_41, ix_42, ix_43, RV.sl, b2n, Pu.isNon, notRaw, endP, endF, endL, slots0, wipeE, wipeL, List.map_cons, List.map_nil, List.length_cons, List.length_nil, decide_eq_true_eq, decide_true, decide_false, List.cons_append, List.nil_append, List.append_nil, List.replicate_succ, List.replicate_zero, List.getElem?_cons_zero, List.getElem?_cons_succ, List.set_cons_zero, List.set_cons_succ, Option.isSome_some, ite_true, ite_false, Bool.false_eq_true, true_and, and_true, if_true, if_false, Nat.reduceSub, Nat.reduceAdd, Nat.reduceLT, Bool.not_true, Bool.not_false, reduceIte, eq_self, okC_int, okC_bl, okC_lnil, eqD_lnil, okC_tI, okC_lI, eqD_int, eqD_bl, eqD_tups, eqD_lsts, isTy_int_int, isTy_int_bool, isTy_int_tuple, isTy_tup_tuple, isTy_tup_int, isTy_str_str, isTy_bl_int, isTy_bl_bool, List.length_map, List.length_range, ↓r_Rg3, ↓r_St, ↓r_Dc, ↓r_Dg, ↓r_In, ↓r_IxN, ↓r_Ss, ↓r_IsB, ↓sd__law_draw, ↓sd__law_turn, ↓sd__law_mirror, ↓sd__law_voice]
        exact h _ _ (by rw [List.length_set, lz]) (bs _ _ (by omega) (by omega)) (by omega)
      split
      · refine ⟨_, atI_per b0 (by omega), _, atI_per a0 (by omega), ?_⟩
        try simp only [↓r_V, ↓r_C, ↓r_Op, ↓r_B, ↓r_Chain, ↓r_And, ↓r_Or, ↓r_Not, ↓r_AndV, ↓r_OrV, ↓r_NotV, ↓r_If, ↓r_Un, ↓r_Add, ↓r_I, ↓r_I0, ↓r_Mul, ↓r_Eq, ↓r_Is, ↓r_Nil, ↓r_Cons, ↓r_Tup, ↓r_N, ↓r_CatN, ↓r_RepN, ↓r_No, ↓r_So, ↓r_Sl, ↓r_One, ↓r_Len, ↓r_Int1, ↓r_Int, ↓r_Sum, ↓r_Max, ↓r_All, ↓r_Min2, ↓r_Isi, ↓r_Repr, ↓r_TupOf, ↓r_LstOf, ↓r_Rd, ↓r_Rn, ↓r_Nm, ↓r_Gnil, ↓r_Gcons, ↓r_Gtup, ↓r_Glst, ↓r_Next, ↓r_Seq, ↓r_Cut, ↓r_Never, ↓r_Brk, ↓r_Cnt, ↓r_Drop, ↓r_Ret, ↓r_RetN, ↓r_IfS, ↓r_Set, ↓r_Asg, ↓r_Aug, ↓r_App, ↓r_Par, ↓r_Par3, ↓r_SeqI, ↓r_Rg1, ↓r_Rg2, ↓r_EnT, ↓r_For, ↓r_While, ↓r_Yes, ↓r_Lc, ↓r_Call, ↓r_CallF, ↓r_EqA, ↓r_asD, ↓r_seqOf, ↓r_dataOf, ↓r_isOw, ↓r_Ix, ↓r_Sub, ixx_some, at_0, at_1, at_2, at_3, at_4, ix_40, ix_41, ix_42, ix_43, RV.sl, b2n, Pu.isNon, notRaw, endP, endF, endL, slots0, wipeE, wipeL, List.map_cons, List.map_nil, List.length_cons, List.length_nil, decide_eq_true_eq, decide_true, decide_false, List.cons_append, List.nil_append, List.append_nil, List.replicate_succ, List.replicate_zero, List.getElem?_cons_zero, List.getElem?_cons_succ, List.set_cons_zero, List.set_cons_succ, Option.isSome_some, ite_true, ite_false, Bool.false_eq_true, true_and, and_true, if_true, if_false, Nat.reduceSub, Nat.reduceAdd, Nat.reduceLT, Bool.not_true, Bool.not_false, reduceIte, eq_self, okC_int, okC_bl, okC_lnil, eqD_lnil, okC_tI, okC_lI, eqD_int, eqD_bl, eqD_tups, eqD_lsts, isTy_int_int, isTy_int_bool, isTy_int_tuple, isTy_tup_tuple, isTy_tup_int, isTy_str_str, isTy_bl_int, isTy_bl_bool, List.length_map, List.length_range, ↓r_Rg3, ↓r_St, ↓r_Dc, ↓r_Dg, ↓r_In, ↓r_IxN, ↓r_Ss, ↓r_IsB, ↓sd__law_draw, ↓sd__law_turn, ↓sd__law_mirror, ↓sd__law_voice]
        refine ⟨_, ixN_in a0 (by omega), ?_⟩
        try simp only [↓r_V, ↓r_C, ↓r_Op, ↓r_B, ↓r_Chain, ↓r_And, ↓r_Or, ↓r_Not, ↓r_AndV, ↓r_OrV, ↓r_NotV, ↓r_If, ↓r_Un, ↓r_Add, ↓r_I, ↓r_I0, ↓r_Mul, ↓r_Eq, ↓r_Is, ↓r_Nil, ↓r_Cons, ↓r_Tup, ↓r_N, ↓r_CatN, ↓r_RepN, ↓r_No, ↓r_So, ↓r_Sl, ↓r_One, ↓r_Len, ↓r_Int1, ↓r_Int, ↓r_Sum, ↓r_Max, ↓r_All, ↓r_Min2, ↓r_Isi, ↓r_Repr, ↓r_TupOf, ↓r_LstOf, ↓r_Rd, ↓r_Rn, ↓r_Nm, ↓r_Gnil, ↓r_Gcons, ↓r_Gtup, ↓r_Glst, ↓r_Next, ↓r_Seq, ↓r_Cut, ↓r_Never, ↓r_Brk, ↓r_Cnt, ↓r_Drop, ↓r_Ret, ↓r_RetN, ↓r_IfS, ↓r_Set, ↓r_Asg, ↓r_Aug, ↓r_App, ↓r_Par, ↓r_Par3, ↓r_SeqI, ↓r_Rg1, ↓r_Rg2, ↓r_EnT, ↓r_For, ↓r_While, ↓r_Yes, ↓r_Lc, ↓r_Call, ↓r_CallF, ↓r_EqA, ↓r_asD, ↓r_seqOf, ↓r_dataOf, ↓r_isOw, ↓r_Ix, ↓r_Sub, ixx_some, at_0, at_1, at_2, at_3, at_4, ix_40, ix_41, ix_42, ix_43, RV.sl, b2n, Pu.isNon, notRaw, endP, endF, endL, slots0, wipeE, wipeL, List.map_cons, List.map_nil, List.length_cons, List.length_nil, decide_eq_true_eq, decide_true, decide_false, List.cons_append, List.nil_append, List.append_nil, List.replicate_succ, List.replicate_zero, List.getElem?_cons_zero, List.getElem?_cons_succ, List.set_cons_zero, List.set_cons_succ, Option.isSome_some, ite_true, ite_false, Bool.false_eq_true, true_and, and_true, if_true, if_false, Nat.reduceSub, Nat.reduceAdd, Nat.reduceLT, Bool.not_true, Bool.not_false, reduceIte, eq_self, okC_int, okC_bl, okC_lnil, eqD_lnil, okC_tI, okC_lI, eqD_int, eqD_bl, eqD_tups, eqD_lsts, isTy_int_int, isTy_int_bool, isTy_int_tuple, isTy_tup_tuple, isTy_tup_int, isTy_str_str, isTy_bl_int, isTy_bl_bool, List.length_map, List.length_range, ↓r_Rg3, ↓r_St, ↓r_Dc, ↓r_Dg, ↓r_In, ↓r_IxN, ↓r_Ss, ↓r_IsB, ↓sd__law_draw, ↓sd__law_turn, ↓sd__law_mirror, ↓sd__law_voice]
        rw [set_ints]
        try simp only [↓r_V, ↓r_C, ↓r_Op, ↓r_B, ↓r_Chain, ↓r_And, ↓r_Or, ↓r_Not, ↓r_AndV, ↓r_OrV, ↓r_NotV, ↓r_If, ↓r_Un, ↓r_Add, ↓r_I, ↓r_I0, ↓r_Mul, ↓r_Eq, ↓r_Is, ↓r_Nil, ↓r_Cons, ↓r_Tup, ↓r_N, ↓r_CatN, ↓r_RepN, ↓r_No, ↓r_So, ↓r_Sl, ↓r_One, ↓r_Len, ↓r_Int1, ↓r_Int, ↓r_Sum, ↓r_Max, ↓r_All, ↓r_Min2, ↓r_Isi, ↓r_Repr, ↓r_TupOf, ↓r_LstOf, ↓r_Rd, ↓r_Rn, ↓r_Nm, ↓r_Gnil, ↓r_Gcons, ↓r_Gtup, ↓r_Glst, ↓r_Next, ↓r_Seq, ↓r_Cut, ↓r_Never, ↓r_Brk, ↓r_Cnt, ↓r_Drop, ↓r_Ret, ↓r_RetN, ↓r_IfS, ↓r_Set, ↓r_Asg, ↓r_Aug, ↓r_App, ↓r_Par, ↓r_Par3, ↓r_SeqI, ↓r_Rg1, ↓r_Rg2, ↓r_EnT, ↓r_For, ↓r_While, ↓r_Yes, ↓r_Lc, ↓r_Call, ↓r_CallF, ↓r_EqA, ↓r_asD, ↓r_seqOf, ↓r_dataOf, ↓r_isOw, ↓r_Ix, ↓r_Sub, ixx_some, at_0, at_1, at_2, at_3, at_4, ix_40, ix_41, ix_42, ix_43, RV.sl, b2n, Pu.isNon, notRaw, endP, endF, endL, slots0, wipeE, wipeL, List.map_cons, List.map_nil, List.length_cons, List.length_nil, decide_eq_true_eq, decide_true, decide_false, List.cons_append, List.nil_append, List.append_nil, List.replicate_succ, List.replicate_zero, List.getElem?_cons_zero, List.getElem?_cons_succ, List.set_cons_zero, List.set_cons_succ, Option.isSome_some, ite_true, ite_false, Bool.false_eq_true, true_and, and_true, if_true, if_false, Nat.reduceSub, Nat.reduceAdd, Nat.reduceLT, Bool.not_true, Bool.not_false, reduceIte, eq_self, okC_int, okC_bl, okC_lnil, eqD_lnil, okC_tI, okC_lI, eqD_int, eqD_bl, eqD_tups, eqD_lsts, isTy_int_int, isTy_int_bool, isTy_int_tuple, isTy_tup_tuple, isTy_tup_int, isTy_str_str, isTy_bl_int, isTy_bl_bool, List.length_map, List.length_range, ↓r_Rg3, ↓r_St, ↓r_Dc, ↓r_Dg, ↓r_In, ↓r_IxN, ↓r_Ss, ↓r_IsB, ↓sd__law_draw, ↓sd__law_turn, ↓sd__law_mirror, ↓sd__law_voice]
        refine ⟨_, ixN_in b0 (by rw [List.length_set]; omega), ?_⟩
        try simp only [↓r_V, ↓r_C, ↓r_Op, ↓r_B, ↓r_Chain, ↓r_And, ↓r_Or, ↓r_Not, ↓r_AndV, ↓r_OrV, ↓r_NotV, ↓r_If, ↓r_Un, ↓r_Add, ↓r_I, ↓r_I0, ↓r_Mul, ↓r_Eq, ↓r_Is, ↓r_Nil, ↓r_Cons, ↓r_Tup, ↓r_N, ↓r_CatN, ↓r_RepN, ↓r_No, ↓r_So, ↓r_Sl, ↓r_One, ↓r_Len, ↓r_Int1, ↓r_Int, ↓r_Sum, ↓r_Max, ↓r_All, ↓r_Min2, ↓r_Isi, ↓r_Repr, ↓r_TupOf, ↓r_LstOf, ↓r_Rd, ↓r_Rn, ↓r_Nm, ↓r_Gnil, ↓r_Gcons, ↓r_Gtup, ↓r_Glst, ↓r_Next, ↓r_Seq, ↓r_Cut, ↓r_Never, ↓r_Brk, ↓r_Cnt, ↓r_Drop, ↓r_Ret, ↓r_RetN, ↓r_IfS, ↓r_Set, ↓r_Asg, ↓r_Aug, ↓r_App, ↓r_Par, ↓r_Par3, ↓r_SeqI, ↓r_Rg1, ↓r_Rg2, ↓r_EnT, ↓r_For, ↓r_While, ↓r_Yes, ↓r_Lc, ↓r_Call, ↓r_CallF, ↓r_EqA, ↓r_asD, ↓r_seqOf, ↓r_dataOf, ↓r_isOw, ↓r_Ix, ↓r_Sub, ixx_some, at_0, at_1, at_2, at_3, at_4, ix_40, ix_41, ix_42, ix_43, RV.sl, b2n, Pu.isNon, notRaw, endP, endF, endL, slots0, wipeE, wipeL, List.map_cons, List.map_nil, List.length_cons, List.length_nil, decide_eq_true_eq, decide_true, decide_false, List.cons_append, List.nil_append, List.append_nil, List.replicate_succ, List.replicate_zero, List.getElem?_cons_zero, List.getElem?_cons_succ, List.set_cons_zero, List.set_cons_succ, Option.isSome_some, ite_true, ite_false, Bool.false_eq_true, true_and, and_true, if_true, if_false, Nat.reduceSub, Nat.reduceAdd, Nat.reduceLT, Bool.not_true, Bool.not_false, reduceIte, eq_self, okC_int, okC_bl, okC_lnil, eqD_lnil, okC_tI, okC_lI, eqD_int, eqD_bl, eqD_tups, eqD_lsts, isTy_int_int, isTy_int_bool, isTy_int_tuple, isTy_tup_tuple, isTy_tup_int, isTy_str_str, isTy_bl_int, isTy_bl_bool, List.length_map, List.length_range, ↓r_Rg3, ↓r_St, ↓r_Dc, ↓r_Dg, ↓r_In, ↓r_IxN, ↓r_Ss, ↓r_IsB, ↓sd__law_draw, ↓sd__law_turn, ↓sd__law_mirror, ↓sd__law_voice]
        rw [set_ints]
        try simp only [↓r_V, ↓r_C, ↓r_Op, ↓r_B, ↓r_Chain, ↓r_And, ↓r_Or, ↓r_Not, ↓r_AndV, ↓r_OrV, ↓r_NotV, ↓r_If, ↓r_Un, ↓r_Add, ↓r_I, ↓r_I0, ↓r_Mul, ↓r_Eq, ↓r_Is, ↓r_Nil, ↓r_Cons, ↓r_Tup, ↓r_N, ↓r_CatN, ↓r_RepN, ↓r_No, ↓r_So, ↓r_Sl, ↓r_One, ↓r_Len, ↓r_Int1, ↓r_Int, ↓r_Sum, ↓r_Max, ↓r_All, ↓r_Min2, ↓r_Isi, ↓r_Repr, ↓r_TupOf, ↓r_LstOf, ↓r_Rd, ↓r_Rn, ↓r_Nm, ↓r_Gnil, ↓r_Gcons, ↓r_Gtup, ↓r_Glst, ↓r_Next, ↓r_Seq, ↓r_Cut, ↓r_Never, ↓r_Brk, ↓r_Cnt, ↓r_Drop, ↓r_Ret, ↓r_RetN, ↓r_IfS, ↓r_Set, ↓r_Asg, ↓r_Aug, ↓r_App, ↓r_Par, ↓r_Par3, ↓r_SeqI, ↓r_Rg1, ↓r_Rg2, ↓r_EnT, ↓r_For, ↓r_While, ↓r_Yes, ↓r_Lc, ↓r_Call, ↓r_CallF, ↓r_EqA, ↓r_asD, ↓r_seqOf, ↓r_dataOf, ↓r_isOw, ↓r_Ix, ↓r_Sub, ixx_some, at_0, at_1, at_2, at_3, at_4, ix_40, ix_41, ix_42, ix_43, RV.sl, b2n, Pu.isNon, notRaw, endP, endF, endL, slots0, wipeE, wipeL, List.map_cons, List.map_nil, List.length_cons, List.length_nil, decide_eq_true_eq, decide_true, decide_false, List.cons_append, List.nil_append, List.append_nil, List.replicate_succ, List.replicate_zero, List.getElem?_cons_zero, List.getElem?_cons_succ, List.set_cons_zero, List.set_cons_succ, Option.isSome_some, ite_true, ite_false, Bool.false_eq_true, true_and, and_true, if_true, if_false, Nat.reduceSub, Nat.reduceAdd, Nat.reduceLT, Bool.not_true, Bool.not_false, reduceIte, eq_self, okC_int, okC_bl, okC_lnil, eqD_lnil, okC_tI, okC_lI, eqD_int, eqD_bl, eqD_tups, eqD_lsts, isTy_int_int, isTy_int_bool, isTy_int_tuple, isTy_tup_tuple, isTy_tup_int, isTy_str_str, isTy_bl_int, isTy_bl_bool, List.length_map, List.length_range, ↓r_Rg3, ↓r_St, ↓r_Dc, ↓r_Dg, ↓r_In, ↓r_IxN, ↓r_Ss, ↓r_IsB, ↓sd__law_draw, ↓sd__law_turn, ↓sd__law_mirror, ↓sd__law_voice]
        exact h _ _ (by rw [List.length_set, List.length_set, lz]) (fun x hx => by
          rcases List.mem_or_eq_of_mem_set hx with z | z
          · exact bs _ _ (by omega) (by omega) x z
          · omega) (by omega)
      split
      · refine ⟨5, rfl, by decide, by decide, by omega, fun q _ _ => ⟨xs.length, q, rfl, h0, by omega, by omega, fun ys B2 ly by_ hB2 => ?_⟩⟩
        exact h _ _ ly by_.bd (by omega)
      exact h _ _ lz bz.bd (by omega)
end
end U32

set_option Elab.async false
set_option linter.all false
set_option maxRecDepth 100000
set_option maxHeartbeats 4000000
namespace U32
open PySem PySem.Spec PyProof.Rows L2 Gd RZ Pu Pv Pm
theorem oks_str {x : Str} {n k : Nat} (h : (reprText x).length ≤ n) : OkS [.str x] k (n + 2) := ⟨by simp [plainA, D.plain], by
  rw [pyA, pyA, D.py]
  refine ⟨by simp [PyData.showableAll, PyData.showable], by simp [PyData.hasDictAll, PyData.hasDict], by simp [PyData.depthAll, PyData.depth], ?_⟩
  simp only [costAll, cost]
  omega⟩
theorem oks_non {k : Nat} : OkS [.non] k 6 := ⟨by simp [plainA, D.plain], by
  rw [pyA, pyA, D.py]
  refine ⟨by simp [PyData.showableAll, PyData.showable], by simp [PyData.hasDictAll, PyData.hasDict], by simp [PyData.depthAll, PyData.depth], ?_⟩
  simp only [costAll, cost]
  omega⟩
theorem kin_echo {xs ys : List Int} (h : 0 < xs.length) (m : ys ∈ kinL xs) : crossV ys ys = crossV xs xs := by
  rcases (mem_kin h).mp m with ⟨k, rfl⟩ | ⟨k, rfl⟩
  · exact cross_turns h rfl k
  · rw [cross_turns (by rw [mir_len]; exact h) rfl k, cross_mirs h]
theorem head_same {xs ys : List Int} {a b : List (List Int)} (h : 0 < xs.length) (hy : 0 < ys.length) (bx : Bd 6 xs) (ha : IsKin xs a) (hb : IsKin ys b) : b.headD [] = a.headD [] ↔ ys ∈ kinL xs := by
  constructor
  · intro e
    have h1 : a.headD [] ∈ kinL xs := (ha.mem _).mp (head_mem (ha.pos h))
    have h2 : a.headD [] ∈ kinL ys := by
      rw [← e]
      exact (hb.mem _).mp (head_mem (hb.pos hy))
    exact kin_sub h h1 (kin_sym hy h2)
  · intro m
    rw [ha.eq h bx hb m]
theorem stp_pair {xs ys : List Int} (h : 0 < xs.length) (hy : ys.length = xs.length) :
    (∃ j j' : Nat, j < xs.length ∧ j' < xs.length ∧ stp xs ys = .tup [.str "turned", .int (j : Nat)] ∧ stp ys xs = .tup [.str "turned", .int (j' : Nat)] ∧ turnV ys j' = xs ∧ ys ∈ kinL xs) ∨
    (∃ j j' : Nat, j < xs.length ∧ j' < xs.length ∧ stp xs ys = .tup [.str "mirrored", .int (j : Nat)] ∧ stp ys xs = .tup [.str "mirrored", .int (j' : Nat)] ∧ turnV (mir ys) j' = xs ∧ ys ∈ kinL xs) ∨
    (ys ∉ kinL xs ∧ stp xs ys = .non ∧ stp ys xs = .non) := by
  have y0 : 0 < ys.length := by omega
  rcases stp_cases h ys with ⟨e, j, hj, s1, e1⟩ | ⟨ne, e, j, hj, s1, e1⟩ | ⟨n, s1⟩
  · rcases stp_cases y0 xs with ⟨f, j', hj', s2, e2⟩ | ⟨nf, f, j', hj', s2, e2⟩ | ⟨n, s2⟩
    · exact .inl ⟨j, j', hj, by omega, s1, s2, e2, (mem_kin h).mpr (.inl e)⟩
    · exact absurd (turn_sym h e) nf
    · exact absurd (kin_sym h ((mem_kin h).mpr (.inl e))) n
  · rcases stp_cases y0 xs with ⟨f, j', hj', s2, e2⟩ | ⟨nf, f, j', hj', s2, e2⟩ | ⟨n, s2⟩
    · exact absurd (turn_sym y0 f) ne
    · exact .inr (.inl ⟨j, j', hj, by omega, s1, s2, e2, (mem_kin h).mpr (.inr e)⟩)
    · exact absurd (kin_sym h ((mem_kin h).mpr (.inr e))) n
  · rcases stp_cases y0 xs with ⟨f, j', hj', s2, e2⟩ | ⟨nf, f, j', hj', s2, e2⟩ | ⟨n2, s2⟩
    · exact absurd (kin_sym y0 ((mem_kin y0).mpr (.inl f))) n
    · exact absurd (kin_sym y0 ((mem_kin y0).mpr (.inr f))) n
    · exact .inr (.inr ⟨n, s1, s2⟩)
section
variable {P : Program} {w : World} {K : PySem.W.Frag} {mg : Str → Option Value} {base : Heap}
def sd__law_is_told : SpD := fun ds k => ∃ xs ys : List Int, ds = [tI xs, tI ys] ∧ ys.length = xs.length ∧ 0 < xs.length ∧ xs.length ≤ 12 ∧ Bd 6 xs ∧ Bd 6 ys ∧ k (.bl true)
theorem c__law_is_told (D : At K mg "_law_is_told" s__law_is_told ["_law_one", "_law_other"]) (c__law_kin : CalG P w K mg base 2 "_law_kin" ["_law_voice_here"] (spP K 1 sd__law_kin)) (c__law_step : CalG P w K mg base 2 "_law_step" ["_law_one", "_law_other"] (spP K 2 sd__law_step)) (c_kin_step : CalG P w K mg base 6 "kin_step" ["one", "other"] (spP K 2 sd_kin_step)) (c_kin_count : CalG P w K mg base 7 "kin_count" ["voice"] (spP K 1 sd_kin_count)) (c_least_kin : CalG P w K mg base 7 "least_kin" ["voice"] (spP K 1 sd_least_kin)) (c__law_turn : CalG P w K mg base 1 "_law_turn" ["_law_voice_here", "_law_k"] (spP K 2 sd__law_turn)) (c__law_mirror : CalG P w K mg base 1 "_law_mirror" ["_law_voice_here"] (spP K 1 sd__law_mirror)) (c_same_echo : CalG P w K mg base 7 "same_echo" ["one", "other"] (spP K 2 sd_same_echo)) (c_echo_of : CalG P w K mg base 6 "echo_of" ["voice"] (spP K 1 sd_echo_of)) (z_len : mg "len" = none) (z_repr : mg "repr" = none) : CalG P w K mg base 8 "_law_is_told" ["_law_one", "_law_other"] (spP K 2 sd__law_is_told) := by
  have nd := sc__law_is_told.nd
  apply okP (F := Fd0) D sc__law_is_told (by decide)
  case body =>
    intro f cdv A outer s H E hr hG
    have hu64 := hr.units
    exact (qss_cons (qs_par (i := 4) (j := 5) rfl nd rfl rfl (by decide) rfl rfl (qr_d (q_call c__law_kin hr hG (by decide) (by rfl) (qa_cons (qv 0) qa_nil) rfl)) (qr_d (q_call c__law_step hr hG (by decide) (by rfl) (qa_cons (qv 0) (qa_cons (qv 1) qa_nil)) rfl)) rfl)
 (qss_cons (qs_set (i := 2) nd rfl (.inl rfl) (qr_n (qn_lst (qa_cons (q_call c_least_kin hr hG (by decide) (by rfl) (qa_cons (qv 0) qa_nil) rfl) (qa_cons (q_call c_kin_count hr hG (by decide) (by rfl) (qa_cons (qv 0) qa_nil) rfl) (qa_cons (q_call c_kin_step hr hG (by decide) (by rfl) (qa_cons (qv 0) (qa_cons (qv 1) qa_nil)) rfl) qa_nil))))))
 (qss_cut (qs_if (QW.qt (qw_or (qt_cmp (op_neA hu64) l_neA (q_b1 (fun p => pe_callB (b_repr hr hG) (by rfl) z_repr (by decide +kernel) (pa_cons p pa_nil)) l_repr (qv 2)) (q_b1 (fun p => pe_callB (b_repr hr hG) (by rfl) z_repr (by decide +kernel) (pa_cons p pa_nil)) l_repr (q_n (qn_lst (qa_cons (q_ix (qv 4) q_int (fun _ _ => rfl)) (qa_cons (q_b1 (fun p => pe_callB call_len (by rfl) z_len PySem.boot_len (pa_cons p pa_nil)) l_len (qv 4)) (qa_cons (qv 5) qa_nil)))))) (nomark _)) (qw_or1 (qt_cmp (op_neA hu64) l_neA (q_op op_mod l_mod (q_op op_mulA l_mul q_int (q_b1 (fun p => pe_callB call_len (by rfl) z_len PySem.boot_len (pa_cons p pa_nil)) l_len (qv 0))) (q_b1 (fun p => pe_callB call_len (by rfl) z_len PySem.boot_len (pa_cons p pa_nil)) l_len (qv 4))) q_int (nomark _)))))
 (qss_one (qs_ret q_bl))
 qss_nil)
 (qss_cut (qs_if (QW.qt (qw_or (qt_cmp (op_neA hu64) l_neA (q_cmp op_isN l_is (qv 5) q_non (nomark _)) (q_cmp (op_ninA (hr65 hr)) l_ninA (qv 1) (qv 4) (by rfl)) (nomark _)) (qw_or1 (qt_cmp (op_neA hu64) l_neA (q_cmp (op_eqA hu64) l_eqA (q_call c_least_kin hr hG (by decide) (by rfl) (qa_cons (qv 1) qa_nil) rfl) (q_ix (qv 4) q_int (fun _ _ => rfl)) (nomark _)) (q_cmp (op_inA (hr65 hr)) l_inA (qv 1) (qv 4) (by rfl)) (nomark _)))))
 (qss_one (qs_ret q_bl))
 qss_nil)
 (qss_cons (qs_if (qt_cmp op_isN l_is (qv 5) q_non (nomark _))
 (qss_one (qs_ret (q_cmp op_isN l_is (q_call c_kin_step hr hG (by decide) (by rfl) (qa_cons (qv 1) (qa_cons (qv 0) qa_nil)) rfl) q_non (nomark _))))
 qss_nil)
 (qss_cons (qs_set (i := 3) nd rfl (.inl rfl) (qr_d (q_call c_kin_step hr hG (by decide) (by rfl) (qa_cons (qv 1) (qa_cons (qv 0) qa_nil)) rfl)))
 (qss_cons (qs_if (qt_cmp op_isN l_is (qv 3) q_non (nomark _))
 (qss_one (qs_ret q_bl))
 qss_nil)
 (qss_cons (qs_if (qt_cmp (op_neA hu64) l_neA (q_call c__law_turn hr hG (by decide) (by rfl) (qa_cons (q_if (qt_cmp (op_eqA hu64) l_eqA (q_ix (qv 3) q_int (fun _ _ => rfl)) q_str (nomark _)) (qv 1) (q_call c__law_mirror hr hG (by decide) (by rfl) (qa_cons (qv 1) qa_nil) rfl)) (qa_cons (q_ix (qv 3) q_int (fun _ _ => rfl)) qa_nil)) rfl) (qv 0) (nomark _))
 (qss_one (qs_ret q_bl))
 qss_nil)
 (qss_one (qs_ret (q_and (q_cmp op_isBl l_isBl (q_call c_same_echo hr hG (by decide) (by rfl) (qa_cons (qv 0) (qa_cons (qv 1) qa_nil)) rfl) q_bl (nomark _)) (q_and (q_cmp (op_eqA hu64) l_eqA (q_call c_echo_of hr hG (by decide) (by rfl) (qa_cons (qv 0) qa_nil) rfl) (q_call c_echo_of hr hG (by decide) (by rfl) (qa_cons (qv 1) qa_nil) rfl) (nomark _)) (q_one (q_cmp (op_eqA hu64) l_eqA (q_ix (qv 3) q_int (fun _ _ => rfl)) (q_ix (qv 5) q_int (fun _ _ => rfl)) (nomark _)))))))))))))))
  case go =>
    intro ds k hl h
    obtain ⟨xs, ys, rfl, hxy, h0, hn, bx, by_, h⟩ := h
    have y0 : 0 < ys.length := by omega
    have lm := mir_len xs
    have my := mir_len ys
    try simp only [↓r_V, ↓r_C, ↓r_Op, ↓r_B, ↓r_Chain, ↓r_And, ↓r_Or, ↓r_Not, ↓r_AndV, ↓r_OrV, ↓r_NotV, ↓r_If, ↓r_Un, ↓r_Add, ↓r_I, ↓r_I0, ↓r_Mul, ↓r_Eq, ↓r_Is, ↓r_Nil, ↓r_Cons, ↓r_Tup, ↓r_N, ↓r_CatN, ↓r_RepN, ↓r_No, ↓r_So, ↓r_Sl, ↓r_One, ↓r_Len, ↓r_Int1, ↓r_Int, ↓r_Sum, ↓r_Max, ↓r_All, ↓r_Min2, ↓r_Isi, ↓r_Repr, ↓r_TupOf, ↓r_LstOf, ↓r_Rd, ↓r_Rn, ↓r_Nm, ↓r_Gnil, ↓r_Gcons, ↓r_Gtup, ↓r_Glst, ↓r_Next, ↓r_Seq, ↓r_Cut, ↓r_Never, ↓r_Brk, ↓r_Cnt, ↓r_Drop, ↓r_Ret, ↓r_RetN, ↓r_IfS, ↓r_Set, ↓r_Asg, ↓r_Aug, ↓r_App, ↓r_Par, ↓r_Par3, ↓r_SeqI, ↓r_Rg1, ↓r_Rg2, ↓r_EnT, ↓r_For, ↓r_While, ↓r_Yes, ↓r_Lc, ↓r_Call, ↓r_CallF, ↓r_EqA, ↓r_asD, ↓r_seqOf, ↓r_dataOf, ↓r_isOw, ↓r_Ix, ↓r_Sub, ixx_some, at_0, at_1, at_2, at_3, at_4, ix_40, ix_41, ix_42, ix_43, RV.sl, b2n, Pu.isNon, notRaw, endP, endF, endL, slots0, wipeE, wipeL, List.map_cons, List.map_nil, List.length_cons, List.length_nil, decide_eq_true_eq, decide_true, decide_false, List.cons_append, List.nil_append, List.append_nil, List.replicate_succ, List.replicate_zero, List.getElem?_cons_zero, List.getElem?_cons_succ, List.set_cons_zero, List.set_cons_succ, Option.isSome_some, ite_true, ite_false, Bool.false_eq_true, true_and, and_true, if_true, if_false, Nat.reduceSub, Nat.reduceAdd, Nat.reduceLT, Bool.not_true, Bool.not_false, reduceIte, eq_self, okC_int, okC_bl, okC_lnil, eqD_lnil, okC_tI, okC_lI, eqD_int, eqD_bl, eqD_tups, eqD_lsts, isTy_int_int, isTy_int_bool, isTy_int_tuple, isTy_tup_tuple, isTy_tup_int, isTy_str_str, isTy_bl_int, isTy_bl_bool, List.length_map, List.length_range, ↓r_Rg3, ↓r_St, ↓r_Dc, ↓r_Dg, ↓r_In, ↓r_IxN, ↓r_Ss, ↓r_IsB, ↓sd__law_kin, ↓sd__law_step, ↓sd_kin_step, ↓sd_kin_count, ↓sd_least_kin, ↓sd__law_turn, ↓sd__law_mirror, ↓sd_same_echo, ↓sd_echo_of]
    rcases stp_pair h0 hxy with ⟨j, j', hj, hj', s1, s2, e2, mk⟩ | ⟨j, j', hj, hj', s1, s2, e2, mk⟩ | ⟨mk, s1, s2⟩
    · refine ⟨xs, rfl, h0, by omega, bx, fun out ik => ⟨xs, ys, rfl, hxy, h0, by omega, ?_⟩⟩
      refine ⟨xs, rfl, h0, by omega, bx, fun out2 ik2 => ?_⟩
      obtain rfl : out = out2 := ik.eq h0 bx ik2 (kin_self h0)
      refine ⟨xs, rfl, h0, by omega, bx, fun out2 ik2 => ?_⟩
      obtain rfl : out = out2 := ik.eq h0 bx ik2 (kin_self h0)
      refine ⟨xs, ys, rfl, hxy, h0, by omega, ?_⟩
      have o0 := ik.pos h0
      have km := kin_many h0 ik.nd ik.mem
      have kz : (2 * (xs.length : Int)) % (out.length : Int) = 0 := by exact_mod_cast km
      have o1 : out.length ≤ 24 := by have := Nat.le_of_dvd (by omega) (Nat.dvd_of_mod_eq_zero km); omega
      have bh : Bd 6 (out.headD []) := bd_kin h0 bx ((ik.mem _).mp (head_mem o0))
      have lh : (out.headD []).length ≤ 12 := by rw [kin_len h0 ((ik.mem _).mp (head_mem o0))]; exact hn
      have mo : decide (ys ∈ out) = true := by exact decide_eq_true ((ik.mem ys).mpr mk)
      have hs := fun (b : List (List Int)) (ib : IsKin ys b) => head_same h0 y0 bx ik ib
      have ha := head_at o0
      generalize out.headD [] = hd at ha bh lh hs
      rw [s1]
      try simp only [↓r_V, ↓r_C, ↓r_Op, ↓r_B, ↓r_Chain, ↓r_And, ↓r_Or, ↓r_Not, ↓r_AndV, ↓r_OrV, ↓r_NotV, ↓r_If, ↓r_Un, ↓r_Add, ↓r_I, ↓r_I0, ↓r_Mul, ↓r_Eq, ↓r_Is, ↓r_Nil, ↓r_Cons, ↓r_Tup, ↓r_N, ↓r_CatN, ↓r_RepN, ↓r_No, ↓r_So, ↓r_Sl, ↓r_One, ↓r_Len, ↓r_Int1, ↓r_Int, ↓r_Sum, ↓r_Max, ↓r_All, ↓r_Min2, ↓r_Isi, ↓r_Repr, ↓r_TupOf, ↓r_LstOf, ↓r_Rd, ↓r_Rn, ↓r_Nm, ↓r_Gnil, ↓r_Gcons, ↓r_Gtup, ↓r_Glst, ↓r_Next, ↓r_Seq, ↓r_Cut, ↓r_Never, ↓r_Brk, ↓r_Cnt, ↓r_Drop, ↓r_Ret, ↓r_RetN, ↓r_IfS, ↓r_Set, ↓r_Asg, ↓r_Aug, ↓r_App, ↓r_Par, ↓r_Par3, ↓r_SeqI, ↓r_Rg1, ↓r_Rg2, ↓r_EnT, ↓r_For, ↓r_While, ↓r_Yes, ↓r_Lc, ↓r_Call, ↓r_CallF, ↓r_EqA, ↓r_asD, ↓r_seqOf, ↓r_dataOf, ↓r_isOw, ↓r_Ix, ↓r_Sub, ixx_some, at_0, at_1, at_2, at_3, at_4, ix_40, ix_41, ix_42, ix_43, RV.sl, b2n, Pu.isNon, notRaw, endP, endF, endL, slots0, wipeE, wipeL, List.map_cons, List.map_nil, List.length_cons, List.length_nil, decide_eq_true_eq, decide_true, decide_false, List.cons_append, List.nil_append, List.append_nil, List.replicate_succ, List.replicate_zero, List.getElem?_cons_zero, List.getElem?_cons_succ, List.set_cons_zero, List.set_cons_succ, Option.isSome_some, ite_true, ite_false, Bool.false_eq_true, true_and, and_true, if_true, if_false, Nat.reduceSub, Nat.reduceAdd, Nat.reduceLT, Bool.not_true, Bool.not_false, reduceIte, eq_self, okC_int, okC_bl, okC_lnil, eqD_lnil, okC_tI, okC_lI, eqD_int, eqD_bl, eqD_tups, eqD_lsts, isTy_int_int, isTy_int_bool, isTy_int_tuple, isTy_tup_tuple, isTy_tup_int, isTy_str_str, isTy_bl_int, isTy_bl_bool, List.length_map, List.length_range, ↓r_Rg3, ↓r_St, ↓r_Dc, ↓r_Dg, ↓r_In, ↓r_IxN, ↓r_Ss, ↓r_IsB, ↓sd__law_kin, ↓sd__law_step, ↓sd_kin_step, ↓sd_kin_count, ↓sd_least_kin, ↓sd__law_turn, ↓sd__law_mirror, ↓sd_same_echo, ↓sd_echo_of]
      refine ⟨fun ε => ε = { sl := [.sh (tI xs), .sh (tI ys), .ow none ([tI hd, .int out.length, .tup [.str "turned", .int (j : Nat)]]), .un, .sh (.lst (out.map fun r => (tI r : Pu.D))), .sh (.tup [.str "turned", .int (j : Nat)])], fs := 0 }, ?_, ?_⟩
      · try simp only [↓r_V, ↓r_C, ↓r_Op, ↓r_B, ↓r_Chain, ↓r_And, ↓r_Or, ↓r_Not, ↓r_AndV, ↓r_OrV, ↓r_NotV, ↓r_If, ↓r_Un, ↓r_Add, ↓r_I, ↓r_I0, ↓r_Mul, ↓r_Eq, ↓r_Is, ↓r_Nil, ↓r_Cons, ↓r_Tup, ↓r_N, ↓r_CatN, ↓r_RepN, ↓r_No, ↓r_So, ↓r_Sl, ↓r_One, ↓r_Len, ↓r_Int1, ↓r_Int, ↓r_Sum, ↓r_Max, ↓r_All, ↓r_Min2, ↓r_Isi, ↓r_Repr, ↓r_TupOf, ↓r_LstOf, ↓r_Rd, ↓r_Rn, ↓r_Nm, ↓r_Gnil, ↓r_Gcons, ↓r_Gtup, ↓r_Glst, ↓r_Next, ↓r_Seq, ↓r_Cut, ↓r_Never, ↓r_Brk, ↓r_Cnt, ↓r_Drop, ↓r_Ret, ↓r_RetN, ↓r_IfS, ↓r_Set, ↓r_Asg, ↓r_Aug, ↓r_App, ↓r_Par, ↓r_Par3, ↓r_SeqI, ↓r_Rg1, ↓r_Rg2, ↓r_EnT, ↓r_For, ↓r_While, ↓r_Yes, ↓r_Lc, ↓r_Call, ↓r_CallF, ↓r_EqA, ↓r_asD, ↓r_seqOf, ↓r_dataOf, ↓r_isOw, ↓r_Ix, ↓r_Sub, ixx_some, at_0, at_1, at_2, at_3, at_4, ix_40, ix_41, ix_42, ix_43, RV.sl, b2n, Pu.isNon, notRaw, endP, endF, endL, slots0, wipeE, wipeL, List.map_cons, List.map_nil, List.length_cons, List.length_nil, decide_eq_true_eq, decide_true, decide_false, List.cons_append, List.nil_append, List.append_nil, List.replicate_succ, List.replicate_zero, List.getElem?_cons_zero, List.getElem?_cons_succ, List.set_cons_zero, List.set_cons_succ, Option.isSome_some, ite_true, ite_false, Bool.false_eq_true, true_and, and_true, if_true, if_false, Nat.reduceSub, Nat.reduceAdd, Nat.reduceLT, Bool.not_true, Bool.not_false, reduceIte, eq_self, okC_int, okC_bl, okC_lnil, eqD_lnil, okC_tI, okC_lI, eqD_int, eqD_bl, eqD_tups, eqD_lsts, isTy_int_int, isTy_int_bool, isTy_int_tuple, isTy_tup_tuple, isTy_tup_int, isTy_str_str, isTy_bl_int, isTy_bl_bool, List.length_map, List.length_range, ↓r_Rg3, ↓r_St, ↓r_Dc, ↓r_Dg, ↓r_In, ↓r_IxN, ↓r_Ss, ↓r_IsB, ↓sd__law_kin, ↓sd__law_step, ↓sd_kin_step, ↓sd_kin_count, ↓sd_least_kin, ↓sd__law_turn, ↓sd__law_mirror, ↓sd_same_echo, ↓sd_echo_of]
        rw [ha]
        have okS : OkS [(.tup [.str "turned", .int (j : Nat)] : Pu.D)] 1 2000 := oks_mono (oks_tup (k := 0) (oks_cons (oks_str (n := 20) (by decide +kernel)) (oks_int (b := 64) (by omega)))) (by decide) (by decide)
        have ok : OkRp (Pu.D.lst [tI hd, .int out.length, .tup [.str "turned", .int (j : Nat)]]) := okrp_lst (k := 1) (n := 1923 * 12 + 5 + (1923 + 2000)) (oks_cons (oks_tI (b := 6) (m := 12) (k := 0) bh lh) (oks_cons (oks_int (b := 64) (by omega)) okS))
        refine ⟨ok, ?_⟩
        try simp only [↓r_V, ↓r_C, ↓r_Op, ↓r_B, ↓r_Chain, ↓r_And, ↓r_Or, ↓r_Not, ↓r_AndV, ↓r_OrV, ↓r_NotV, ↓r_If, ↓r_Un, ↓r_Add, ↓r_I, ↓r_I0, ↓r_Mul, ↓r_Eq, ↓r_Is, ↓r_Nil, ↓r_Cons, ↓r_Tup, ↓r_N, ↓r_CatN, ↓r_RepN, ↓r_No, ↓r_So, ↓r_Sl, ↓r_One, ↓r_Len, ↓r_Int1, ↓r_Int, ↓r_Sum, ↓r_Max, ↓r_All, ↓r_Min2, ↓r_Isi, ↓r_Repr, ↓r_TupOf, ↓r_LstOf, ↓r_Rd, ↓r_Rn, ↓r_Nm, ↓r_Gnil, ↓r_Gcons, ↓r_Gtup, ↓r_Glst, ↓r_Next, ↓r_Seq, ↓r_Cut, ↓r_Never, ↓r_Brk, ↓r_Cnt, ↓r_Drop, ↓r_Ret, ↓r_RetN, ↓r_IfS, ↓r_Set, ↓r_Asg, ↓r_Aug, ↓r_App, ↓r_Par, ↓r_Par3, ↓r_SeqI, ↓r_Rg1, ↓r_Rg2, ↓r_EnT, ↓r_For, ↓r_While, ↓r_Yes, ↓r_Lc, ↓r_Call, ↓r_CallF, ↓r_EqA, ↓r_asD, ↓r_seqOf, ↓r_dataOf, ↓r_isOw, ↓r_Ix, ↓r_Sub, ixx_some, at_0, at_1, at_2, at_3, at_4, ix_40, ix_41, ix_42, ix_43, RV.sl, b2n, Pu.isNon, notRaw, endP, endF, endL, slots0, wipeE, wipeL, List.map_cons, List.map_nil, List.length_cons, List.length_nil, decide_eq_true_eq, decide_true, decide_false, List.cons_append, List.nil_append, List.append_nil, List.replicate_succ, List.replicate_zero, List.getElem?_cons_zero, List.getElem?_cons_succ, List.set_cons_zero, List.set_cons_succ, Option.isSome_some, ite_true, ite_false, Bool.false_eq_true, true_and, and_true, if_true, if_false, Nat.reduceSub, Nat.reduceAdd, Nat.reduceLT, Bool.not_true, Bool.not_false, reduceIte, eq_self, okC_int, okC_bl, okC_lnil, eqD_lnil, okC_tI, okC_lI, eqD_int, eqD_bl, eqD_tups, eqD_lsts, isTy_int_int, isTy_int_bool, isTy_int_tuple, isTy_tup_tuple, isTy_tup_int, isTy_str_str, isTy_bl_int, isTy_bl_bool, List.length_map, List.length_range, ↓r_Rg3, ↓r_St, ↓r_Dc, ↓r_Dg, ↓r_In, ↓r_IxN, ↓r_Ss, ↓r_IsB, ↓sd__law_kin, ↓sd__law_step, ↓sd_kin_step, ↓sd_kin_count, ↓sd_least_kin, ↓sd__law_turn, ↓sd__law_mirror, ↓sd_same_echo, ↓sd_echo_of]
        exact ⟨ok, mulW (a := 64) (b := 64) (by decide) (by omega), by omega, ifne kz trivial⟩
      rintro ε3 rfl
      refine ⟨fun ε => ε = { sl := [.sh (tI xs), .sh (tI ys), .ow none ([tI hd, .int out.length, .tup [.str "turned", .int (j : Nat)]]), .un, .sh (.lst (out.map fun r => (tI r : Pu.D))), .sh (.tup [.str "turned", .int (j : Nat)])], fs := 0 }, ?_, ?_⟩
      · try simp only [↓r_V, ↓r_C, ↓r_Op, ↓r_B, ↓r_Chain, ↓r_And, ↓r_Or, ↓r_Not, ↓r_AndV, ↓r_OrV, ↓r_NotV, ↓r_If, ↓r_Un, ↓r_Add, ↓r_I, ↓r_I0, ↓r_Mul, ↓r_Eq, ↓r_Is, ↓r_Nil, ↓r_Cons, ↓r_Tup, ↓r_N, ↓r_CatN, ↓r_RepN, ↓r_No, ↓r_So, ↓r_Sl, ↓r_One, ↓r_Len, ↓r_Int1, ↓r_Int, ↓r_Sum, ↓r_Max, ↓r_All, ↓r_Min2, ↓r_Isi, ↓r_Repr, ↓r_TupOf, ↓r_LstOf, ↓r_Rd, ↓r_Rn, ↓r_Nm, ↓r_Gnil, ↓r_Gcons, ↓r_Gtup, ↓r_Glst, ↓r_Next, ↓r_Seq, ↓r_Cut, ↓r_Never, ↓r_Brk, ↓r_Cnt, ↓r_Drop, ↓r_Ret, ↓r_RetN, ↓r_IfS, ↓r_Set, ↓r_Asg, ↓r_Aug, ↓r_App, ↓r_Par, ↓r_Par3, ↓r_SeqI, ↓r_Rg1, ↓r_Rg2, ↓r_EnT, ↓r_For, ↓r_While, ↓r_Yes, ↓r_Lc, ↓r_Call, ↓r_CallF, ↓r_EqA, ↓r_asD, ↓r_seqOf, ↓r_dataOf, ↓r_isOw, ↓r_Ix, ↓r_Sub, ixx_some, at_0, at_1, at_2, at_3, at_4, ix_40, ix_41, ix_42, ix_43, RV.sl, b2n, Pu.isNon, notRaw, endP, endF, endL, slots0, wipeE, wipeL, List.map_cons, List.map_nil, List.length_cons, List.length_nil, decide_eq_true_eq, decide_true, decide_false, List.cons_append, List.nil_append, List.append_nil, List.replicate_succ, List.replicate_zero, List.getElem?_cons_zero, List.getElem?_cons_succ, List.set_cons_zero, List.set_cons_succ, Option.isSome_some, ite_true, ite_false, Bool.false_eq_true, true_and, and_true, if_true, if_false, Nat.reduceSub, Nat.reduceAdd, Nat.reduceLT, Bool.not_true, Bool.not_false, reduceIte, eq_self, okC_int, okC_bl, okC_lnil, eqD_lnil, okC_tI, okC_lI, eqD_int, eqD_bl, eqD_tups, eqD_lsts, isTy_int_int, isTy_int_bool, isTy_int_tuple, isTy_tup_tuple, isTy_tup_int, isTy_str_str, isTy_bl_int, isTy_bl_bool, List.length_map, List.length_range, ↓r_Rg3, ↓r_St, ↓r_Dc, ↓r_Dg, ↓r_In, ↓r_IxN, ↓r_Ss, ↓r_IsB, ↓sd__law_kin, ↓sd__law_step, ↓sd_kin_step, ↓sd_kin_count, ↓sd_least_kin, ↓sd__law_turn, ↓sd__law_mirror, ↓sd_same_echo, ↓sd_echo_of]
        refine ⟨okC_rows _ _, ?_⟩
        rw [Pu.any_rows, mo]
        try simp only [↓r_V, ↓r_C, ↓r_Op, ↓r_B, ↓r_Chain, ↓r_And, ↓r_Or, ↓r_Not, ↓r_AndV, ↓r_OrV, ↓r_NotV, ↓r_If, ↓r_Un, ↓r_Add, ↓r_I, ↓r_I0, ↓r_Mul, ↓r_Eq, ↓r_Is, ↓r_Nil, ↓r_Cons, ↓r_Tup, ↓r_N, ↓r_CatN, ↓r_RepN, ↓r_No, ↓r_So, ↓r_Sl, ↓r_One, ↓r_Len, ↓r_Int1, ↓r_Int, ↓r_Sum, ↓r_Max, ↓r_All, ↓r_Min2, ↓r_Isi, ↓r_Repr, ↓r_TupOf, ↓r_LstOf, ↓r_Rd, ↓r_Rn, ↓r_Nm, ↓r_Gnil, ↓r_Gcons, ↓r_Gtup, ↓r_Glst, ↓r_Next, ↓r_Seq, ↓r_Cut, ↓r_Never, ↓r_Brk, ↓r_Cnt, ↓r_Drop, ↓r_Ret, ↓r_RetN, ↓r_IfS, ↓r_Set, ↓r_Asg, ↓r_Aug, ↓r_App, ↓r_Par, ↓r_Par3, ↓r_SeqI, ↓r_Rg1, ↓r_Rg2, ↓r_EnT, ↓r_For, ↓r_While, ↓r_Yes, ↓r_Lc, ↓r_Call, ↓r_CallF, ↓r_EqA, ↓r_asD, ↓r_seqOf, ↓r_dataOf, ↓r_isOw, ↓r_Ix, ↓r_Sub, ixx_some, at_0, at_1, at_2, at_3, at_4, ix_40, ix_41, ix_42, ix_43, RV.sl, b2n, Pu.isNon, notRaw, endP, endF, endL, slots0, wipeE, wipeL, List.map_cons, List.map_nil, List.length_cons, List.length_nil, decide_eq_true_eq, decide_true, decide_false, List.cons_append, List.nil_append, List.append_nil, List.replicate_succ, List.replicate_zero, List.getElem?_cons_zero, List.getElem?_cons_succ, List.set_cons_zero, List.set_cons_succ, Option.isSome_some, ite_true, ite_false, Bool.false_eq_true, true_and, and_true, if_true, if_false, Nat.reduceSub, Nat.reduceAdd, Nat.reduceLT, Bool.not_true, Bool.not_false, reduceIte, eq_self, okC_int, okC_bl, okC_lnil, eqD_lnil, okC_tI, okC_lI, eqD_int, eqD_bl, eqD_tups, eqD_lsts, isTy_int_int, isTy_int_bool, isTy_int_tuple, isTy_tup_tuple, isTy_tup_int, isTy_str_str, isTy_bl_int, isTy_bl_bool, List.length_map, List.length_range, ↓r_Rg3, ↓r_St, ↓r_Dc, ↓r_Dg, ↓r_In, ↓r_IxN, ↓r_Ss, ↓r_IsB, ↓sd__law_kin, ↓sd__law_step, ↓sd_kin_step, ↓sd_kin_count, ↓sd_least_kin, ↓sd__law_turn, ↓sd__law_mirror, ↓sd_same_echo, ↓sd_echo_of]
        refine ⟨ys, rfl, y0, by omega, by_, fun out3 ik3 => ?_⟩
        rw [ha]
        have hq := hs out3 ik3
        generalize out3.headD [] = h3 at hq
        try simp only [↓r_V, ↓r_C, ↓r_Op, ↓r_B, ↓r_Chain, ↓r_And, ↓r_Or, ↓r_Not, ↓r_AndV, ↓r_OrV, ↓r_NotV, ↓r_If, ↓r_Un, ↓r_Add, ↓r_I, ↓r_I0, ↓r_Mul, ↓r_Eq, ↓r_Is, ↓r_Nil, ↓r_Cons, ↓r_Tup, ↓r_N, ↓r_CatN, ↓r_RepN, ↓r_No, ↓r_So, ↓r_Sl, ↓r_One, ↓r_Len, ↓r_Int1, ↓r_Int, ↓r_Sum, ↓r_Max, ↓r_All, ↓r_Min2, ↓r_Isi, ↓r_Repr, ↓r_TupOf, ↓r_LstOf, ↓r_Rd, ↓r_Rn, ↓r_Nm, ↓r_Gnil, ↓r_Gcons, ↓r_Gtup, ↓r_Glst, ↓r_Next, ↓r_Seq, ↓r_Cut, ↓r_Never, ↓r_Brk, ↓r_Cnt, ↓r_Drop, ↓r_Ret, ↓r_RetN, ↓r_IfS, ↓r_Set, ↓r_Asg, ↓r_Aug, ↓r_App, ↓r_Par, ↓r_Par3, ↓r_SeqI, ↓r_Rg1, ↓r_Rg2, ↓r_EnT, ↓r_For, ↓r_While, ↓r_Yes, ↓r_Lc, ↓r_Call, ↓r_CallF, ↓r_EqA, ↓r_asD, ↓r_seqOf, ↓r_dataOf, ↓r_isOw, ↓r_Ix, ↓r_Sub, ixx_some, at_0, at_1, at_2, at_3, at_4, ix_40, ix_41, ix_42, ix_43, RV.sl, b2n, Pu.isNon, notRaw, endP, endF, endL, slots0, wipeE, wipeL, List.map_cons, List.map_nil, List.length_cons, List.length_nil, decide_eq_true_eq, decide_true, decide_false, List.cons_append, List.nil_append, List.append_nil, List.replicate_succ, List.replicate_zero, List.getElem?_cons_zero, List.getElem?_cons_succ, List.set_cons_zero, List.set_cons_succ, Option.isSome_some, ite_true, ite_false, Bool.false_eq_true, true_and, and_true, if_true, if_false, Nat.reduceSub, Nat.reduceAdd, Nat.reduceLT, Bool.not_true, Bool.not_false, reduceIte, eq_self, okC_int, okC_bl, okC_lnil, eqD_lnil, okC_tI, okC_lI, eqD_int, eqD_bl, eqD_tups, eqD_lsts, isTy_int_int, isTy_int_bool, isTy_int_tuple, isTy_tup_tuple, isTy_tup_int, isTy_str_str, isTy_bl_int, isTy_bl_bool, List.length_map, List.length_range, ↓r_Rg3, ↓r_St, ↓r_Dc, ↓r_Dg, ↓r_In, ↓r_IxN, ↓r_Ss, ↓r_IsB, ↓sd__law_kin, ↓sd__law_step, ↓sd_kin_step, ↓sd_kin_count, ↓sd_least_kin, ↓sd__law_turn, ↓sd__law_mirror, ↓sd_same_echo, ↓sd_echo_of]
        refine ⟨okC_rows _ _, ?_⟩
        rw [Pu.any_rows]
        exact ifne (by rw [mo, decide_eq_true (hq.mpr mk)]) trivial
      rintro ε3 rfl
      try simp only [↓r_V, ↓r_C, ↓r_Op, ↓r_B, ↓r_Chain, ↓r_And, ↓r_Or, ↓r_Not, ↓r_AndV, ↓r_OrV, ↓r_NotV, ↓r_If, ↓r_Un, ↓r_Add, ↓r_I, ↓r_I0, ↓r_Mul, ↓r_Eq, ↓r_Is, ↓r_Nil, ↓r_Cons, ↓r_Tup, ↓r_N, ↓r_CatN, ↓r_RepN, ↓r_No, ↓r_So, ↓r_Sl, ↓r_One, ↓r_Len, ↓r_Int1, ↓r_Int, ↓r_Sum, ↓r_Max, ↓r_All, ↓r_Min2, ↓r_Isi, ↓r_Repr, ↓r_TupOf, ↓r_LstOf, ↓r_Rd, ↓r_Rn, ↓r_Nm, ↓r_Gnil, ↓r_Gcons, ↓r_Gtup, ↓r_Glst, ↓r_Next, ↓r_Seq, ↓r_Cut, ↓r_Never, ↓r_Brk, ↓r_Cnt, ↓r_Drop, ↓r_Ret, ↓r_RetN, ↓r_IfS, ↓r_Set, ↓r_Asg, ↓r_Aug, ↓r_App, ↓r_Par, ↓r_Par3, ↓r_SeqI, ↓r_Rg1, ↓r_Rg2, ↓r_EnT, ↓r_For, ↓r_While, ↓r_Yes, ↓r_Lc, ↓r_Call, ↓r_CallF, ↓r_EqA, ↓r_asD, ↓r_seqOf, ↓r_dataOf, ↓r_isOw, ↓r_Ix, ↓r_Sub, ixx_some, at_0, at_1, at_2, at_3, at_4, ix_40, ix_41, ix_42, ix_43, RV.sl, b2n, Pu.isNon, notRaw, endP, endF, endL, slots0, wipeE, wipeL, List.map_cons, List.map_nil, List.length_cons, List.length_nil, decide_eq_true_eq, decide_true, decide_false, List.cons_append, List.nil_append, List.append_nil, List.replicate_succ, List.replicate_zero, List.getElem?_cons_zero, List.getElem?_cons_succ, List.set_cons_zero, List.set_cons_succ, Option.isSome_some, ite_true, ite_false, Bool.false_eq_true, true_and, and_true, if_true, if_false, Nat.reduceSub, Nat.reduceAdd, Nat.reduceLT, Bool.not_true, Bool.not_false, reduceIte, eq_self, okC_int, okC_bl, okC_lnil, eqD_lnil, okC_tI, okC_lI, eqD_int, eqD_bl, eqD_tups, eqD_lsts, isTy_int_int, isTy_int_bool, isTy_int_tuple, isTy_tup_tuple, isTy_tup_int, isTy_str_str, isTy_bl_int, isTy_bl_bool, List.length_map, List.length_range, ↓r_Rg3, ↓r_St, ↓r_Dc, ↓r_Dg, ↓r_In, ↓r_IxN, ↓r_Ss, ↓r_IsB, ↓sd__law_kin, ↓sd__law_step, ↓sd_kin_step, ↓sd_kin_count, ↓sd_least_kin, ↓sd__law_turn, ↓sd__law_mirror, ↓sd_same_echo, ↓sd_echo_of]
      refine ⟨ys, xs, rfl, by omega, y0, by omega, ?_⟩
      rw [s2]
      try simp only [↓r_V, ↓r_C, ↓r_Op, ↓r_B, ↓r_Chain, ↓r_And, ↓r_Or, ↓r_Not, ↓r_AndV, ↓r_OrV, ↓r_NotV, ↓r_If, ↓r_Un, ↓r_Add, ↓r_I, ↓r_I0, ↓r_Mul, ↓r_Eq, ↓r_Is, ↓r_Nil, ↓r_Cons, ↓r_Tup, ↓r_N, ↓r_CatN, ↓r_RepN, ↓r_No, ↓r_So, ↓r_Sl, ↓r_One, ↓r_Len, ↓r_Int1, ↓r_Int, ↓r_Sum, ↓r_Max, ↓r_All, ↓r_Min2, ↓r_Isi, ↓r_Repr, ↓r_TupOf, ↓r_LstOf, ↓r_Rd, ↓r_Rn, ↓r_Nm, ↓r_Gnil, ↓r_Gcons, ↓r_Gtup, ↓r_Glst, ↓r_Next, ↓r_Seq, ↓r_Cut, ↓r_Never, ↓r_Brk, ↓r_Cnt, ↓r_Drop, ↓r_Ret, ↓r_RetN, ↓r_IfS, ↓r_Set, ↓r_Asg, ↓r_Aug, ↓r_App, ↓r_Par, ↓r_Par3, ↓r_SeqI, ↓r_Rg1, ↓r_Rg2, ↓r_EnT, ↓r_For, ↓r_While, ↓r_Yes, ↓r_Lc, ↓r_Call, ↓r_CallF, ↓r_EqA, ↓r_asD, ↓r_seqOf, ↓r_dataOf, ↓r_isOw, ↓r_Ix, ↓r_Sub, ixx_some, at_0, at_1, at_2, at_3, at_4, ix_40, ix_41, ix_42, ix_43, RV.sl, b2n, Pu.isNon, notRaw, endP, endF, endL, slots0, wipeE, wipeL, List.map_cons, List.map_nil, List.length_cons, List.length_nil, decide_eq_true_eq, decide_true, decide_false, List.cons_append, List.nil_append, List.append_nil, List.replicate_succ, List.replicate_zero, List.getElem?_cons_zero, List.getElem?_cons_succ, List.set_cons_zero, List.set_cons_succ, Option.isSome_some, ite_true, ite_false, Bool.false_eq_true, true_and, and_true, if_true, if_false, Nat.reduceSub, Nat.reduceAdd, Nat.reduceLT, Bool.not_true, Bool.not_false, reduceIte, eq_self, okC_int, okC_bl, okC_lnil, eqD_lnil, okC_tI, okC_lI, eqD_int, eqD_bl, eqD_tups, eqD_lsts, isTy_int_int, isTy_int_bool, isTy_int_tuple, isTy_tup_tuple, isTy_tup_int, isTy_str_str, isTy_bl_int, isTy_bl_bool, List.length_map, List.length_range, ↓r_Rg3, ↓r_St, ↓r_Dc, ↓r_Dg, ↓r_In, ↓r_IxN, ↓r_Ss, ↓r_IsB, ↓sd__law_kin, ↓sd__law_step, ↓sd_kin_step, ↓sd_kin_count, ↓sd_least_kin, ↓sd__law_turn, ↓sd__law_mirror, ↓sd_same_echo, ↓sd_echo_of]
      have ee : crossV xs xs = crossV ys ys := (kin_echo h0 mk).symm
      exact ⟨ys, j', rfl, y0, by omega, ifne e2 ⟨xs, ys, 6, rfl, hxy, h0, by omega, bx, by_, by decide, by decide, ift ee ⟨xs, 6, rfl, h0, by omega, bx, by decide, by decide, ys, 6, rfl, y0, by omega, by_, by decide, by decide, ift ee h⟩⟩⟩
    · refine ⟨xs, rfl, h0, by omega, bx, fun out ik => ⟨xs, ys, rfl, hxy, h0, by omega, ?_⟩⟩
      refine ⟨xs, rfl, h0, by omega, bx, fun out2 ik2 => ?_⟩
      obtain rfl : out = out2 := ik.eq h0 bx ik2 (kin_self h0)
      refine ⟨xs, rfl, h0, by omega, bx, fun out2 ik2 => ?_⟩
      obtain rfl : out = out2 := ik.eq h0 bx ik2 (kin_self h0)
      refine ⟨xs, ys, rfl, hxy, h0, by omega, ?_⟩
      have o0 := ik.pos h0
      have km := kin_many h0 ik.nd ik.mem
      have kz : (2 * (xs.length : Int)) % (out.length : Int) = 0 := by exact_mod_cast km
      have o1 : out.length ≤ 24 := by have := Nat.le_of_dvd (by omega) (Nat.dvd_of_mod_eq_zero km); omega
      have bh : Bd 6 (out.headD []) := bd_kin h0 bx ((ik.mem _).mp (head_mem o0))
      have lh : (out.headD []).length ≤ 12 := by rw [kin_len h0 ((ik.mem _).mp (head_mem o0))]; exact hn
      have mo : decide (ys ∈ out) = true := by exact decide_eq_true ((ik.mem ys).mpr mk)
      have hs := fun (b : List (List Int)) (ib : IsKin ys b) => head_same h0 y0 bx ik ib
      have ha := head_at o0
      generalize out.headD [] = hd at ha bh lh hs
      rw [s1]
      try simp only [↓r_V, ↓r_C, ↓r_Op, ↓r_B, ↓r_Chain, ↓r_And, ↓r_Or, ↓r_Not, ↓r_AndV, ↓r_OrV, ↓r_NotV, ↓r_If, ↓r_Un, ↓r_Add, ↓r_I, ↓r_I0, ↓r_Mul, ↓r_Eq, ↓r_Is, ↓r_Nil, ↓r_Cons, ↓r_Tup, ↓r_N, ↓r_CatN, ↓r_RepN, ↓r_No, ↓r_So, ↓r_Sl, ↓r_One, ↓r_Len, ↓r_Int1, ↓r_Int, ↓r_Sum, ↓r_Max, ↓r_All, ↓r_Min2, ↓r_Isi, ↓r_Repr, ↓r_TupOf, ↓r_LstOf, ↓r_Rd, ↓r_Rn, ↓r_Nm, ↓r_Gnil, ↓r_Gcons, ↓r_Gtup, ↓r_Glst, ↓r_Next, ↓r_Seq, ↓r_Cut, ↓r_Never, ↓r_Brk, ↓r_Cnt, ↓r_Drop, ↓r_Ret, ↓r_RetN, ↓r_IfS, ↓r_Set, ↓r_Asg, ↓r_Aug, ↓r_App, ↓r_Par, ↓r_Par3, ↓r_SeqI, ↓r_Rg1, ↓r_Rg2, ↓r_EnT, ↓r_For, ↓r_While, ↓r_Yes, ↓r_Lc, ↓r_Call, ↓r_CallF, ↓r_EqA, ↓r_asD, ↓r_seqOf, ↓r_dataOf, ↓r_isOw, ↓r_Ix, ↓r_Sub, ixx_some, at_0, at_1, at_2, at_3, at_4, ix_40, ix_41, ix_42, ix_43, RV.sl, b2n, Pu.isNon, notRaw, endP, endF, endL, slots0, wipeE, wipeL, List.map_cons, List.map_nil, List.length_cons, List.length_nil, decide_eq_true_eq, decide_true, decide_false, List.cons_append, List.nil_append, List.append_nil, List.replicate_succ, List.replicate_zero, List.getElem?_cons_zero, List.getElem?_cons_succ, List.set_cons_zero, List.set_cons_succ, Option.isSome_some, ite_true, ite_false, Bool.false_eq_true, true_and, and_true, if_true, if_false, Nat.reduceSub, Nat.reduceAdd, Nat.reduceLT, Bool.not_true, Bool.not_false, reduceIte, eq_self, okC_int, okC_bl, okC_lnil, eqD_lnil, okC_tI, okC_lI, eqD_int, eqD_bl, eqD_tups, eqD_lsts, isTy_int_int, isTy_int_bool, isTy_int_tuple, isTy_tup_tuple, isTy_tup_int, isTy_str_str, isTy_bl_int, isTy_bl_bool, List.length_map, List.length_range, ↓r_Rg3, ↓r_St, ↓r_Dc, ↓r_Dg, ↓r_In, ↓r_IxN, ↓r_Ss, ↓r_IsB, ↓sd__law_kin, ↓sd__law_step, ↓sd_kin_step, ↓sd_kin_count, ↓sd_least_kin, ↓sd__law_turn, ↓sd__law_mirror, ↓sd_same_echo, ↓sd_echo_of]
      refine ⟨fun ε => ε = { sl := [.sh (tI xs), .sh (tI ys), .ow none ([tI hd, .int out.length, .tup [.str "mirrored", .int (j : Nat)]]), .un, .sh (.lst (out.map fun r => (tI r : Pu.D))), .sh (.tup [.str "mirrored", .int (j : Nat)])], fs := 0 }, ?_, ?_⟩
      · try simp only [↓r_V, ↓r_C, ↓r_Op, ↓r_B, ↓r_Chain, ↓r_And, ↓r_Or, ↓r_Not, ↓r_AndV, ↓r_OrV, ↓r_NotV, ↓r_If, ↓r_Un, ↓r_Add, ↓r_I, ↓r_I0, ↓r_Mul, ↓r_Eq, ↓r_Is, ↓r_Nil, ↓r_Cons, ↓r_Tup, ↓r_N, ↓r_CatN, ↓r_RepN, ↓r_No, ↓r_So, ↓r_Sl, ↓r_One, ↓r_Len, ↓r_Int1, ↓r_Int, ↓r_Sum, ↓r_Max, ↓r_All, ↓r_Min2, ↓r_Isi, ↓r_Repr, ↓r_TupOf, ↓r_LstOf, ↓r_Rd, ↓r_Rn, ↓r_Nm, ↓r_Gnil, ↓r_Gcons, ↓r_Gtup, ↓r_Glst, ↓r_Next, ↓r_Seq, ↓r_Cut, ↓r_Never, ↓r_Brk, ↓r_Cnt, ↓r_Drop, ↓r_Ret, ↓r_RetN, ↓r_IfS, ↓r_Set, ↓r_Asg, ↓r_Aug, ↓r_App, ↓r_Par, ↓r_Par3, ↓r_SeqI, ↓r_Rg1, ↓r_Rg2, ↓r_EnT, ↓r_For, ↓r_While, ↓r_Yes, ↓r_Lc, ↓r_Call, ↓r_CallF, ↓r_EqA, ↓r_asD, ↓r_seqOf, ↓r_dataOf, ↓r_isOw, ↓r_Ix, ↓r_Sub, ixx_some, at_0, at_1, at_2, at_3, at_4, ix_40, ix_41, ix_42, ix_43, RV.sl, b2n, Pu.isNon, notRaw, endP, endF, endL, slots0, wipeE, wipeL, List.map_cons, List.map_nil, List.length_cons, List.length_nil, decide_eq_true_eq, decide_true, decide_false, List.cons_append, List.nil_append, List.append_nil, List.replicate_succ, List.replicate_zero, List.getElem?_cons_zero, List.getElem?_cons_succ, List.set_cons_zero, List.set_cons_succ, Option.isSome_some, ite_true, ite_false, Bool.false_eq_true, true_and, and_true, if_true, if_false, Nat.reduceSub, Nat.reduceAdd, Nat.reduceLT, Bool.not_true, Bool.not_false, reduceIte, eq_self, okC_int, okC_bl, okC_lnil, eqD_lnil, okC_tI, okC_lI, eqD_int, eqD_bl, eqD_tups, eqD_lsts, isTy_int_int, isTy_int_bool, isTy_int_tuple, isTy_tup_tuple, isTy_tup_int, isTy_str_str, isTy_bl_int, isTy_bl_bool, List.length_map, List.length_range, ↓r_Rg3, ↓r_St, ↓r_Dc, ↓r_Dg, ↓r_In, ↓r_IxN, ↓r_Ss, ↓r_IsB, ↓sd__law_kin, ↓sd__law_step, ↓sd_kin_step, ↓sd_kin_count, ↓sd_least_kin, ↓sd__law_turn, ↓sd__law_mirror, ↓sd_same_echo, ↓sd_echo_of]
        rw [ha]
        have okS : OkS [(.tup [.str "mirrored", .int (j : Nat)] : Pu.D)] 1 2000 := oks_mono (oks_tup (k := 0) (oks_cons (oks_str (n := 20) (by decide +kernel)) (oks_int (b := 64) (by omega)))) (by decide) (by decide)
        have ok : OkRp (Pu.D.lst [tI hd, .int out.length, .tup [.str "mirrored", .int (j : Nat)]]) := okrp_lst (k := 1) (n := 1923 * 12 + 5 + (1923 + 2000)) (oks_cons (oks_tI (b := 6) (m := 12) (k := 0) bh lh) (oks_cons (oks_int (b := 64) (by omega)) okS))
        refine ⟨ok, ?_⟩
        try simp only [↓r_V, ↓r_C, ↓r_Op, ↓r_B, ↓r_Chain, ↓r_And, ↓r_Or, ↓r_Not, ↓r_AndV, ↓r_OrV, ↓r_NotV, ↓r_If, ↓r_Un, ↓r_Add, ↓r_I, ↓r_I0, ↓r_Mul, ↓r_Eq, ↓r_Is, ↓r_Nil, ↓r_Cons, ↓r_Tup, ↓r_N, ↓r_CatN, ↓r_RepN, ↓r_No, ↓r_So, ↓r_Sl, ↓r_One, ↓r_Len, ↓r_Int1, ↓r_Int, ↓r_Sum, ↓r_Max, ↓r_All, ↓r_Min2, ↓r_Isi, ↓r_Repr, ↓r_TupOf, ↓r_LstOf, ↓r_Rd, ↓r_Rn, ↓r_Nm, ↓r_Gnil, ↓r_Gcons, ↓r_Gtup, ↓r_Glst, ↓r_Next, ↓r_Seq, ↓r_Cut, ↓r_Never, ↓r_Brk, ↓r_Cnt, ↓r_Drop, ↓r_Ret, ↓r_RetN, ↓r_IfS, ↓r_Set, ↓r_Asg, ↓r_Aug, ↓r_App, ↓r_Par, ↓r_Par3, ↓r_SeqI, ↓r_Rg1, ↓r_Rg2, ↓r_EnT, ↓r_For, ↓r_While, ↓r_Yes, ↓r_Lc, ↓r_Call, ↓r_CallF, ↓r_EqA, ↓r_asD, ↓r_seqOf, ↓r_dataOf, ↓r_isOw, ↓r_Ix, ↓r_Sub, ixx_some, at_0, at_1, at_2, at_3, at_4, ix_40, ix_41, ix_42, ix_43, RV.sl, b2n, Pu.isNon, notRaw, endP, endF, endL, slots0, wipeE, wipeL, List.map_cons, List.map_nil, List.length_cons, List.length_nil, decide_eq_true_eq, decide_true, decide_false, List.cons_append, List.nil_append, List.append_nil, List.replicate_succ, List.replicate_zero, List.getElem?_cons_zero, List.getElem?_cons_succ, List.set_cons_zero, List.set_cons_succ, Option.isSome_some, ite_true, ite_false, Bool.false_eq_true, true_and, and_true, if_true, if_false, Nat.reduceSub, Nat.reduceAdd, Nat.reduceLT, Bool.not_true, Bool.not_false, reduceIte, eq_self, okC_int, okC_bl, okC_lnil, eqD_lnil, okC_tI, okC_lI, eqD_int, eqD_bl, eqD_tups, eqD_lsts, isTy_int_int, isTy_int_bool, isTy_int_tuple, isTy_tup_tuple, isTy_tup_int, isTy_str_str, isTy_bl_int, isTy_bl_bool, List.length_map, List.length_range, ↓r_Rg3, ↓r_St, ↓r_Dc, ↓r_Dg, ↓r_In, ↓r_IxN, ↓r_Ss, ↓r_IsB, ↓sd__law_kin, ↓sd__law_step, ↓sd_kin_step, ↓sd_kin_count, ↓sd_least_kin, ↓sd__law_turn, ↓sd__law_mirror, ↓sd_same_echo, ↓sd_echo_of]
        exact ⟨ok, mulW (a := 64) (b := 64) (by decide) (by omega), by omega, ifne kz trivial⟩
      rintro ε3 rfl
      refine ⟨fun ε => ε = { sl := [.sh (tI xs), .sh (tI ys), .ow none ([tI hd, .int out.length, .tup [.str "mirrored", .int (j : Nat)]]), .un, .sh (.lst (out.map fun r => (tI r : Pu.D))), .sh (.tup [.str "mirrored", .int (j : Nat)])], fs := 0 }, ?_, ?_⟩
      · try simp only [↓r_V, ↓r_C, ↓r_Op, ↓r_B, ↓r_Chain, ↓r_And, ↓r_Or, ↓r_Not, ↓r_AndV, ↓r_OrV, ↓r_NotV, ↓r_If, ↓r_Un, ↓r_Add, ↓r_I, ↓r_I0, ↓r_Mul, ↓r_Eq, ↓r_Is, ↓r_Nil, ↓r_Cons, ↓r_Tup, ↓r_N, ↓r_CatN, ↓r_RepN, ↓r_No, ↓r_So, ↓r_Sl, ↓r_One, ↓r_Len, ↓r_Int1, ↓r_Int, ↓r_Sum, ↓r_Max, ↓r_All, ↓r_Min2, ↓r_Isi, ↓r_Repr, ↓r_TupOf, ↓r_LstOf, ↓r_Rd, ↓r_Rn, ↓r_Nm, ↓r_Gnil, ↓r_Gcons, ↓r_Gtup, ↓r_Glst, ↓r_Next, ↓r_Seq, ↓r_Cut, ↓r_Never, ↓r_Brk, ↓r_Cnt, ↓r_Drop, ↓r_Ret, ↓r_RetN, ↓r_IfS, ↓r_Set, ↓r_Asg, ↓r_Aug, ↓r_App, ↓r_Par, ↓r_Par3, ↓r_SeqI, ↓r_Rg1, ↓r_Rg2, ↓r_EnT, ↓r_For, ↓r_While, ↓r_Yes, ↓r_Lc, ↓r_Call, ↓r_CallF, ↓r_EqA, ↓r_asD, ↓r_seqOf, ↓r_dataOf, ↓r_isOw, ↓r_Ix, ↓r_Sub, ixx_some, at_0, at_1, at_2, at_3, at_4, ix_40, ix_41, ix_42, ix_43, RV.sl, b2n, Pu.isNon, notRaw, endP, endF, endL, slots0, wipeE, wipeL, List.map_cons, List.map_nil, List.length_cons, List.length_nil, decide_eq_true_eq, decide_true, decide_false, List.cons_append, List.nil_append, List.append_nil, List.replicate_succ, List.replicate_zero, List.getElem?_cons_zero, List.getElem?_cons_succ, List.set_cons_zero, List.set_cons_succ, Option.isSome_some, ite_true, ite_false, Bool.false_eq_true, true_and, and_true, if_true, if_false, Nat.reduceSub, Nat.reduceAdd, Nat.reduceLT, Bool.not_true, Bool.not_false, reduceIte, eq_self, okC_int, okC_bl, okC_lnil, eqD_lnil, okC_tI, okC_lI, eqD_int, eqD_bl, eqD_tups, eqD_lsts, isTy_int_int, isTy_int_bool, isTy_int_tuple, isTy_tup_tuple, isTy_tup_int, isTy_str_str, isTy_bl_int, isTy_bl_bool, List.length_map, List.length_range, ↓r_Rg3, ↓r_St, ↓r_Dc, ↓r_Dg, ↓r_In, ↓r_IxN, ↓r_Ss, ↓r_IsB, ↓sd__law_kin, ↓sd__law_step, ↓sd_kin_step, ↓sd_kin_count, ↓sd_least_kin, ↓sd__law_turn, ↓sd__law_mirror, ↓sd_same_echo, ↓sd_echo_of]
        refine ⟨okC_rows _ _, ?_⟩
        rw [Pu.any_rows, mo]
        try simp only [↓r_V, ↓r_C, ↓r_Op, ↓r_B, ↓r_Chain, ↓r_And, ↓r_Or, ↓r_Not, ↓r_AndV, ↓r_OrV, ↓r_NotV, ↓r_If, ↓r_Un, ↓r_Add, ↓r_I, ↓r_I0, ↓r_Mul, ↓r_Eq, ↓r_Is, ↓r_Nil, ↓r_Cons, ↓r_Tup, ↓r_N, ↓r_CatN, ↓r_RepN, ↓r_No, ↓r_So, ↓r_Sl, ↓r_One, ↓r_Len, ↓r_Int1, ↓r_Int, ↓r_Sum, ↓r_Max, ↓r_All, ↓r_Min2, ↓r_Isi, ↓r_Repr, ↓r_TupOf, ↓r_LstOf, ↓r_Rd, ↓r_Rn, ↓r_Nm, ↓r_Gnil, ↓r_Gcons, ↓r_Gtup, ↓r_Glst, ↓r_Next, ↓r_Seq, ↓r_Cut, ↓r_Never, ↓r_Brk, ↓r_Cnt, ↓r_Drop, ↓r_Ret, ↓r_RetN, ↓r_IfS, ↓r_Set, ↓r_Asg, ↓r_Aug, ↓r_App, ↓r_Par, ↓r_Par3, ↓r_SeqI, ↓r_Rg1, ↓r_Rg2, ↓r_EnT, ↓r_For, ↓r_While, ↓r_Yes, ↓r_Lc, ↓r_Call, ↓r_CallF, ↓r_EqA, ↓r_asD, ↓r_seqOf, ↓r_dataOf, ↓r_isOw, ↓r_Ix, ↓r_Sub, ixx_some, at_0, at_1, at_2, at_3, at_4, ix_40, ix_41, ix_42, ix_43, RV.sl, b2n, Pu.isNon, notRaw, endP, endF, endL, slots0, wipeE, wipeL, List.map_cons, List.map_nil, List.length_cons, List.length_nil, decide_eq_true_eq, decide_true, decide_false, List.cons_append, List.nil_append, List.append_nil, List.replicate_succ, List.replicate_zero, List.getElem?_cons_zero, List.getElem?_cons_succ, List.set_cons_zero, List.set_cons_succ, Option.isSome_some, ite_true, ite_false, Bool.false_eq_true, true_and, and_true, if_true, if_false, Nat.reduceSub, Nat.reduceAdd, Nat.reduceLT, Bool.not_true, Bool.not_false, reduceIte, eq_self, okC_int, okC_bl, okC_lnil, eqD_lnil, okC_tI, okC_lI, eqD_int, eqD_bl, eqD_tups, eqD_lsts, isTy_int_int, isTy_int_bool, isTy_int_tuple, isTy_tup_tuple, isTy_tup_int, isTy_str_str, isTy_bl_int, isTy_bl_bool, List.length_map, List.length_range, ↓r_Rg3, ↓r_St, ↓r_Dc, ↓r_Dg, ↓r_In, ↓r_IxN, ↓r_Ss, ↓r_IsB, ↓sd__law_kin, ↓sd__law_step, ↓sd_kin_step, ↓sd_kin_count, ↓sd_least_kin, ↓sd__law_turn, ↓sd__law_mirror, ↓sd_same_echo, ↓sd_echo_of]
        refine ⟨ys, rfl, y0, by omega, by_, fun out3 ik3 => ?_⟩
        rw [ha]
        have hq := hs out3 ik3
        generalize out3.headD [] = h3 at hq
        try simp only [↓r_V, ↓r_C, ↓r_Op, ↓r_B, ↓r_Chain, ↓r_And, ↓r_Or, ↓r_Not, ↓r_AndV, ↓r_OrV, ↓r_NotV, ↓r_If, ↓r_Un, ↓r_Add, ↓r_I, ↓r_I0, ↓r_Mul, ↓r_Eq, ↓r_Is, ↓r_Nil, ↓r_Cons, ↓r_Tup, ↓r_N, ↓r_CatN, ↓r_RepN, ↓r_No, ↓r_So, ↓r_Sl, ↓r_One, ↓r_Len, ↓r_Int1, ↓r_Int, ↓r_Sum, ↓r_Max, ↓r_All, ↓r_Min2, ↓r_Isi, ↓r_Repr, ↓r_TupOf, ↓r_LstOf, ↓r_Rd, ↓r_Rn, ↓r_Nm, ↓r_Gnil, ↓r_Gcons, ↓r_Gtup, ↓r_Glst, ↓r_Next, ↓r_Seq, ↓r_Cut, ↓r_Never, ↓r_Brk, ↓r_Cnt, ↓r_Drop, ↓r_Ret, ↓r_RetN, ↓r_IfS, ↓r_Set, ↓r_Asg, ↓r_Aug, ↓r_App, ↓r_Par, ↓r_Par3, ↓r_SeqI, ↓r_Rg1, ↓r_Rg2, ↓r_EnT, ↓r_For, ↓r_While, ↓r_Yes, ↓r_Lc, ↓r_Call, ↓r_CallF, ↓r_EqA, ↓r_asD, ↓r_seqOf, ↓r_dataOf, ↓r_isOw, ↓r_Ix, ↓r_Sub, ixx_some, at_0, at_1, at_2, at_3, at_4, ix_40, ix_41, ix_42, ix_43, RV.sl, b2n, Pu.isNon, notRaw, endP, endF, endL, slots0, wipeE, wipeL, List.map_cons, List.map_nil, List.length_cons, List.length_nil, decide_eq_true_eq, decide_true, decide_false, List.cons_append, List.nil_append, List.append_nil, List.replicate_succ, List.replicate_zero, List.getElem?_cons_zero, List.getElem?_cons_succ, List.set_cons_zero, List.set_cons_succ, Option.isSome_some, ite_true, ite_false, Bool.false_eq_true, true_and, and_true, if_true, if_false, Nat.reduceSub, Nat.reduceAdd, Nat.reduceLT, Bool.not_true, Bool.not_false, reduceIte, eq_self, okC_int, okC_bl, okC_lnil, eqD_lnil, okC_tI, okC_lI, eqD_int, eqD_bl, eqD_tups, eqD_lsts, isTy_int_int, isTy_int_bool, isTy_int_tuple, isTy_tup_tuple, isTy_tup_int, isTy_str_str, isTy_bl_int, isTy_bl_bool, List.length_map, List.length_range, ↓r_Rg3, ↓r_St, ↓r_Dc, ↓r_Dg, ↓r_In, ↓r_IxN, ↓r_Ss, ↓r_IsB, ↓sd__law_kin, ↓sd__law_step, ↓sd_kin_step, ↓sd_kin_count, ↓sd_least_kin, ↓sd__law_turn, ↓sd__law_mirror, ↓sd_same_echo, ↓sd_echo_of]
        refine ⟨okC_rows _ _, ?_⟩
        rw [Pu.any_rows]
        exact ifne (by rw [mo, decide_eq_true (hq.mpr mk)]) trivial
      rintro ε3 rfl
      try simp only [↓r_V, ↓r_C, ↓r_Op, ↓r_B, ↓r_Chain, ↓r_And, ↓r_Or, ↓r_Not, ↓r_AndV, ↓r_OrV, ↓r_NotV, ↓r_If, ↓r_Un, ↓r_Add, ↓r_I, ↓r_I0, ↓r_Mul, ↓r_Eq, ↓r_Is, ↓r_Nil, ↓r_Cons, ↓r_Tup, ↓r_N, ↓r_CatN, ↓r_RepN, ↓r_No, ↓r_So, ↓r_Sl, ↓r_One, ↓r_Len, ↓r_Int1, ↓r_Int, ↓r_Sum, ↓r_Max, ↓r_All, ↓r_Min2, ↓r_Isi, ↓r_Repr, ↓r_TupOf, ↓r_LstOf, ↓r_Rd, ↓r_Rn, ↓r_Nm, ↓r_Gnil, ↓r_Gcons, ↓r_Gtup, ↓r_Glst, ↓r_Next, ↓r_Seq, ↓r_Cut, ↓r_Never, ↓r_Brk, ↓r_Cnt, ↓r_Drop, ↓r_Ret, ↓r_RetN, ↓r_IfS, ↓r_Set, ↓r_Asg, ↓r_Aug, ↓r_App, ↓r_Par, ↓r_Par3, ↓r_SeqI, ↓r_Rg1, ↓r_Rg2, ↓r_EnT, ↓r_For, ↓r_While, ↓r_Yes, ↓r_Lc, ↓r_Call, ↓r_CallF, ↓r_EqA, ↓r_asD, ↓r_seqOf, ↓r_dataOf, ↓r_isOw, ↓r_Ix, ↓r_Sub, ixx_some, at_0, at_1, at_2, at_3, at_4, ix_40, ix_41, ix_42, ix_43, RV.sl, b2n, Pu.isNon, notRaw, endP, endF, endL, slots0, wipeE, wipeL, List.map_cons, List.map_nil, List.length_cons, List.length_nil, decide_eq_true_eq, decide_true, decide_false, List.cons_append, List.nil_append, List.append_nil, List.replicate_succ, List.replicate_zero, List.getElem?_cons_zero, List.getElem?_cons_succ, List.set_cons_zero, List.set_cons_succ, Option.isSome_some, ite_true, ite_false, Bool.false_eq_true, true_and, and_true, if_true, if_false, Nat.reduceSub, Nat.reduceAdd, Nat.reduceLT, Bool.not_true, Bool.not_false, reduceIte, eq_self, okC_int, okC_bl, okC_lnil, eqD_lnil, okC_tI, okC_lI, eqD_int, eqD_bl, eqD_tups, eqD_lsts, isTy_int_int, isTy_int_bool, isTy_int_tuple, isTy_tup_tuple, isTy_tup_int, isTy_str_str, isTy_bl_int, isTy_bl_bool, List.length_map, List.length_range, ↓r_Rg3, ↓r_St, ↓r_Dc, ↓r_Dg, ↓r_In, ↓r_IxN, ↓r_Ss, ↓r_IsB, ↓sd__law_kin, ↓sd__law_step, ↓sd_kin_step, ↓sd_kin_count, ↓sd_least_kin, ↓sd__law_turn, ↓sd__law_mirror, ↓sd_same_echo, ↓sd_echo_of]
      refine ⟨ys, xs, rfl, by omega, y0, by omega, ?_⟩
      rw [s2]
      try simp only [↓r_V, ↓r_C, ↓r_Op, ↓r_B, ↓r_Chain, ↓r_And, ↓r_Or, ↓r_Not, ↓r_AndV, ↓r_OrV, ↓r_NotV, ↓r_If, ↓r_Un, ↓r_Add, ↓r_I, ↓r_I0, ↓r_Mul, ↓r_Eq, ↓r_Is, ↓r_Nil, ↓r_Cons, ↓r_Tup, ↓r_N, ↓r_CatN, ↓r_RepN, ↓r_No, ↓r_So, ↓r_Sl, ↓r_One, ↓r_Len, ↓r_Int1, ↓r_Int, ↓r_Sum, ↓r_Max, ↓r_All, ↓r_Min2, ↓r_Isi, ↓r_Repr, ↓r_TupOf, ↓r_LstOf, ↓r_Rd, ↓r_Rn, ↓r_Nm, ↓r_Gnil, ↓r_Gcons, ↓r_Gtup, ↓r_Glst, ↓r_Next, ↓r_Seq, ↓r_Cut, ↓r_Never, ↓r_Brk, ↓r_Cnt, ↓r_Drop, ↓r_Ret, ↓r_RetN, ↓r_IfS, ↓r_Set, ↓r_Asg, ↓r_Aug, ↓r_App, ↓r_Par, ↓r_Par3, ↓r_SeqI, ↓r_Rg1, ↓r_Rg2, ↓r_EnT, ↓r_For, ↓r_While, ↓r_Yes, ↓r_Lc, ↓r_Call, ↓r_CallF, ↓r_EqA, ↓r_asD, ↓r_seqOf, ↓r_dataOf, ↓r_isOw, ↓r_Ix, ↓r_Sub, ixx_some, at_0, at_1, at_2, at_3, at_4, ix_40, ix_41, ix_42, ix_43, RV.sl, b2n, Pu.isNon, notRaw, endP, endF, endL, slots0, wipeE, wipeL, List.map_cons, List.map_nil, List.length_cons, List.length_nil, decide_eq_true_eq, decide_true, decide_false, List.cons_append, List.nil_append, List.append_nil, List.replicate_succ, List.replicate_zero, List.getElem?_cons_zero, List.getElem?_cons_succ, List.set_cons_zero, List.set_cons_succ, Option.isSome_some, ite_true, ite_false, Bool.false_eq_true, true_and, and_true, if_true, if_false, Nat.reduceSub, Nat.reduceAdd, Nat.reduceLT, Bool.not_true, Bool.not_false, reduceIte, eq_self, okC_int, okC_bl, okC_lnil, eqD_lnil, okC_tI, okC_lI, eqD_int, eqD_bl, eqD_tups, eqD_lsts, isTy_int_int, isTy_int_bool, isTy_int_tuple, isTy_tup_tuple, isTy_tup_int, isTy_str_str, isTy_bl_int, isTy_bl_bool, List.length_map, List.length_range, ↓r_Rg3, ↓r_St, ↓r_Dc, ↓r_Dg, ↓r_In, ↓r_IxN, ↓r_Ss, ↓r_IsB, ↓sd__law_kin, ↓sd__law_step, ↓sd_kin_step, ↓sd_kin_count, ↓sd_least_kin, ↓sd__law_turn, ↓sd__law_mirror, ↓sd_same_echo, ↓sd_echo_of]
      have ee : crossV xs xs = crossV ys ys := (kin_echo h0 mk).symm
      exact ifn (by decide +kernel) ⟨ys, rfl, y0, by omega, mir ys, j', rfl, by omega, by omega, ifne e2 ⟨xs, ys, 6, rfl, hxy, h0, by omega, bx, by_, by decide, by decide, ift ee ⟨xs, 6, rfl, h0, by omega, bx, by decide, by decide, ys, 6, rfl, y0, by omega, by_, by decide, by decide, ift ee h⟩⟩⟩
    · refine ⟨xs, rfl, h0, by omega, bx, fun out ik => ⟨xs, ys, rfl, hxy, h0, by omega, ?_⟩⟩
      refine ⟨xs, rfl, h0, by omega, bx, fun out2 ik2 => ?_⟩
      obtain rfl : out = out2 := ik.eq h0 bx ik2 (kin_self h0)
      refine ⟨xs, rfl, h0, by omega, bx, fun out2 ik2 => ?_⟩
      obtain rfl : out = out2 := ik.eq h0 bx ik2 (kin_self h0)
      refine ⟨xs, ys, rfl, hxy, h0, by omega, ?_⟩
      have o0 := ik.pos h0
      have km := kin_many h0 ik.nd ik.mem
      have kz : (2 * (xs.length : Int)) % (out.length : Int) = 0 := by exact_mod_cast km
      have o1 : out.length ≤ 24 := by have := Nat.le_of_dvd (by omega) (Nat.dvd_of_mod_eq_zero km); omega
      have bh : Bd 6 (out.headD []) := bd_kin h0 bx ((ik.mem _).mp (head_mem o0))
      have lh : (out.headD []).length ≤ 12 := by rw [kin_len h0 ((ik.mem _).mp (head_mem o0))]; exact hn
      have mo : decide (ys ∈ out) = false := by exact decide_eq_false fun z => mk ((ik.mem ys).mp z)
      have hs := fun (b : List (List Int)) (ib : IsKin ys b) => head_same h0 y0 bx ik ib
      have ha := head_at o0
      generalize out.headD [] = hd at ha bh lh hs
      rw [s1]
      try simp only [↓r_V, ↓r_C, ↓r_Op, ↓r_B, ↓r_Chain, ↓r_And, ↓r_Or, ↓r_Not, ↓r_AndV, ↓r_OrV, ↓r_NotV, ↓r_If, ↓r_Un, ↓r_Add, ↓r_I, ↓r_I0, ↓r_Mul, ↓r_Eq, ↓r_Is, ↓r_Nil, ↓r_Cons, ↓r_Tup, ↓r_N, ↓r_CatN, ↓r_RepN, ↓r_No, ↓r_So, ↓r_Sl, ↓r_One, ↓r_Len, ↓r_Int1, ↓r_Int, ↓r_Sum, ↓r_Max, ↓r_All, ↓r_Min2, ↓r_Isi, ↓r_Repr, ↓r_TupOf, ↓r_LstOf, ↓r_Rd, ↓r_Rn, ↓r_Nm, ↓r_Gnil, ↓r_Gcons, ↓r_Gtup, ↓r_Glst, ↓r_Next, ↓r_Seq, ↓r_Cut, ↓r_Never, ↓r_Brk, ↓r_Cnt, ↓r_Drop, ↓r_Ret, ↓r_RetN, ↓r_IfS, ↓r_Set, ↓r_Asg, ↓r_Aug, ↓r_App, ↓r_Par, ↓r_Par3, ↓r_SeqI, ↓r_Rg1, ↓r_Rg2, ↓r_EnT, ↓r_For, ↓r_While, ↓r_Yes, ↓r_Lc, ↓r_Call, ↓r_CallF, ↓r_EqA, ↓r_asD, ↓r_seqOf, ↓r_dataOf, ↓r_isOw, ↓r_Ix, ↓r_Sub, ixx_some, at_0, at_1, at_2, at_3, at_4, ix_40, ix_41, ix_42, ix_43, RV.sl, b2n, Pu.isNon, notRaw, endP, endF, endL, slots0, wipeE, wipeL, List.map_cons, List.map_nil, List.length_cons, List.length_nil, decide_eq_true_eq, decide_true, decide_false, List.cons_append, List.nil_append, List.append_nil, List.replicate_succ, List.replicate_zero, List.getElem?_cons_zero, List.getElem?_cons_succ, List.set_cons_zero, List.set_cons_succ, Option.isSome_some, ite_true, ite_false, Bool.false_eq_true, true_and, and_true, if_true, if_false, Nat.reduceSub, Nat.reduceAdd, Nat.reduceLT, Bool.not_true, Bool.not_false, reduceIte, eq_self, okC_int, okC_bl, okC_lnil, eqD_lnil, okC_tI, okC_lI, eqD_int, eqD_bl, eqD_tups, eqD_lsts, isTy_int_int, isTy_int_bool, isTy_int_tuple, isTy_tup_tuple, isTy_tup_int, isTy_str_str, isTy_bl_int, isTy_bl_bool, List.length_map, List.length_range, ↓r_Rg3, ↓r_St, ↓r_Dc, ↓r_Dg, ↓r_In, ↓r_IxN, ↓r_Ss, ↓r_IsB, ↓sd__law_kin, ↓sd__law_step, ↓sd_kin_step, ↓sd_kin_count, ↓sd_least_kin, ↓sd__law_turn, ↓sd__law_mirror, ↓sd_same_echo, ↓sd_echo_of]
      refine ⟨fun ε => ε = { sl := [.sh (tI xs), .sh (tI ys), .ow none ([tI hd, .int out.length, .non]), .un, .sh (.lst (out.map fun r => (tI r : Pu.D))), .sh (.non)], fs := 0 }, ?_, ?_⟩
      · try simp only [↓r_V, ↓r_C, ↓r_Op, ↓r_B, ↓r_Chain, ↓r_And, ↓r_Or, ↓r_Not, ↓r_AndV, ↓r_OrV, ↓r_NotV, ↓r_If, ↓r_Un, ↓r_Add, ↓r_I, ↓r_I0, ↓r_Mul, ↓r_Eq, ↓r_Is, ↓r_Nil, ↓r_Cons, ↓r_Tup, ↓r_N, ↓r_CatN, ↓r_RepN, ↓r_No, ↓r_So, ↓r_Sl, ↓r_One, ↓r_Len, ↓r_Int1, ↓r_Int, ↓r_Sum, ↓r_Max, ↓r_All, ↓r_Min2, ↓r_Isi, ↓r_Repr, ↓r_TupOf, ↓r_LstOf, ↓r_Rd, ↓r_Rn, ↓r_Nm, ↓r_Gnil, ↓r_Gcons, ↓r_Gtup, ↓r_Glst, ↓r_Next, ↓r_Seq, ↓r_Cut, ↓r_Never, ↓r_Brk, ↓r_Cnt, ↓r_Drop, ↓r_Ret, ↓r_RetN, ↓r_IfS, ↓r_Set, ↓r_Asg, ↓r_Aug, ↓r_App, ↓r_Par, ↓r_Par3, ↓r_SeqI, ↓r_Rg1, ↓r_Rg2, ↓r_EnT, ↓r_For, ↓r_While, ↓r_Yes, ↓r_Lc, ↓r_Call, ↓r_CallF, ↓r_EqA, ↓r_asD, ↓r_seqOf, ↓r_dataOf, ↓r_isOw, ↓r_Ix, ↓r_Sub, ixx_some, at_0, at_1, at_2, at_3, at_4, ix_40, ix_41, ix_42, ix_43, RV.sl, b2n, Pu.isNon, notRaw, endP, endF, endL, slots0, wipeE, wipeL, List.map_cons, List.map_nil, List.length_cons, List.length_nil, decide_eq_true_eq, decide_true, decide_false, List.cons_append, List.nil_append, List.append_nil, List.replicate_succ, List.replicate_zero, List.getElem?_cons_zero, List.getElem?_cons_succ, List.set_cons_zero, List.set_cons_succ, Option.isSome_some, ite_true, ite_false, Bool.false_eq_true, true_and, and_true, if_true, if_false, Nat.reduceSub, Nat.reduceAdd, Nat.reduceLT, Bool.not_true, Bool.not_false, reduceIte, eq_self, okC_int, okC_bl, okC_lnil, eqD_lnil, okC_tI, okC_lI, eqD_int, eqD_bl, eqD_tups, eqD_lsts, isTy_int_int, isTy_int_bool, isTy_int_tuple, isTy_tup_tuple, isTy_tup_int, isTy_str_str, isTy_bl_int, isTy_bl_bool, List.length_map, List.length_range, ↓r_Rg3, ↓r_St, ↓r_Dc, ↓r_Dg, ↓r_In, ↓r_IxN, ↓r_Ss, ↓r_IsB, ↓sd__law_kin, ↓sd__law_step, ↓sd_kin_step, ↓sd_kin_count, ↓sd_least_kin, ↓sd__law_turn, ↓sd__law_mirror, ↓sd_same_echo, ↓sd_echo_of]
        rw [ha]
        have okS : OkS [(.non : Pu.D)] 1 2000 := oks_mono (k := 0) (n := 6) oks_non (by decide) (by decide)
        have ok : OkRp (Pu.D.lst [tI hd, .int out.length, .non]) := okrp_lst (k := 1) (n := 1923 * 12 + 5 + (1923 + 2000)) (oks_cons (oks_tI (b := 6) (m := 12) (k := 0) bh lh) (oks_cons (oks_int (b := 64) (by omega)) okS))
        refine ⟨ok, ?_⟩
        try simp only [↓r_V, ↓r_C, ↓r_Op, ↓r_B, ↓r_Chain, ↓r_And, ↓r_Or, ↓r_Not, ↓r_AndV, ↓r_OrV, ↓r_NotV, ↓r_If, ↓r_Un, ↓r_Add, ↓r_I, ↓r_I0, ↓r_Mul, ↓r_Eq, ↓r_Is, ↓r_Nil, ↓r_Cons, ↓r_Tup, ↓r_N, ↓r_CatN, ↓r_RepN, ↓r_No, ↓r_So, ↓r_Sl, ↓r_One, ↓r_Len, ↓r_Int1, ↓r_Int, ↓r_Sum, ↓r_Max, ↓r_All, ↓r_Min2, ↓r_Isi, ↓r_Repr, ↓r_TupOf, ↓r_LstOf, ↓r_Rd, ↓r_Rn, ↓r_Nm, ↓r_Gnil, ↓r_Gcons, ↓r_Gtup, ↓r_Glst, ↓r_Next, ↓r_Seq, ↓r_Cut, ↓r_Never, ↓r_Brk, ↓r_Cnt, ↓r_Drop, ↓r_Ret, ↓r_RetN, ↓r_IfS, ↓r_Set, ↓r_Asg, ↓r_Aug, ↓r_App, ↓r_Par, ↓r_Par3, ↓r_SeqI, ↓r_Rg1, ↓r_Rg2, ↓r_EnT, ↓r_For, ↓r_While, ↓r_Yes, ↓r_Lc, ↓r_Call, ↓r_CallF, ↓r_EqA, ↓r_asD, ↓r_seqOf, ↓r_dataOf, ↓r_isOw, ↓r_Ix, ↓r_Sub, ixx_some, at_0, at_1, at_2, at_3, at_4, ix_40, ix_41, ix_42, ix_43, RV.sl, b2n, Pu.isNon, notRaw, endP, endF, endL, slots0, wipeE, wipeL, List.map_cons, List.map_nil, List.length_cons, List.length_nil, decide_eq_true_eq, decide_true, decide_false, List.cons_append, List.nil_append, List.append_nil, List.replicate_succ, List.replicate_zero, List.getElem?_cons_zero, List.getElem?_cons_succ, List.set_cons_zero, List.set_cons_succ, Option.isSome_some, ite_true, ite_false, Bool.false_eq_true, true_and, and_true, if_true, if_false, Nat.reduceSub, Nat.reduceAdd, Nat.reduceLT, Bool.not_true, Bool.not_false, reduceIte, eq_self, okC_int, okC_bl, okC_lnil, eqD_lnil, okC_tI, okC_lI, eqD_int, eqD_bl, eqD_tups, eqD_lsts, isTy_int_int, isTy_int_bool, isTy_int_tuple, isTy_tup_tuple, isTy_tup_int, isTy_str_str, isTy_bl_int, isTy_bl_bool, List.length_map, List.length_range, ↓r_Rg3, ↓r_St, ↓r_Dc, ↓r_Dg, ↓r_In, ↓r_IxN, ↓r_Ss, ↓r_IsB, ↓sd__law_kin, ↓sd__law_step, ↓sd_kin_step, ↓sd_kin_count, ↓sd_least_kin, ↓sd__law_turn, ↓sd__law_mirror, ↓sd_same_echo, ↓sd_echo_of]
        exact ⟨ok, mulW (a := 64) (b := 64) (by decide) (by omega), by omega, ifne kz trivial⟩
      rintro ε3 rfl
      refine ⟨fun ε => ε = { sl := [.sh (tI xs), .sh (tI ys), .ow none ([tI hd, .int out.length, .non]), .un, .sh (.lst (out.map fun r => (tI r : Pu.D))), .sh (.non)], fs := 0 }, ?_, ?_⟩
      · try simp only [↓r_V, ↓r_C, ↓r_Op, ↓r_B, ↓r_Chain, ↓r_And, ↓r_Or, ↓r_Not, ↓r_AndV, ↓r_OrV, ↓r_NotV, ↓r_If, ↓r_Un, ↓r_Add, ↓r_I, ↓r_I0, ↓r_Mul, ↓r_Eq, ↓r_Is, ↓r_Nil, ↓r_Cons, ↓r_Tup, ↓r_N, ↓r_CatN, ↓r_RepN, ↓r_No, ↓r_So, ↓r_Sl, ↓r_One, ↓r_Len, ↓r_Int1, ↓r_Int, ↓r_Sum, ↓r_Max, ↓r_All, ↓r_Min2, ↓r_Isi, ↓r_Repr, ↓r_TupOf, ↓r_LstOf, ↓r_Rd, ↓r_Rn, ↓r_Nm, ↓r_Gnil, ↓r_Gcons, ↓r_Gtup, ↓r_Glst, ↓r_Next, ↓r_Seq, ↓r_Cut, ↓r_Never, ↓r_Brk, ↓r_Cnt, ↓r_Drop, ↓r_Ret, ↓r_RetN, ↓r_IfS, ↓r_Set, ↓r_Asg, ↓r_Aug, ↓r_App, ↓r_Par, ↓r_Par3, ↓r_SeqI, ↓r_Rg1, ↓r_Rg2, ↓r_EnT, ↓r_For, ↓r_While, ↓r_Yes, ↓r_Lc, ↓r_Call, ↓r_CallF, ↓r_EqA, ↓r_asD, ↓r_seqOf, ↓r_dataOf, ↓r_isOw, ↓r_Ix, ↓r_Sub, ixx_some, at_0, at_1, at_2, at_3, at_4, ix_40, ix_41, ix_42, ix_43, RV.sl, b2n, Pu.isNon, notRaw, endP, endF, endL, slots0, wipeE, wipeL, List.map_cons, List.map_nil, List.length_cons, List.length_nil, decide_eq_true_eq, decide_true, decide_false, List.cons_append, List.nil_append, List.append_nil, List.replicate_succ, List.replicate_zero, List.getElem?_cons_zero, List.getElem?_cons_succ, List.set_cons_zero, List.set_cons_succ, Option.isSome_some, ite_true, ite_false, Bool.false_eq_true, true_and, and_true, if_true, if_false, Nat.reduceSub, Nat.reduceAdd, Nat.reduceLT, Bool.not_true, Bool.not_false, reduceIte, eq_self, okC_int, okC_bl, okC_lnil, eqD_lnil, okC_tI, okC_lI, eqD_int, eqD_bl, eqD_tups, eqD_lsts, isTy_int_int, isTy_int_bool, isTy_int_tuple, isTy_tup_tuple, isTy_tup_int, isTy_str_str, isTy_bl_int, isTy_bl_bool, List.length_map, List.length_range, ↓r_Rg3, ↓r_St, ↓r_Dc, ↓r_Dg, ↓r_In, ↓r_IxN, ↓r_Ss, ↓r_IsB, ↓sd__law_kin, ↓sd__law_step, ↓sd_kin_step, ↓sd_kin_count, ↓sd_least_kin, ↓sd__law_turn, ↓sd__law_mirror, ↓sd_same_echo, ↓sd_echo_of]
        refine ⟨okC_rows _ _, ?_⟩
        rw [Pu.any_rows, mo]
        try simp only [↓r_V, ↓r_C, ↓r_Op, ↓r_B, ↓r_Chain, ↓r_And, ↓r_Or, ↓r_Not, ↓r_AndV, ↓r_OrV, ↓r_NotV, ↓r_If, ↓r_Un, ↓r_Add, ↓r_I, ↓r_I0, ↓r_Mul, ↓r_Eq, ↓r_Is, ↓r_Nil, ↓r_Cons, ↓r_Tup, ↓r_N, ↓r_CatN, ↓r_RepN, ↓r_No, ↓r_So, ↓r_Sl, ↓r_One, ↓r_Len, ↓r_Int1, ↓r_Int, ↓r_Sum, ↓r_Max, ↓r_All, ↓r_Min2, ↓r_Isi, ↓r_Repr, ↓r_TupOf, ↓r_LstOf, ↓r_Rd, ↓r_Rn, ↓r_Nm, ↓r_Gnil, ↓r_Gcons, ↓r_Gtup, ↓r_Glst, ↓r_Next, ↓r_Seq, ↓r_Cut, ↓r_Never, ↓r_Brk, ↓r_Cnt, ↓r_Drop, ↓r_Ret, ↓r_RetN, ↓r_IfS, ↓r_Set, ↓r_Asg, ↓r_Aug, ↓r_App, ↓r_Par, ↓r_Par3, ↓r_SeqI, ↓r_Rg1, ↓r_Rg2, ↓r_EnT, ↓r_For, ↓r_While, ↓r_Yes, ↓r_Lc, ↓r_Call, ↓r_CallF, ↓r_EqA, ↓r_asD, ↓r_seqOf, ↓r_dataOf, ↓r_isOw, ↓r_Ix, ↓r_Sub, ixx_some, at_0, at_1, at_2, at_3, at_4, ix_40, ix_41, ix_42, ix_43, RV.sl, b2n, Pu.isNon, notRaw, endP, endF, endL, slots0, wipeE, wipeL, List.map_cons, List.map_nil, List.length_cons, List.length_nil, decide_eq_true_eq, decide_true, decide_false, List.cons_append, List.nil_append, List.append_nil, List.replicate_succ, List.replicate_zero, List.getElem?_cons_zero, List.getElem?_cons_succ, List.set_cons_zero, List.set_cons_succ, Option.isSome_some, ite_true, ite_false, Bool.false_eq_true, true_and, and_true, if_true, if_false, Nat.reduceSub, Nat.reduceAdd, Nat.reduceLT, Bool.not_true, Bool.not_false, reduceIte, eq_self, okC_int, okC_bl, okC_lnil, eqD_lnil, okC_tI, okC_lI, eqD_int, eqD_bl, eqD_tups, eqD_lsts, isTy_int_int, isTy_int_bool, isTy_int_tuple, isTy_tup_tuple, isTy_tup_int, isTy_str_str, isTy_bl_int, isTy_bl_bool, List.length_map, List.length_range, ↓r_Rg3, ↓r_St, ↓r_Dc, ↓r_Dg, ↓r_In, ↓r_IxN, ↓r_Ss, ↓r_IsB, ↓sd__law_kin, ↓sd__law_step, ↓sd_kin_step, ↓sd_kin_count, ↓sd_least_kin, ↓sd__law_turn, ↓sd__law_mirror, ↓sd_same_echo, ↓sd_echo_of]
        refine ⟨ys, rfl, y0, by omega, by_, fun out3 ik3 => ?_⟩
        rw [ha]
        have hq := hs out3 ik3
        generalize out3.headD [] = h3 at hq
        try simp only [↓r_V, ↓r_C, ↓r_Op, ↓r_B, ↓r_Chain, ↓r_And, ↓r_Or, ↓r_Not, ↓r_AndV, ↓r_OrV, ↓r_NotV, ↓r_If, ↓r_Un, ↓r_Add, ↓r_I, ↓r_I0, ↓r_Mul, ↓r_Eq, ↓r_Is, ↓r_Nil, ↓r_Cons, ↓r_Tup, ↓r_N, ↓r_CatN, ↓r_RepN, ↓r_No, ↓r_So, ↓r_Sl, ↓r_One, ↓r_Len, ↓r_Int1, ↓r_Int, ↓r_Sum, ↓r_Max, ↓r_All, ↓r_Min2, ↓r_Isi, ↓r_Repr, ↓r_TupOf, ↓r_LstOf, ↓r_Rd, ↓r_Rn, ↓r_Nm, ↓r_Gnil, ↓r_Gcons, ↓r_Gtup, ↓r_Glst, ↓r_Next, ↓r_Seq, ↓r_Cut, ↓r_Never, ↓r_Brk, ↓r_Cnt, ↓r_Drop, ↓r_Ret, ↓r_RetN, ↓r_IfS, ↓r_Set, ↓r_Asg, ↓r_Aug, ↓r_App, ↓r_Par, ↓r_Par3, ↓r_SeqI, ↓r_Rg1, ↓r_Rg2, ↓r_EnT, ↓r_For, ↓r_While, ↓r_Yes, ↓r_Lc, ↓r_Call, ↓r_CallF, ↓r_EqA, ↓r_asD, ↓r_seqOf, ↓r_dataOf, ↓r_isOw, ↓r_Ix, ↓r_Sub, ixx_some, at_0, at_1, at_2, at_3, at_4, ix_40, ix_41, ix_42, ix_43, RV.sl, b2n, Pu.isNon, notRaw, endP, endF, endL, slots0, wipeE, wipeL, List.map_cons, List.map_nil, List.length_cons, List.length_nil, decide_eq_true_eq, decide_true, decide_false, List.cons_append, List.nil_append, List.append_nil, List.replicate_succ, List.replicate_zero, List.getElem?_cons_zero, List.getElem?_cons_succ, List.set_cons_zero, List.set_cons_succ, Option.isSome_some, ite_true, ite_false, Bool.false_eq_true, true_and, and_true, if_true, if_false, Nat.reduceSub, Nat.reduceAdd, Nat.reduceLT, Bool.not_true, Bool.not_false, reduceIte, eq_self, okC_int, okC_bl, okC_lnil, eqD_lnil, okC_tI, okC_lI, eqD_int, eqD_bl, eqD_tups, eqD_lsts, isTy_int_int, isTy_int_bool, isTy_int_tuple, isTy_tup_tuple, isTy_tup_int, isTy_str_str, isTy_bl_int, isTy_bl_bool, List.length_map, List.length_range, ↓r_Rg3, ↓r_St, ↓r_Dc, ↓r_Dg, ↓r_In, ↓r_IxN, ↓r_Ss, ↓r_IsB, ↓sd__law_kin, ↓sd__law_step, ↓sd_kin_step, ↓sd_kin_count, ↓sd_least_kin, ↓sd__law_turn, ↓sd__law_mirror, ↓sd_same_echo, ↓sd_echo_of]
        refine ⟨okC_rows _ _, ?_⟩
        rw [Pu.any_rows]
        exact ifne (by rw [mo, decide_eq_false fun z => mk (hq.mp z)]) trivial
      rintro ε3 rfl
      try simp only [↓r_V, ↓r_C, ↓r_Op, ↓r_B, ↓r_Chain, ↓r_And, ↓r_Or, ↓r_Not, ↓r_AndV, ↓r_OrV, ↓r_NotV, ↓r_If, ↓r_Un, ↓r_Add, ↓r_I, ↓r_I0, ↓r_Mul, ↓r_Eq, ↓r_Is, ↓r_Nil, ↓r_Cons, ↓r_Tup, ↓r_N, ↓r_CatN, ↓r_RepN, ↓r_No, ↓r_So, ↓r_Sl, ↓r_One, ↓r_Len, ↓r_Int1, ↓r_Int, ↓r_Sum, ↓r_Max, ↓r_All, ↓r_Min2, ↓r_Isi, ↓r_Repr, ↓r_TupOf, ↓r_LstOf, ↓r_Rd, ↓r_Rn, ↓r_Nm, ↓r_Gnil, ↓r_Gcons, ↓r_Gtup, ↓r_Glst, ↓r_Next, ↓r_Seq, ↓r_Cut, ↓r_Never, ↓r_Brk, ↓r_Cnt, ↓r_Drop, ↓r_Ret, ↓r_RetN, ↓r_IfS, ↓r_Set, ↓r_Asg, ↓r_Aug, ↓r_App, ↓r_Par, ↓r_Par3, ↓r_SeqI, ↓r_Rg1, ↓r_Rg2, ↓r_EnT, ↓r_For, ↓r_While, ↓r_Yes, ↓r_Lc, ↓r_Call, ↓r_CallF, ↓r_EqA, ↓r_asD, ↓r_seqOf, ↓r_dataOf, ↓r_isOw, ↓r_Ix, ↓r_Sub, ixx_some, at_0, at_1, at_2, at_3, at_4, ix_40, ix_41, ix_42, ix_43, RV.sl, b2n, Pu.isNon, notRaw, endP, endF, endL, slots0, wipeE, wipeL, List.map_cons, List.map_nil, List.length_cons, List.length_nil, decide_eq_true_eq, decide_true, decide_false, List.cons_append, List.nil_append, List.append_nil, List.replicate_succ, List.replicate_zero, List.getElem?_cons_zero, List.getElem?_cons_succ, List.set_cons_zero, List.set_cons_succ, Option.isSome_some, ite_true, ite_false, Bool.false_eq_true, true_and, and_true, if_true, if_false, Nat.reduceSub, Nat.reduceAdd, Nat.reduceLT, Bool.not_true, Bool.not_false, reduceIte, eq_self, okC_int, okC_bl, okC_lnil, eqD_lnil, okC_tI, okC_lI, eqD_int, eqD_bl, eqD_tups, eqD_lsts, isTy_int_int, isTy_int_bool, isTy_int_tuple, isTy_tup_tuple, isTy_tup_int, isTy_str_str, isTy_bl_int, isTy_bl_bool, List.length_map, List.length_range, ↓r_Rg3, ↓r_St, ↓r_Dc, ↓r_Dg, ↓r_In, ↓r_IxN, ↓r_Ss, ↓r_IsB, ↓sd__law_kin, ↓sd__law_step, ↓sd_kin_step, ↓sd_kin_count, ↓sd_least_kin, ↓sd__law_turn, ↓sd__law_mirror, ↓sd_same_echo, ↓sd_echo_of]
      refine ⟨ys, xs, rfl, by omega, y0, by omega, ?_⟩
      rw [s2]
      try simp only [↓r_V, ↓r_C, ↓r_Op, ↓r_B, ↓r_Chain, ↓r_And, ↓r_Or, ↓r_Not, ↓r_AndV, ↓r_OrV, ↓r_NotV, ↓r_If, ↓r_Un, ↓r_Add, ↓r_I, ↓r_I0, ↓r_Mul, ↓r_Eq, ↓r_Is, ↓r_Nil, ↓r_Cons, ↓r_Tup, ↓r_N, ↓r_CatN, ↓r_RepN, ↓r_No, ↓r_So, ↓r_Sl, ↓r_One, ↓r_Len, ↓r_Int1, ↓r_Int, ↓r_Sum, ↓r_Max, ↓r_All, ↓r_Min2, ↓r_Isi, ↓r_Repr, ↓r_TupOf, ↓r_LstOf, ↓r_Rd, ↓r_Rn, ↓r_Nm, ↓r_Gnil, ↓r_Gcons, ↓r_Gtup, ↓r_Glst, ↓r_Next, ↓r_Seq, ↓r_Cut, ↓r_Never, ↓r_Brk, ↓r_Cnt, ↓r_Drop, ↓r_Ret, ↓r_RetN, ↓r_IfS, ↓r_Set, ↓r_Asg, ↓r_Aug, ↓r_App, ↓r_Par, ↓r_Par3, ↓r_SeqI, ↓r_Rg1, ↓r_Rg2, ↓r_EnT, ↓r_For, ↓r_While, ↓r_Yes, ↓r_Lc, ↓r_Call, ↓r_CallF, ↓r_EqA, ↓r_asD, ↓r_seqOf, ↓r_dataOf, ↓r_isOw, ↓r_Ix, ↓r_Sub, ixx_some, at_0, at_1, at_2, at_3, at_4, ix_40, ix_41, ix_42, ix_43, RV.sl, b2n, Pu.isNon, notRaw, endP, endF, endL, slots0, wipeE, wipeL, List.map_cons, List.map_nil, List.length_cons, List.length_nil, decide_eq_true_eq, decide_true, decide_false, List.cons_append, List.nil_append, List.append_nil, List.replicate_succ, List.replicate_zero, List.getElem?_cons_zero, List.getElem?_cons_succ, List.set_cons_zero, List.set_cons_succ, Option.isSome_some, ite_true, ite_false, Bool.false_eq_true, true_and, and_true, if_true, if_false, Nat.reduceSub, Nat.reduceAdd, Nat.reduceLT, Bool.not_true, Bool.not_false, reduceIte, eq_self, okC_int, okC_bl, okC_lnil, eqD_lnil, okC_tI, okC_lI, eqD_int, eqD_bl, eqD_tups, eqD_lsts, isTy_int_int, isTy_int_bool, isTy_int_tuple, isTy_tup_tuple, isTy_tup_int, isTy_str_str, isTy_bl_int, isTy_bl_bool, List.length_map, List.length_range, ↓r_Rg3, ↓r_St, ↓r_Dc, ↓r_Dg, ↓r_In, ↓r_IxN, ↓r_Ss, ↓r_IsB, ↓sd__law_kin, ↓sd__law_step, ↓sd_kin_step, ↓sd_kin_count, ↓sd_least_kin, ↓sd__law_turn, ↓sd__law_mirror, ↓sd_same_echo, ↓sd_echo_of]
      exact h
end
end U32

set_option Elab.async false
set_option linter.all false
set_option maxRecDepth 100000
set_option maxHeartbeats 4000000
namespace U32
open PySem PySem.Spec PyProof.Rows L2 Gd RZ Pu Pv Pm
section
variable {P : Program} {w : World} {K : PySem.W.Frag} {mg : Str → Option Value} {base : Heap}
theorem c__law_feed (D : At K mg "_law_feed" s__law_feed ["_law_script"])  : CalG P w K mg base 1 "_law_feed" ["_law_script"] (spFeedS K okI) := by
  have nd := sc__law_feed.nd
  apply ok_feedL (okI := okI) D sc__law_feed (by decide) rfl
  case body =>
    intro f cdv A outer s H E hr hG
    exact (qn_lst (qa_cons (q_slice (qv 0) qo_none (qo_some q_int)) (qa_cons q_int (qa_cons q_int (qa_cons q_int qa_nil)))))
  case go =>
    intro ns hn
    try simp only [↓r_V, ↓r_C, ↓r_Op, ↓r_B, ↓r_Chain, ↓r_And, ↓r_Or, ↓r_Not, ↓r_AndV, ↓r_OrV, ↓r_NotV, ↓r_If, ↓r_Un, ↓r_Add, ↓r_I, ↓r_I0, ↓r_Mul, ↓r_Eq, ↓r_Is, ↓r_Nil, ↓r_Cons, ↓r_Tup, ↓r_N, ↓r_CatN, ↓r_RepN, ↓r_No, ↓r_So, ↓r_Sl, ↓r_One, ↓r_Len, ↓r_Int1, ↓r_Int, ↓r_Sum, ↓r_Max, ↓r_All, ↓r_Min2, ↓r_Isi, ↓r_Repr, ↓r_TupOf, ↓r_LstOf, ↓r_Rd, ↓r_Rn, ↓r_Nm, ↓r_Gnil, ↓r_Gcons, ↓r_Gtup, ↓r_Glst, ↓r_Next, ↓r_Seq, ↓r_Cut, ↓r_Never, ↓r_Brk, ↓r_Cnt, ↓r_Drop, ↓r_Ret, ↓r_RetN, ↓r_IfS, ↓r_Set, ↓r_Asg, ↓r_Aug, ↓r_App, ↓r_Par, ↓r_Par3, ↓r_SeqI, ↓r_Rg1, ↓r_Rg2, ↓r_EnT, ↓r_For, ↓r_While, ↓r_Yes, ↓r_Lc, ↓r_Call, ↓r_CallF, ↓r_EqA, ↓r_asD, ↓r_seqOf, ↓r_dataOf, ↓r_isOw, ↓r_Ix, ↓r_Sub, ixx_some, at_0, at_1, at_2, at_3, at_4, ix_40, ix_41, ix_42, ix_43, RV.sl, b2n, Pu.isNon, notRaw, endP, endF, endL, slots0, wipeE, wipeL, List.map_cons, List.map_nil, List.length_cons, List.length_nil, decide_eq_true_eq, decide_true, decide_false, List.cons_append, List.nil_append, List.append_nil, List.replicate_succ, List.replicate_zero, List.getElem?_cons_zero, List.getElem?_cons_succ, List.set_cons_zero, List.set_cons_succ, Option.isSome_some, ite_true, ite_false, Bool.false_eq_true, true_and, and_true, if_true, if_false, Nat.reduceSub, Nat.reduceAdd, Nat.reduceLT, Bool.not_true, Bool.not_false, reduceIte, eq_self, okC_int, okC_bl, okC_lnil, eqD_lnil, okC_tI, okC_lI, eqD_int, eqD_bl, eqD_tups, eqD_lsts, isTy_int_int, isTy_int_bool, isTy_int_tuple, isTy_tup_tuple, isTy_tup_int, isTy_str_str, isTy_bl_int, isTy_bl_bool, List.length_map, List.length_range, ↓r_Rg3, ↓r_St, ↓r_Dc, ↓r_Dg, ↓r_In, ↓r_IxN, ↓r_Ss, ↓r_IsB]
    exact ⟨_, 0, 0, 0, rfl, by decide, by decide, by decide, by decide⟩
theorem okG_law (hN : base.NoDigits) {f : Addr} {fd : FuncData} (F : Fun K "law" "law" s_law f fd) (c__law_feed : CalG P w K mg base 1 "_law_feed" ["_law_script"] (spFeedS K okI)) (c__law_voice : CalG P w K mg base 2 "_law_voice" ["_law_feed_here", "_law_wide", "_law_way"] (spF K (FdL K okI) 2 sd__law_voice)) (c__law_draw : CalG P w K mg base 1 "_law_draw" ["_law_feed_here", "_law_bound"] (spF K (FdL K okI) 1 sd__law_draw)) (c__law_is_told : CalG P w K mg base 8 "_law_is_told" ["_law_one", "_law_other"] (spP K 2 sd__law_is_told)) (c__law_near : CalG P w K mg base 3 "_law_near" ["_law_feed_here", "_law_one"] (spF K (FdL K okI) 1 sd__law_near)) (z_range : mg "range" = none) : FnG P w K mg base 9 f fd ["_law_script"] (spLawS K) := by
  refine okG F sc_law (fun vs H Q E h => ?_) (fun cdv A outer s H vs Q E hr hG h => ?_)
  · obtain ⟨a, ns, rfl, _⟩ := h
    rfl
  obtain ⟨a0, ns0, rfl, ha, hz, k⟩ := h
  have nd := sc_law.nd
  have hu64 := hr.units
  obtain ⟨t, p, sd⟩ := QSs.ex (X := (cxOf CX0 P w K mg base N_law "law" (defScope s_law) f cdv A outer s H E).nox) (F := FdL K okI) (sts := (defBody s_law).tail) ((qss_cons (qs_for PassesOwn.never rfl (qi_rg1 (by rfl) z_range q_int) (qg_name (i := 2) nd rfl (.inl rfl))
 (qss_cons (qs_set (i := 3) nd rfl (.inl rfl) (qr_d (q_callF (i := 1) c__law_voice hr hG (by decide) (by rfl) (qa_cons (q_op op_addA l_add q_int (q_callF (i := 1) c__law_draw hr hG (by decide) (by rfl) (qa_cons q_int qa_nil) rfl)) (qa_cons (q_callF (i := 1) c__law_draw hr hG (by decide) (by rfl) (qa_cons q_int qa_nil) rfl) qa_nil)) rfl)))
 (qss_one (qs_if (QW.qt (qw_or (qt_not (qt_val (q_call c__law_is_told hr hG (by decide) (by rfl) (qa_cons (qv 3) (qa_cons (q_callF (i := 1) c__law_near hr hG (by decide) (by rfl) (qa_cons (qv 3) qa_nil) rfl) qa_nil)) rfl))) (qw_or1 (qt_not (qt_val (q_call c__law_is_told hr hG (by decide) (by rfl) (qa_cons (qv 3) (qa_cons (qv 3) qa_nil)) rfl))))))
 (qss_one (qs_ret q_bl))
 qss_nil))))
 (qss_one (qs_ret q_bl))))
  refine ⟨_, pss_cons (ps_set (i := 1) nd rfl (.inl rfl) (pe_kG c__law_feed hr hG (by decide) (by rfl) (pa_cons (pv 0) pa_nil))) p, ?_⟩
  refine ⟨_, rfl, a0, ns0, rfl, ha, hz, fun d H' Hs o g1 g2 g3 g4 => ?_⟩
  refine law_end (ε := { sl := [.un, .fd, .un, .un], fs := 0 }) sd (rep_law (n := 2) g1 g2 g3 g4) k ?_
  clear sd p t
  try simp only [↓r_V, ↓r_C, ↓r_Op, ↓r_B, ↓r_Chain, ↓r_And, ↓r_Or, ↓r_Not, ↓r_AndV, ↓r_OrV, ↓r_NotV, ↓r_If, ↓r_Un, ↓r_Add, ↓r_I, ↓r_I0, ↓r_Mul, ↓r_Eq, ↓r_Is, ↓r_Nil, ↓r_Cons, ↓r_Tup, ↓r_N, ↓r_CatN, ↓r_RepN, ↓r_No, ↓r_So, ↓r_Sl, ↓r_One, ↓r_Len, ↓r_Int1, ↓r_Int, ↓r_Sum, ↓r_Max, ↓r_All, ↓r_Min2, ↓r_Isi, ↓r_Repr, ↓r_TupOf, ↓r_LstOf, ↓r_Rd, ↓r_Rn, ↓r_Nm, ↓r_Gnil, ↓r_Gcons, ↓r_Gtup, ↓r_Glst, ↓r_Next, ↓r_Seq, ↓r_Cut, ↓r_Never, ↓r_Brk, ↓r_Cnt, ↓r_Drop, ↓r_Ret, ↓r_RetN, ↓r_IfS, ↓r_Set, ↓r_Asg, ↓r_Aug, ↓r_App, ↓r_Par, ↓r_Par3, ↓r_SeqI, ↓r_Rg1, ↓r_Rg2, ↓r_EnT, ↓r_For, ↓r_While, ↓r_Yes, ↓r_Lc, ↓r_Call, ↓r_CallF, ↓r_EqA, ↓r_asD, ↓r_seqOf, ↓r_dataOf, ↓r_isOw, ↓r_Ix, ↓r_Sub, ixx_some, at_0, at_1, at_2, at_3, at_4, ix_40, ix_41, ix_42, ix_43, RV.sl, b2n, Pu.isNon, notRaw, endP, endF, endL, slots0, wipeE, wipeL, List.map_cons, List.map_nil, List.length_cons, List.length_nil, decide_eq_true_eq, decide_true, decide_false, List.cons_append, List.nil_append, List.append_nil, List.replicate_succ, List.replicate_zero, List.getElem?_cons_zero, List.getElem?_cons_succ, List.set_cons_zero, List.set_cons_succ, Option.isSome_some, ite_true, ite_false, Bool.false_eq_true, true_and, and_true, if_true, if_false, Nat.reduceSub, Nat.reduceAdd, Nat.reduceLT, Bool.not_true, Bool.not_false, reduceIte, eq_self, okC_int, okC_bl, okC_lnil, eqD_lnil, okC_tI, okC_lI, eqD_int, eqD_bl, eqD_tups, eqD_lsts, isTy_int_int, isTy_int_bool, isTy_int_tuple, isTy_tup_tuple, isTy_tup_int, isTy_str_str, isTy_bl_int, isTy_bl_bool, List.length_map, List.length_range, ↓r_Rg3, ↓r_St, ↓r_Dc, ↓r_Dg, ↓r_In, ↓r_IxN, ↓r_Ss, ↓r_IsB, ↓sd__law_voice, ↓sd__law_draw, ↓sd__law_is_told, ↓sd__law_near]
  refine ⟨by decide, fun i ε => ∃ (s2 s3 : Sl) (B : Nat), B ≤ 400 * i ∧ ε = { sl := [.un, .fd, s2, s3], fs := B }, ⟨_, _, 0, by omega, rfl⟩, ?_, ?_⟩
  · rintro i d ε2 hd ⟨s2, s3, B, hB, rfl⟩
    obtain ⟨hi, rfl⟩ := rg_get hd
    have hi : i < 5 := hi
    try simp only [↓r_V, ↓r_C, ↓r_Op, ↓r_B, ↓r_Chain, ↓r_And, ↓r_Or, ↓r_Not, ↓r_AndV, ↓r_OrV, ↓r_NotV, ↓r_If, ↓r_Un, ↓r_Add, ↓r_I, ↓r_I0, ↓r_Mul, ↓r_Eq, ↓r_Is, ↓r_Nil, ↓r_Cons, ↓r_Tup, ↓r_N, ↓r_CatN, ↓r_RepN, ↓r_No, ↓r_So, ↓r_Sl, ↓r_One, ↓r_Len, ↓r_Int1, ↓r_Int, ↓r_Sum, ↓r_Max, ↓r_All, ↓r_Min2, ↓r_Isi, ↓r_Repr, ↓r_TupOf, ↓r_LstOf, ↓r_Rd, ↓r_Rn, ↓r_Nm, ↓r_Gnil, ↓r_Gcons, ↓r_Gtup, ↓r_Glst, ↓r_Next, ↓r_Seq, ↓r_Cut, ↓r_Never, ↓r_Brk, ↓r_Cnt, ↓r_Drop, ↓r_Ret, ↓r_RetN, ↓r_IfS, ↓r_Set, ↓r_Asg, ↓r_Aug, ↓r_App, ↓r_Par, ↓r_Par3, ↓r_SeqI, ↓r_Rg1, ↓r_Rg2, ↓r_EnT, ↓r_For, ↓r_While, ↓r_Yes, ↓r_Lc, ↓r_Call, ↓r_CallF, ↓r_EqA, ↓r_asD, ↓r_seqOf, ↓r_dataOf, ↓r_isOw, ↓r_Ix, ↓r_Sub, ixx_some, at_0, at_1, at_2, at_3, at_4, ix_40, ix_41, ix_42, ix_43, RV.sl, b2n, Pu.isNon, notRaw, endP, endF, endL, slots0, wipeE, wipeL, List.map_cons, List.map_nil, List.length_cons, List.length_nil, decide_eq_true_eq, decide_true, decide_false, List.cons_append, List.nil_append, List.append_nil, List.replicate_succ, List.replicate_zero, List.getElem?_cons_zero, List.getElem?_cons_succ, List.set_cons_zero, List.set_cons_succ, Option.isSome_some, ite_true, ite_false, Bool.false_eq_true, true_and, and_true, if_true, if_false, Nat.reduceSub, Nat.reduceAdd, Nat.reduceLT, Bool.not_true, Bool.not_false, reduceIte, eq_self, okC_int, okC_bl, okC_lnil, eqD_lnil, okC_tI, okC_lI, eqD_int, eqD_bl, eqD_tups, eqD_lsts, isTy_int_int, isTy_int_bool, isTy_int_tuple, isTy_tup_tuple, isTy_tup_int, isTy_str_str, isTy_bl_int, isTy_bl_bool, List.length_map, List.length_range, ↓r_Rg3, ↓r_St, ↓r_Dc, ↓r_Dg, ↓r_In, ↓r_IxN, ↓r_Ss, ↓r_IsB, ↓sd__law_voice, ↓sd__law_draw, ↓sd__law_is_told, ↓sd__law_near]
    refine ⟨12, rfl, by decide, by decide, by omega, fun r r0 r1 => ⟨5, rfl, by decide, by decide, by omega, fun v v0 v1 => ?_⟩⟩
    obtain ⟨n, hn⟩ : ∃ n : Nat, 1 + r = n := ⟨(1 + r).toNat, by omega⟩
    try simp only [↓r_V, ↓r_C, ↓r_Op, ↓r_B, ↓r_Chain, ↓r_And, ↓r_Or, ↓r_Not, ↓r_AndV, ↓r_OrV, ↓r_NotV, ↓r_If, ↓r_Un, ↓r_Add, ↓r_I, ↓r_I0, ↓r_Mul, ↓r_Eq, ↓r_Is, ↓r_Nil, ↓r_Cons, ↓r_Tup, ↓r_N, ↓r_CatN, ↓r_RepN, ↓r_No, ↓r_So, ↓r_Sl, ↓r_One, ↓r_Len, ↓r_Int1, ↓r_Int, ↓r_Sum, ↓r_Max, ↓r_All, ↓r_Min2, ↓r_Isi, ↓r_Repr, ↓r_TupOf, ↓r_LstOf, ↓r_Rd, ↓r_Rn, ↓r_Nm, ↓r_Gnil, ↓r_Gcons, ↓r_Gtup, ↓r_Glst, ↓r_Next, ↓r_Seq, ↓r_Cut, ↓r_Never, ↓r_Brk, ↓r_Cnt, ↓r_Drop, ↓r_Ret, ↓r_RetN, ↓r_IfS, ↓r_Set, ↓r_Asg, ↓r_Aug, ↓r_App, ↓r_Par, ↓r_Par3, ↓r_SeqI, ↓r_Rg1, ↓r_Rg2, ↓r_EnT, ↓r_For, ↓r_While, ↓r_Yes, ↓r_Lc, ↓r_Call, ↓r_CallF, ↓r_EqA, ↓r_asD, ↓r_seqOf, ↓r_dataOf, ↓r_isOw, ↓r_Ix, ↓r_Sub, ixx_some, at_0, at_1, at_2, at_3, at_4, ix_40, ix_41, ix_42, ix_43, RV.sl, b2n, Pu.isNon, notRaw, endP, endF, endL, slots0, wipeE, wipeL, List.map_cons, List.map_nil, List.length_cons, List.length_nil, decide_eq_true_eq, decide_true, decide_false, List.cons_append, List.nil_append, List.append_nil, List.replicate_succ, List.replicate_zero, List.getElem?_cons_zero, List.getElem?_cons_succ, List.set_cons_zero, List.set_cons_succ, Option.isSome_some, ite_true, ite_false, Bool.false_eq_true, true_and, and_true, if_true, if_false, Nat.reduceSub, Nat.reduceAdd, Nat.reduceLT, Bool.not_true, Bool.not_false, reduceIte, eq_self, okC_int, okC_bl, okC_lnil, eqD_lnil, okC_tI, okC_lI, eqD_int, eqD_bl, eqD_tups, eqD_lsts, isTy_int_int, isTy_int_bool, isTy_int_tuple, isTy_tup_tuple, isTy_tup_int, isTy_str_str, isTy_bl_int, isTy_bl_bool, List.length_map, List.length_range, ↓r_Rg3, ↓r_St, ↓r_Dc, ↓r_Dg, ↓r_In, ↓r_IxN, ↓r_Ss, ↓r_IsB, ↓sd__law_voice, ↓sd__law_draw, ↓sd__law_is_told, ↓sd__law_near]
    rw [hn]
    refine ⟨n, v, rfl, by omega, by omega, by omega, fun xs B2 lx bx hB2 => ?_⟩
    try simp only [↓r_V, ↓r_C, ↓r_Op, ↓r_B, ↓r_Chain, ↓r_And, ↓r_Or, ↓r_Not, ↓r_AndV, ↓r_OrV, ↓r_NotV, ↓r_If, ↓r_Un, ↓r_Add, ↓r_I, ↓r_I0, ↓r_Mul, ↓r_Eq, ↓r_Is, ↓r_Nil, ↓r_Cons, ↓r_Tup, ↓r_N, ↓r_CatN, ↓r_RepN, ↓r_No, ↓r_So, ↓r_Sl, ↓r_One, ↓r_Len, ↓r_Int1, ↓r_Int, ↓r_Sum, ↓r_Max, ↓r_All, ↓r_Min2, ↓r_Isi, ↓r_Repr, ↓r_TupOf, ↓r_LstOf, ↓r_Rd, ↓r_Rn, ↓r_Nm, ↓r_Gnil, ↓r_Gcons, ↓r_Gtup, ↓r_Glst, ↓r_Next, ↓r_Seq, ↓r_Cut, ↓r_Never, ↓r_Brk, ↓r_Cnt, ↓r_Drop, ↓r_Ret, ↓r_RetN, ↓r_IfS, ↓r_Set, ↓r_Asg, ↓r_Aug, ↓r_App, ↓r_Par, ↓r_Par3, ↓r_SeqI, ↓r_Rg1, ↓r_Rg2, ↓r_EnT, ↓r_For, ↓r_While, ↓r_Yes, ↓r_Lc, ↓r_Call, ↓r_CallF, ↓r_EqA, ↓r_asD, ↓r_seqOf, ↓r_dataOf, ↓r_isOw, ↓r_Ix, ↓r_Sub, ixx_some, at_0, at_1, at_2, at_3, at_4, ix_40, ix_41, ix_42, ix_43, RV.sl, b2n, Pu.isNon, notRaw, endP, endF, endL, slots0, wipeE, wipeL, List.map_cons, List.map_nil, List.length_cons, List.length_nil, decide_eq_true_eq, decide_true, decide_false, List.cons_append, List.nil_append, List.append_nil, List.replicate_succ, List.replicate_zero, List.getElem?_cons_zero, List.getElem?_cons_succ, List.set_cons_zero, List.set_cons_succ, Option.isSome_some, ite_true, ite_false, Bool.false_eq_true, true_and, and_true, if_true, if_false, Nat.reduceSub, Nat.reduceAdd, Nat.reduceLT, Bool.not_true, Bool.not_false, reduceIte, eq_self, okC_int, okC_bl, okC_lnil, eqD_lnil, okC_tI, okC_lI, eqD_int, eqD_bl, eqD_tups, eqD_lsts, isTy_int_int, isTy_int_bool, isTy_int_tuple, isTy_tup_tuple, isTy_tup_int, isTy_str_str, isTy_bl_int, isTy_bl_bool, List.length_map, List.length_range, ↓r_Rg3, ↓r_St, ↓r_Dc, ↓r_Dg, ↓r_In, ↓r_IxN, ↓r_Ss, ↓r_IsB, ↓sd__law_voice, ↓sd__law_draw, ↓sd__law_is_told, ↓sd__law_near]
    refine ⟨xs, rfl, by omega, by omega, bx, by omega, fun ys B3 ly by_ hB3 => ?_⟩
    try simp only [↓r_V, ↓r_C, ↓r_Op, ↓r_B, ↓r_Chain, ↓r_And, ↓r_Or, ↓r_Not, ↓r_AndV, ↓r_OrV, ↓r_NotV, ↓r_If, ↓r_Un, ↓r_Add, ↓r_I, ↓r_I0, ↓r_Mul, ↓r_Eq, ↓r_Is, ↓r_Nil, ↓r_Cons, ↓r_Tup, ↓r_N, ↓r_CatN, ↓r_RepN, ↓r_No, ↓r_So, ↓r_Sl, ↓r_One, ↓r_Len, ↓r_Int1, ↓r_Int, ↓r_Sum, ↓r_Max, ↓r_All, ↓r_Min2, ↓r_Isi, ↓r_Repr, ↓r_TupOf, ↓r_LstOf, ↓r_Rd, ↓r_Rn, ↓r_Nm, ↓r_Gnil, ↓r_Gcons, ↓r_Gtup, ↓r_Glst, ↓r_Next, ↓r_Seq, ↓r_Cut, ↓r_Never, ↓r_Brk, ↓r_Cnt, ↓r_Drop, ↓r_Ret, ↓r_RetN, ↓r_IfS, ↓r_Set, ↓r_Asg, ↓r_Aug, ↓r_App, ↓r_Par, ↓r_Par3, ↓r_SeqI, ↓r_Rg1, ↓r_Rg2, ↓r_EnT, ↓r_For, ↓r_While, ↓r_Yes, ↓r_Lc, ↓r_Call, ↓r_CallF, ↓r_EqA, ↓r_asD, ↓r_seqOf, ↓r_dataOf, ↓r_isOw, ↓r_Ix, ↓r_Sub, ixx_some, at_0, at_1, at_2, at_3, at_4, ix_40, ix_41, ix_42, ix_43, RV.sl, b2n, Pu.isNon, notRaw, endP, endF, endL, slots0, wipeE, wipeL, List.map_cons, List.map_nil, List.length_cons, List.length_nil, decide_eq_true_eq, decide_true, decide_false, List.cons_append, List.nil_append, List.append_nil, List.replicate_succ, List.replicate_zero, List.getElem?_cons_zero, List.getElem?_cons_succ, List.set_cons_zero, List.set_cons_succ, Option.isSome_some, ite_true, ite_false, Bool.false_eq_true, true_and, and_true, if_true, if_false, Nat.reduceSub, Nat.reduceAdd, Nat.reduceLT, Bool.not_true, Bool.not_false, reduceIte, eq_self, okC_int, okC_bl, okC_lnil, eqD_lnil, okC_tI, okC_lI, eqD_int, eqD_bl, eqD_tups, eqD_lsts, isTy_int_int, isTy_int_bool, isTy_int_tuple, isTy_tup_tuple, isTy_tup_int, isTy_str_str, isTy_bl_int, isTy_bl_bool, List.length_map, List.length_range, ↓r_Rg3, ↓r_St, ↓r_Dc, ↓r_Dg, ↓r_In, ↓r_IxN, ↓r_Ss, ↓r_IsB, ↓sd__law_voice, ↓sd__law_draw, ↓sd__law_is_told, ↓sd__law_near]
    refine ⟨xs, ys, rfl, ly, by omega, by omega, bx.bd, by_, ?_⟩
    try simp only [↓r_V, ↓r_C, ↓r_Op, ↓r_B, ↓r_Chain, ↓r_And, ↓r_Or, ↓r_Not, ↓r_AndV, ↓r_OrV, ↓r_NotV, ↓r_If, ↓r_Un, ↓r_Add, ↓r_I, ↓r_I0, ↓r_Mul, ↓r_Eq, ↓r_Is, ↓r_Nil, ↓r_Cons, ↓r_Tup, ↓r_N, ↓r_CatN, ↓r_RepN, ↓r_No, ↓r_So, ↓r_Sl, ↓r_One, ↓r_Len, ↓r_Int1, ↓r_Int, ↓r_Sum, ↓r_Max, ↓r_All, ↓r_Min2, ↓r_Isi, ↓r_Repr, ↓r_TupOf, ↓r_LstOf, ↓r_Rd, ↓r_Rn, ↓r_Nm, ↓r_Gnil, ↓r_Gcons, ↓r_Gtup, ↓r_Glst, ↓r_Next, ↓r_Seq, ↓r_Cut, ↓r_Never, ↓r_Brk, ↓r_Cnt, ↓r_Drop, ↓r_Ret, ↓r_RetN, ↓r_IfS, ↓r_Set, ↓r_Asg, ↓r_Aug, ↓r_App, ↓r_Par, ↓r_Par3, ↓r_SeqI, ↓r_Rg1, ↓r_Rg2, ↓r_EnT, ↓r_For, ↓r_While, ↓r_Yes, ↓r_Lc, ↓r_Call, ↓r_CallF, ↓r_EqA, ↓r_asD, ↓r_seqOf, ↓r_dataOf, ↓r_isOw, ↓r_Ix, ↓r_Sub, ixx_some, at_0, at_1, at_2, at_3, at_4, ix_40, ix_41, ix_42, ix_43, RV.sl, b2n, Pu.isNon, notRaw, endP, endF, endL, slots0, wipeE, wipeL, List.map_cons, List.map_nil, List.length_cons, List.length_nil, decide_eq_true_eq, decide_true, decide_false, List.cons_append, List.nil_append, List.append_nil, List.replicate_succ, List.replicate_zero, List.getElem?_cons_zero, List.getElem?_cons_succ, List.set_cons_zero, List.set_cons_succ, Option.isSome_some, ite_true, ite_false, Bool.false_eq_true, true_and, and_true, if_true, if_false, Nat.reduceSub, Nat.reduceAdd, Nat.reduceLT, Bool.not_true, Bool.not_false, reduceIte, eq_self, okC_int, okC_bl, okC_lnil, eqD_lnil, okC_tI, okC_lI, eqD_int, eqD_bl, eqD_tups, eqD_lsts, isTy_int_int, isTy_int_bool, isTy_int_tuple, isTy_tup_tuple, isTy_tup_int, isTy_str_str, isTy_bl_int, isTy_bl_bool, List.length_map, List.length_range, ↓r_Rg3, ↓r_St, ↓r_Dc, ↓r_Dg, ↓r_In, ↓r_IxN, ↓r_Ss, ↓r_IsB, ↓sd__law_voice, ↓sd__law_draw, ↓sd__law_is_told, ↓sd__law_near]
    refine ⟨xs, xs, rfl, rfl, by omega, by omega, bx.bd, bx.bd, ?_⟩
    try simp only [↓r_V, ↓r_C, ↓r_Op, ↓r_B, ↓r_Chain, ↓r_And, ↓r_Or, ↓r_Not, ↓r_AndV, ↓r_OrV, ↓r_NotV, ↓r_If, ↓r_Un, ↓r_Add, ↓r_I, ↓r_I0, ↓r_Mul, ↓r_Eq, ↓r_Is, ↓r_Nil, ↓r_Cons, ↓r_Tup, ↓r_N, ↓r_CatN, ↓r_RepN, ↓r_No, ↓r_So, ↓r_Sl, ↓r_One, ↓r_Len, ↓r_Int1, ↓r_Int, ↓r_Sum, ↓r_Max, ↓r_All, ↓r_Min2, ↓r_Isi, ↓r_Repr, ↓r_TupOf, ↓r_LstOf, ↓r_Rd, ↓r_Rn, ↓r_Nm, ↓r_Gnil, ↓r_Gcons, ↓r_Gtup, ↓r_Glst, ↓r_Next, ↓r_Seq, ↓r_Cut, ↓r_Never, ↓r_Brk, ↓r_Cnt, ↓r_Drop, ↓r_Ret, ↓r_RetN, ↓r_IfS, ↓r_Set, ↓r_Asg, ↓r_Aug, ↓r_App, ↓r_Par, ↓r_Par3, ↓r_SeqI, ↓r_Rg1, ↓r_Rg2, ↓r_EnT, ↓r_For, ↓r_While, ↓r_Yes, ↓r_Lc, ↓r_Call, ↓r_CallF, ↓r_EqA, ↓r_asD, ↓r_seqOf, ↓r_dataOf, ↓r_isOw, ↓r_Ix, ↓r_Sub, ixx_some, at_0, at_1, at_2, at_3, at_4, ix_40, ix_41, ix_42, ix_43, RV.sl, b2n, Pu.isNon, notRaw, endP, endF, endL, slots0, wipeE, wipeL, List.map_cons, List.map_nil, List.length_cons, List.length_nil, decide_eq_true_eq, decide_true, decide_false, List.cons_append, List.nil_append, List.append_nil, List.replicate_succ, List.replicate_zero, List.getElem?_cons_zero, List.getElem?_cons_succ, List.set_cons_zero, List.set_cons_succ, Option.isSome_some, ite_true, ite_false, Bool.false_eq_true, true_and, and_true, if_true, if_false, Nat.reduceSub, Nat.reduceAdd, Nat.reduceLT, Bool.not_true, Bool.not_false, reduceIte, eq_self, okC_int, okC_bl, okC_lnil, eqD_lnil, okC_tI, okC_lI, eqD_int, eqD_bl, eqD_tups, eqD_lsts, isTy_int_int, isTy_int_bool, isTy_int_tuple, isTy_tup_tuple, isTy_tup_int, isTy_str_str, isTy_bl_int, isTy_bl_bool, List.length_map, List.length_range, ↓r_Rg3, ↓r_St, ↓r_Dc, ↓r_Dg, ↓r_In, ↓r_IxN, ↓r_Ss, ↓r_IsB, ↓sd__law_voice, ↓sd__law_draw, ↓sd__law_is_told, ↓sd__law_near]
    exact ⟨_, _, B3, by omega, rfl⟩
  · rintro ε2 ⟨s2, s3, B, hB, rfl⟩
    try simp only [↓r_V, ↓r_C, ↓r_Op, ↓r_B, ↓r_Chain, ↓r_And, ↓r_Or, ↓r_Not, ↓r_AndV, ↓r_OrV, ↓r_NotV, ↓r_If, ↓r_Un, ↓r_Add, ↓r_I, ↓r_I0, ↓r_Mul, ↓r_Eq, ↓r_Is, ↓r_Nil, ↓r_Cons, ↓r_Tup, ↓r_N, ↓r_CatN, ↓r_RepN, ↓r_No, ↓r_So, ↓r_Sl, ↓r_One, ↓r_Len, ↓r_Int1, ↓r_Int, ↓r_Sum, ↓r_Max, ↓r_All, ↓r_Min2, ↓r_Isi, ↓r_Repr, ↓r_TupOf, ↓r_LstOf, ↓r_Rd, ↓r_Rn, ↓r_Nm, ↓r_Gnil, ↓r_Gcons, ↓r_Gtup, ↓r_Glst, ↓r_Next, ↓r_Seq, ↓r_Cut, ↓r_Never, ↓r_Brk, ↓r_Cnt, ↓r_Drop, ↓r_Ret, ↓r_RetN, ↓r_IfS, ↓r_Set, ↓r_Asg, ↓r_Aug, ↓r_App, ↓r_Par, ↓r_Par3, ↓r_SeqI, ↓r_Rg1, ↓r_Rg2, ↓r_EnT, ↓r_For, ↓r_While, ↓r_Yes, ↓r_Lc, ↓r_Call, ↓r_CallF, ↓r_EqA, ↓r_asD, ↓r_seqOf, ↓r_dataOf, ↓r_isOw, ↓r_Ix, ↓r_Sub, ixx_some, at_0, at_1, at_2, at_3, at_4, ix_40, ix_41, ix_42, ix_43, RV.sl, b2n, Pu.isNon, notRaw, endP, endF, endL, slots0, wipeE, wipeL, List.map_cons, List.map_nil, List.length_cons, List.length_nil, decide_eq_true_eq, decide_true, decide_false, List.cons_append, List.nil_append, List.append_nil, List.replicate_succ, List.replicate_zero, List.getElem?_cons_zero, List.getElem?_cons_succ, List.set_cons_zero, List.set_cons_succ, Option.isSome_some, ite_true, ite_false, Bool.false_eq_true, true_and, and_true, if_true, if_false, Nat.reduceSub, Nat.reduceAdd, Nat.reduceLT, Bool.not_true, Bool.not_false, reduceIte, eq_self, okC_int, okC_bl, okC_lnil, eqD_lnil, okC_tI, okC_lI, eqD_int, eqD_bl, eqD_tups, eqD_lsts, isTy_int_int, isTy_int_bool, isTy_int_tuple, isTy_tup_tuple, isTy_tup_int, isTy_str_str, isTy_bl_int, isTy_bl_bool, List.length_map, List.length_range, ↓r_Rg3, ↓r_St, ↓r_Dc, ↓r_Dg, ↓r_In, ↓r_IxN, ↓r_Ss, ↓r_IsB, ↓sd__law_voice, ↓sd__law_draw, ↓sd__law_is_told, ↓sd__law_near]
    rfl
end
end U32

set_option Elab.async false
set_option linter.all false
set_option maxRecDepth 100000
namespace U32
open PySem PySem.Spec PyProof.Rows L2 Gd RZ Pu Pv Pm
section
variable {w : World} {K : PySem.W.Frag} {h : Heap} {mg : Str → Option Value}
theorem at1 {x a1 : String} {st : Stmt} {f : Addr} {od an : Option Addr} {sl : Array (Option Value)} {oc kV dc pm cd ct : Value} (X : K.In h) (G : h.Ns mainGlobals mg)
    (a : PySem.W.nsIn K mainGlobals x = some (some (.ref f))) (l : K.lookup f = some ⟨oc, od, .func (PySem.W.fnOf x x (defArgs st) (defBody st) (defScope st) .none kV dc pm an cd ct), sl⟩) (c : PySem.W.codeIn K cd x = true) (k : PySem.W.keepIn K (.ref f) = true)
    (hb : ∀ (kV doc pm : Value) (an : Option Addr) (cdv ct u : Value), bindArgs (PySem.W.fnOf x x (defArgs st) (defBody st) (defScope st) .none kV doc pm an cdv ct) ⟨[u], []⟩ = pure [((a1 : Str), u)]) : At K mg x st [(a1 : Str)] :=
  ⟨f, _, PySem.W.mg_of X G a, fun_mk l c k, (fun_mk l c k).binds fun kV doc pm an cdv ct us hl => match us, hl with | [u], _ => hb kV doc pm an cdv ct u⟩
theorem at2 {x a1 a2 : String} {st : Stmt} {f : Addr} {od an : Option Addr} {sl : Array (Option Value)} {oc kV dc pm cd ct : Value} (X : K.In h) (G : h.Ns mainGlobals mg)
    (a : PySem.W.nsIn K mainGlobals x = some (some (.ref f))) (l : K.lookup f = some ⟨oc, od, .func (PySem.W.fnOf x x (defArgs st) (defBody st) (defScope st) .none kV dc pm an cd ct), sl⟩) (c : PySem.W.codeIn K cd x = true) (k : PySem.W.keepIn K (.ref f) = true)
    (hb : ∀ (kV doc pm : Value) (an : Option Addr) (cdv ct u v : Value), bindArgs (PySem.W.fnOf x x (defArgs st) (defBody st) (defScope st) .none kV doc pm an cdv ct) ⟨[u, v], []⟩ = pure [((a1 : Str), u), ((a2 : Str), v)]) : At K mg x st [(a1 : Str), (a2 : Str)] :=
  ⟨f, _, PySem.W.mg_of X G a, fun_mk l c k, (fun_mk l c k).binds fun kV doc pm an cdv ct us hl => match us, hl with | [u, v], _ => hb kV doc pm an cdv ct u v⟩
theorem at3 {x a1 a2 a3 : String} {st : Stmt} {f : Addr} {od an : Option Addr} {sl : Array (Option Value)} {oc kV dc pm cd ct : Value} (X : K.In h) (G : h.Ns mainGlobals mg)
    (a : PySem.W.nsIn K mainGlobals x = some (some (.ref f))) (l : K.lookup f = some ⟨oc, od, .func (PySem.W.fnOf x x (defArgs st) (defBody st) (defScope st) .none kV dc pm an cd ct), sl⟩) (c : PySem.W.codeIn K cd x = true) (k : PySem.W.keepIn K (.ref f) = true)
    (hb : ∀ (kV doc pm : Value) (an : Option Addr) (cdv ct u v z : Value), bindArgs (PySem.W.fnOf x x (defArgs st) (defBody st) (defScope st) .none kV doc pm an cdv ct) ⟨[u, v, z], []⟩ = pure [((a1 : Str), u), ((a2 : Str), v), ((a3 : Str), z)]) : At K mg x st [(a1 : Str), (a2 : Str), (a3 : Str)] :=
  ⟨f, _, PySem.W.mg_of X G a, fun_mk l c k, (fun_mk l c k).binds fun kV doc pm an cdv ct us hl => match us, hl with | [u, v, z], _ => hb kV doc pm an cdv ct u v z⟩
variable {P : Program}
theorem all_mk {fa : Addr} (hfa : mg "law" = some (.ref fa)) (D__law_feed : At K mg "_law_feed" s__law_feed ["_law_script"]) (D__law_voice : At K mg "_law_voice" s__law_voice ["_law_feed_here", "_law_wide", "_law_way"]) (D__law_draw : At K mg "_law_draw" s__law_draw ["_law_feed_here", "_law_bound"]) (z_int : mg "int" = none) (z_len : mg "len" = none) (z_range : mg "range" = none) (z_tuple : mg "tuple" = none) (D__law_is_told : At K mg "_law_is_told" s__law_is_told ["_law_one", "_law_other"]) (D__law_kin : At K mg "_law_kin" s__law_kin ["_law_voice_here"]) (D__law_mirror : At K mg "_law_mirror" s__law_mirror ["_law_voice_here"]) (D__law_turn : At K mg "_law_turn" s__law_turn ["_law_voice_here", "_law_k"]) (z_set : mg "set" = none) (z_sorted : mg "sorted" = none) (D__law_step : At K mg "_law_step" s__law_step ["_law_one", "_law_other"]) (D_kin_step : At K mg "kin_step" s_kin_step ["one", "other"]) (D_need : At K mg "need" s_need ["fits", "word"]) (D_is_voice_of : At K mg "is_voice_of" s_is_voice_of ["size", "thing"]) (D_is_voice : At K mg "is_voice" s_is_voice ["thing"]) (D_are_integers : At K mg "are_integers" s_are_integers ["thing"]) (D_is_integer : At K mg "is_integer" s_is_integer ["thing"]) (z_bool : mg "bool" = none) (z_isinstance : mg "isinstance" = none) (z_all : mg "all" = none) (D_turns_of : At K mg "turns_of" s_turns_of ["voice"]) (D_turned : At K mg "turned" s_turned ["voice", "k"]) (D_mirrored : At K mg "mirrored" s_mirrored ["voice"]) (D_kin_count : At K mg "kin_count" s_kin_count ["voice"]) (D_kin_of : At K mg "kin_of" s_kin_of ["voice"]) (D_least_kin : At K mg "least_kin" s_least_kin ["voice"]) (D_same_echo : At K mg "same_echo" s_same_echo ["one", "other"]) (D_echo_of : At K mg "echo_of" s_echo_of ["voice"]) (D_product_of : At K mg "product_of" s_product_of ["one", "other"]) (z_enumerate : mg "enumerate" = none) (z_repr : mg "repr" = none) (D__law_near : At K mg "_law_near" s__law_near ["_law_feed_here", "_law_one"]) (z_list : mg "list" = none) (D_law : At K mg "law" s_law ["_law_script"]) :
    ∃ fd : FuncData, (∀ (s : Shared) (v : Value), BindsTo s fd ⟨[v], []⟩ [("_law_script", v)]) ∧ ∀ base : Heap, K.In base → base.Ns mainGlobals mg → base.NoDigits → FnG P w K mg base 9 fa fd ["_law_script"] (spLawS K) := by
  obtain ⟨f, fd, hm, F, _⟩ := D_law.ex
  cases hfa.symm.trans hm
  refine ⟨fd, ?_, fun base _ _ hN => ?_⟩
  · obtain ⟨oc, od, kV, doc, pm, an, cdv, ct, osl, rfl, lk, hcd⟩ := F.ex
    exact fun s v => .of_eq rfl
  have h__law_feed : CalG P w K mg base 1 "_law_feed" ["_law_script"] (spFeedS K okI) := U32.c__law_feed (P := P) (w := w) (base := base) D__law_feed
  have h__law_draw : CalG P w K mg base 1 "_law_draw" ["_law_feed_here", "_law_bound"] (spF K (FdL K okI) 1 sd__law_draw) := U32.c__law_draw (P := P) (w := w) (base := base) D__law_draw z_int z_len
  have h__law_voice : CalG P w K mg base 2 "_law_voice" ["_law_feed_here", "_law_wide", "_law_way"] (spF K (FdL K okI) 2 sd__law_voice) := U32.c__law_voice (P := P) (w := w) (base := base) D__law_voice h__law_draw z_int z_len z_range z_tuple
  have h__law_mirror : CalG P w K mg base 1 "_law_mirror" ["_law_voice_here"] (spP K 1 sd__law_mirror) := U32.c__law_mirror (P := P) (w := w) (base := base) D__law_mirror z_int z_len z_range z_tuple
  have h__law_turn : CalG P w K mg base 1 "_law_turn" ["_law_voice_here", "_law_k"] (spP K 2 sd__law_turn) := U32.c__law_turn (P := P) (w := w) (base := base) D__law_turn z_int z_len z_range z_tuple
  have h__law_kin : CalG P w K mg base 2 "_law_kin" ["_law_voice_here"] (spP K 1 sd__law_kin) := U32.c__law_kin (P := P) (w := w) (base := base) D__law_kin h__law_mirror h__law_turn z_len z_range z_set z_sorted
  have h__law_step : CalG P w K mg base 2 "_law_step" ["_law_one", "_law_other"] (spP K 2 sd__law_step) := U32.c__law_step (P := P) (w := w) (base := base) D__law_step h__law_mirror h__law_turn z_len z_range
  have h_need : CalG P w K mg base 1 "need" ["fits", "word"] (spP K 2 sd_need) := U32.c_need (P := P) (w := w) (base := base) D_need
  have h_is_integer : CalG P w K mg base 1 "is_integer" ["thing"] (spP K 1 sd_is_integer) := U32.c_is_integer (P := P) (w := w) (base := base) D_is_integer z_bool z_int z_isinstance
  have h_are_integers : CalG P w K mg base 2 "are_integers" ["thing"] (spP K 1 sd_are_integers) := U32.c_are_integers (P := P) (w := w) (base := base) D_are_integers h_is_integer z_all z_isinstance z_tuple
  have h_is_voice : CalG P w K mg base 3 "is_voice" ["thing"] (spP K 1 sd_is_voice) := U32.c_is_voice (P := P) (w := w) (base := base) D_is_voice h_are_integers z_len
  have h_is_voice_of : CalG P w K mg base 4 "is_voice_of" ["size", "thing"] (spP K 2 sd_is_voice_of) := U32.c_is_voice_of (P := P) (w := w) (base := base) D_is_voice_of h_is_voice z_len
  have h_turned : CalG P w K mg base 4 "turned" ["voice", "k"] (spP K 2 sd_turned) := U32.c_turned (P := P) (w := w) (base := base) D_turned h_need h_is_voice h_is_integer z_len z_range z_tuple
  have h_turns_of : CalG P w K mg base 5 "turns_of" ["voice"] (spP K 1 sd_turns_of) := U32.c_turns_of (P := P) (w := w) (base := base) D_turns_of h_turned z_len z_range
  have h_mirrored : CalG P w K mg base 4 "mirrored" ["voice"] (spP K 1 sd_mirrored) := U32.c_mirrored (P := P) (w := w) (base := base) D_mirrored h_need h_is_voice z_len z_range z_tuple
  have h_kin_step : CalG P w K mg base 6 "kin_step" ["one", "other"] (spP K 2 sd_kin_step) := U32.c_kin_step (P := P) (w := w) (base := base) D_kin_step h_need h_is_voice_of h_turns_of h_mirrored z_len
  have h_kin_of : CalG P w K mg base 6 "kin_of" ["voice"] (spP K 1 sd_kin_of) := U32.c_kin_of (P := P) (w := w) (base := base) D_kin_of h_turns_of h_mirrored z_set z_sorted
  have h_kin_count : CalG P w K mg base 7 "kin_count" ["voice"] (spP K 1 sd_kin_count) := U32.c_kin_count (P := P) (w := w) (base := base) D_kin_count h_kin_of z_len
  have h_least_kin : CalG P w K mg base 7 "least_kin" ["voice"] (spP K 1 sd_least_kin) := U32.c_least_kin (P := P) (w := w) (base := base) D_least_kin h_kin_of
  have h_product_of : CalG P w K mg base 5 "product_of" ["one", "other"] (spP K 2 sd_product_of) := U32.c_product_of (P := P) (w := w) (base := base) D_product_of h_need h_is_voice h_is_voice_of z_enumerate z_len z_range z_tuple
  have h_echo_of : CalG P w K mg base 6 "echo_of" ["voice"] (spP K 1 sd_echo_of) := U32.c_echo_of (P := P) (w := w) (base := base) D_echo_of h_product_of h_mirrored
  have h_same_echo : CalG P w K mg base 7 "same_echo" ["one", "other"] (spP K 2 sd_same_echo) := U32.c_same_echo (P := P) (w := w) (base := base) D_same_echo h_need h_is_voice_of h_echo_of z_len
  have h__law_is_told : CalG P w K mg base 8 "_law_is_told" ["_law_one", "_law_other"] (spP K 2 sd__law_is_told) := U32.c__law_is_told (P := P) (w := w) (base := base) D__law_is_told h__law_kin h__law_step h_kin_step h_kin_count h_least_kin h__law_turn h__law_mirror h_same_echo h_echo_of z_len z_repr
  have h__law_near : CalG P w K mg base 3 "_law_near" ["_law_feed_here", "_law_one"] (spF K (FdL K okI) 1 sd__law_near) := U32.c__law_near (P := P) (w := w) (base := base) D__law_near h__law_draw h__law_turn h__law_mirror h__law_voice z_len z_list z_tuple
  exact okG_law hN F h__law_feed h__law_voice h__law_draw h__law_is_told h__law_near z_range
end
end U32

set_option Elab.async false
set_option linter.all false
open PySem PySem.W PyProof.Rows
set_option maxRecDepth 100000 in
set_option maxHeartbeats 0 in
theorem PySem.Challenge.cw_silentbeats_k32_whole_kin_by_all_turns_holds : PySem.Challenge.rw_silentbeats_k32_whole_kin_by_all_turns.Holds := by
  w_on; o_law; k_head; (case hw => w_witness2)
  k_fill
  refine Gd.walkGD (l := PySem.Challenge.rw_silentbeats_k32_whole_kin_by_all_turns) (n := 63) (k := 9) (x := "_law_script") (sp := Pu.spLawS) rfl (by decide) rfl ⟨rfl, by decide, by decide⟩ (fun w h Y => PySem.W.kIn_of Y) ?F (fun _ _ a ns hl _ hS => ⟨a, ns, rfl, hS, hl, fun _ => rfl⟩)
  case F =>
    intro w mg fa h KX G hmg
    refine' U32.all_mk hmg (U32.at1 (x := "_law_feed") (st := U32.s__law_feed) KX G ?a1 ?l1 ?c1 ?k1 (fun _ _ _ _ _ _ _ => rfl)) (U32.at3 (x := "_law_voice") (st := U32.s__law_voice) KX G ?a2 ?l2 ?c2 ?k2 (fun _ _ _ _ _ _ _ _ _ => rfl)) (U32.at2 (x := "_law_draw") (st := U32.s__law_draw) KX G ?a3 ?l3 ?c3 ?k3 (fun _ _ _ _ _ _ _ _ => rfl)) (PySem.W.mg_none_of KX G ?z4) (PySem.W.mg_none_of KX G ?z5) (PySem.W.mg_none_of KX G ?z6) (PySem.W.mg_none_of KX G ?z7) (U32.at2 (x := "_law_is_told") (st := U32.s__law_is_told) KX G ?a8 ?l8 ?c8 ?k8 (fun _ _ _ _ _ _ _ _ => rfl)) (U32.at1 (x := "_law_kin") (st := U32.s__law_kin) KX G ?a9 ?l9 ?c9 ?k9 (fun _ _ _ _ _ _ _ => rfl)) (U32.at1 (x := "_law_mirror") (st := U32.s__law_mirror) KX G ?a10 ?l10 ?c10 ?k10 (fun _ _ _ _ _ _ _ => rfl)) (U32.at2 (x := "_law_turn") (st := U32.s__law_turn) KX G ?a11 ?l11 ?c11 ?k11 (fun _ _ _ _ _ _ _ _ => rfl)) (PySem.W.mg_none_of KX G ?z12) (PySem.W.mg_none_of KX G ?z13) (U32.at2 (x := "_law_step") (st := U32.s__law_step) KX G ?a14 ?l14 ?c14 ?k14 (fun _ _ _ _ _ _ _ _ => rfl)) (U32.at2 (x := "kin_step") (st := U32.s_kin_step) KX G ?a15 ?l15 ?c15 ?k15 (fun _ _ _ _ _ _ _ _ => rfl)) (U32.at2 (x := "need") (st := U32.s_need) KX G ?a16 ?l16 ?c16 ?k16 (fun _ _ _ _ _ _ _ _ => rfl)) (U32.at2 (x := "is_voice_of") (st := U32.s_is_voice_of) KX G ?a17 ?l17 ?c17 ?k17 (fun _ _ _ _ _ _ _ _ => rfl)) (U32.at1 (x := "is_voice") (st := U32.s_is_voice) KX G ?a18 ?l18 ?c18 ?k18 (fun _ _ _ _ _ _ _ => rfl)) (U32.at1 (x := "are_integers") (st := U32.s_are_integers) KX G ?a19 ?l19 ?c19 ?k19 (fun _ _ _ _ _ _ _ => rfl)) (U32.at1 (x := "is_integer") (st := U32.s_is_integer) KX G ?a20 ?l20 ?c20 ?k20 (fun _ _ _ _ _ _ _ => rfl)) (PySem.W.mg_none_of KX G ?z21) (PySem.W.mg_none_of KX G ?z22) (PySem.W.mg_none_of KX G ?z23) (U32.at1 (x := "turns_of") (st := U32.s_turns_of) KX G ?a24 ?l24 ?c24 ?k24 (fun _ _ _ _ _ _ _ => rfl)) (U32.at2 (x := "turned") (st := U32.s_turned) KX G ?a25 ?l25 ?c25 ?k25 (fun _ _ _ _ _ _ _ _ => rfl)) (U32.at1 (x := "mirrored") (st := U32.s_mirrored) KX G ?a26 ?l26 ?c26 ?k26 (fun _ _ _ _ _ _ _ => rfl)) (U32.at1 (x := "kin_count") (st := U32.s_kin_count) KX G ?a27 ?l27 ?c27 ?k27 (fun _ _ _ _ _ _ _ => rfl)) (U32.at1 (x := "kin_of") (st := U32.s_kin_of) KX G ?a28 ?l28 ?c28 ?k28 (fun _ _ _ _ _ _ _ => rfl)) (U32.at1 (x := "least_kin") (st := U32.s_least_kin) KX G ?a29 ?l29 ?c29 ?k29 (fun _ _ _ _ _ _ _ => rfl)) (U32.at2 (x := "same_echo") (st := U32.s_same_echo) KX G ?a30 ?l30 ?c30 ?k30 (fun _ _ _ _ _ _ _ _ => rfl)) (U32.at1 (x := "echo_of") (st := U32.s_echo_of) KX G ?a31 ?l31 ?c31 ?k31 (fun _ _ _ _ _ _ _ => rfl)) (U32.at2 (x := "product_of") (st := U32.s_product_of) KX G ?a32 ?l32 ?c32 ?k32 (fun _ _ _ _ _ _ _ _ => rfl)) (PySem.W.mg_none_of KX G ?z33) (PySem.W.mg_none_of KX G ?z34) (U32.at2 (x := "_law_near") (st := U32.s__law_near) KX G ?a35 ?l35 ?c35 ?k35 (fun _ _ _ _ _ _ _ _ => rfl)) (PySem.W.mg_none_of KX G ?z36) (U32.at1 (x := "law") (st := U32.s_law) KX G ?a37 ?l37 ?c37 ?k37 (fun _ _ _ _ _ _ _ => rfl))
    (case a1 => k_is); (case l1 => k_is); (case c1 => k_is); (case k1 => k_is); (case a2 => k_is); (case l2 => k_is); (case c2 => k_is); (case k2 => k_is); (case a3 => k_is); (case l3 => k_is); (case c3 => k_is); (case k3 => k_is); (case z4 => k_is); (case z5 => k_is); (case z6 => k_is); (case z7 => k_is); (case a8 => k_is); (case l8 => k_is); (case c8 => k_is); (case k8 => k_is); (case a9 => k_is); (case l9 => k_is); (case c9 => k_is); (case k9 => k_is); (case a10 => k_is); (case l10 => k_is); (case c10 => k_is); (case k10 => k_is); (case a11 => k_is); (case l11 => k_is); (case c11 => k_is); (case k11 => k_is); (case z12 => k_is); (case z13 => k_is); (case a14 => k_is); (case l14 => k_is); (case c14 => k_is); (case k14 => k_is); (case a15 => k_is); (case l15 => k_is); (case c15 => k_is); (case k15 => k_is); (case a16 => k_is); (case l16 => k_is); (case c16 => k_is); (case k16 => k_is); (case a17 => k_is); (case l17 => k_is); (case c17 => k_is); (case k17 => k_is); (case a18 => k_is); (case l18 => k_is); (case c18 => k_is); (case k18 => k_is); (case a19 => k_is); (case l19 => k_is); (case c19 => k_is); (case k19 => k_is); (case a20 => k_is); (case l20 => k_is); (case c20 => k_is); (case k20 => k_is); (case z21 => k_is); (case z22 => k_is); (case z23 => k_is); (case a24 => k_is); (case l24 => k_is); (case c24 => k_is); (case k24 => k_is); (case a25 => k_is); (case l25 => k_is); (case c25 => k_is); (case k25 => k_is); (case a26 => k_is); (case l26 => k_is); (case c26 => k_is); (case k26 => k_is); (case a27 => k_is); (case l27 => k_is); (case c27 => k_is); (case k27 => k_is); (case a28 => k_is); (case l28 => k_is); (case c28 => k_is); (case k28 => k_is); (case a29 => k_is); (case l29 => k_is); (case c29 => k_is); (case k29 => k_is); (case a30 => k_is); (case l30 => k_is); (case c30 => k_is); (case k30 => k_is); (case a31 => k_is); (case l31 => k_is); (case c31 => k_is); (case k31 => k_is); (case a32 => k_is); (case l32 => k_is); (case c32 => k_is); (case k32 => k_is); (case z33 => k_is); (case z34 => k_is); (case a35 => k_is); (case l35 => k_is); (case c35 => k_is); (case k35 => k_is); (case z36 => k_is); (case a37 => k_is); (case l37 => k_is); (case c37 => k_is); (case k37 => k_is)
