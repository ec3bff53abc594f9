import PyProof.Rows.All
import PySem.Challenge.RW_silentbeats_k08_whole_silent_at_told_div
import HandS.ForMost
import HandS.Gcd
import HandS.Wide
import HandS.Star
import HandS.Conv
import HandS.Strs
import HandS.Flow
import HandS.IsInst
import HandS.Codes
import HandS.Walk
import HandS.SortInts
import HandS.SetFor
import HandS.Defaults
import PyProof.ReprRoads
import PyProof.ReprLen
import PyProof.FitsInt
import HandS.Style
import HandS.TupMul
import HandS.Zip
import HandS.TupAny
import PyProof.WalkInts
import PyProof.Rows.SumAny
import PyProof.Rows.StrOr
import KE.GoesEnum
import KE.GoesMore
import PyProof.EnumMake
import HandS.NoneIn
import HandS.Rev
import HandS.RevRange
import HandS.WideBits
import HandS.Iter
import HandS.Words
import HandS.ExcInit
import HandS.WordsExc
import HandS.TryOnly
import KE.GoesZip
import KE.KTurns
import PyProof.ZipIter
import KE.KExcIs
import HandS.Exc
import HandS.ExcIs
import HandS.ExcField
import HandS.Lambda
import HandS.EndTab
import KE.KNestM
set_option Elab.async false
set_option linter.all false
set_option maxRecDepth 100000
/-! Defs that run where no repr is under way; repr of data. -/
namespace Gd
open PySem PySem.Spec PyProof.Rows L2

/-- a def's promise, given that no guard stands around the call -/
structure FnG (P : Program) (w : World) (K : PySem.W.Frag) (mg : Str → Option Value) (base : Heap) (k : Nat) (f : Addr) (fd : FuncData) (ps : List Str) (sp : Sp) : Prop where
  len : ∀ vs H Q E, sp vs H Q E → vs.length = ps.length
  go : ∀ {A : Around} {outer : List Env} {s : Shared} {H : Hp} {args : Args} {us : List Value} {vs : List V} {Q : VK} {E : XK},
    Room k A → A.guards = some [] → Env0 P w K mg base A outer s H → BindsTo s fd args (ps.zip us) → Vals vs us → sp vs H Q E →
    codeAny (model P w) A (.call (.ref f) args) (CR CX0 outer P w H s Q E) s

section
variable {P : Program} {w : World} {K : PySem.W.Frag} {mg : Str → Option Value} {base : Heap}

theorem FnG.of {k : Nat} {f : Addr} {fd : FuncData} {ps : List Str} {sp : Sp} (F : FnOk P w K mg base CX0 k f fd ps sp) : FnG P w K mg base k f fd ps sp :=
  ⟨F.len, fun hr _ e b v q => F.run _ _ _ _ _ _ _ _ _ hr e b v q⟩
theorem FnG.mono {j k : Nat} {f : Addr} {fd : FuncData} {ps : List Str} {sp : Sp} (F : FnG P w K mg base j f fd ps sp) (h : j ≤ k) : FnG P w K mg base k f fd ps sp :=
  ⟨F.len, fun hr g e b v q => F.go (hr.mono h) g e b v q⟩

/-- the rule for such a def, by its body -/
theorem okG {x qual : Str} {st : Stmt} {f : Addr} {fd : FuncData} {N ps : List Str} {k : Nat} {sp : Sp} (F : Fun K x qual st f fd) (S : FnScope N ps (defScope st))
    (len : ∀ vs H Q E, sp vs H Q E → vs.length = ps.length)
    (body : ∀ (cdv : Value) (A : Around) (outer : List Env) (s : Shared) (H : Hp) (vs : List V) (Q : VK) (E : XK),
      Room k (A.deeper (envOfC qual (defScope st) s.heap.objs.size f cdv)) → (A.deeper (envOfC qual (defScope st) s.heap.objs.size f cdv)).guards = some [] → sp vs H Q E →
      ∃ t, PSs (cxOf CX0 P w K mg base N qual (defScope st) f cdv A outer s H E).nox (defBody st) t ∧ t { nx := fun _ H' => Q .non H', rt := Q } (start N vs) H) :
    FnG P w K mg base (k + 1) f fd ps sp := by
  obtain ⟨oc, od, kV, doc, pm, an, cdv, ct, osl, rfl, lk, hcd⟩ := F.ex
  refine ⟨len, ?_⟩
  intro A outer s H args us vs Q E hr hg e0 hb r hsp
  have hlen := len _ _ _ _ hsp
  have keep : ∀ b o, base.get? b = some o → s.heap.get? b = some o := fun b o e => (e0.bs b o e).1
  have kin := e0.mod.kin.keeps keep
  have nolim := e0.mod.nolimit.keeps keep
  refine codeAny_call_function hr.depth (kin _ _ lk) rfl S.co S.gen rfl (PySem.W.codeRec_of kin hcd) (hb _ _ _ _ ?_)
  refine wpAny_newFunctionEnv_cells S.kind (fun y hy => ?kinds) (fun env he s1 x => ?run)
  case kinds =>
    have hp := List.of_mem_zip (a := y.1) (b := y.2) hy
    exact (S.par y.1 hp.1).imp id fun q => ⟨q, PySem.W.cellsFrom_some _ _ _ (.inl q)⟩
  case run =>
    cases he
    refine ⟨nolim.keeps x.toInCall.keep, codeAny_func ?_⟩
    obtain ⟨t, ht, hq⟩ := body cdv A outer s H vs Q E (hr.deeper _) hg hsp
    have I := inv_start (CX := CX0) (P := P) (w := w) (mg := mg) (E := E) S hr.hd e0 hlen r x
    have fin : ∀ {σ' : L2.St} {H' : Hp} {s' : Shared} {v : V} {u : Value}, Inv (cxOf CX0 P w K mg base N qual (defScope st) f cdv A outer s H E) [] σ' H' s' → RelV v u → Q v H' → CE outer P w H s Q u s' :=
      fun J rv q => ⟨_, _, J.os, J.bare, J.base, J.hok, rv, q⟩
    refine wpAny_mono (ht.nox.run [] s1 (start N vs) H _ I hq) (fun fl s' hs => ?_) (fun _ _ hs => hs)
    match fl, hs with
    | .ret u, ⟨_, _, _, J, rv, q⟩ => exact fin J rv q
    | .next, ⟨_, _, J, q⟩ => exact fin (v := V.non) (u := Value.none) J rfl q
    | .brk, ⟨_, _, _, q⟩ => exact q.elim
    | .cont, ⟨_, _, _, q⟩ => exact q.elim
end

section
variable {X : Cx} {k : Nat} {f : Addr} {fd : FuncData} {ps : List Str} {sp : Sp} {dvs : List V} {ds : List Value} {E : XK} {x : Str} {p pos : Pos} {e : Expr} {es : List Expr} {t : TA}

theorem runG {pins : List (Addr × Obj)} {σ : L2.St} {H : Hp} {s : Shared} {Q : VK} {us : List Value} {vs : List V} (F : FnG X.prog X.w X.K X.mg X.base k f fd ps sp) (hr : Room k X.A) (hG : X.A.guards = some []) (hb : Binds X.K fd ps [])
    (I : Inv X pins σ H s) (r : Vals vs us) (h : sp vs H Q E) : wpAny (model X.prog X.w) X.A (call (.ref f) us) (EP X pins σ Q) X.xe s := by
  have hl : (us ++ ([] : List Value)).length = ps.length := by
    rw [List.append_nil, ← r.length]
    exact F.len _ _ _ _ h
  have bt := hb s us I.kIn hl
  rw [List.append_nil] at bt
  refine wpAny_call (codeAny_mono (F.go hr hG I.env0 bt r h) fun res s' hq => ?_)
  match res, hq with
  | .ok (.ret _), hq => exact I.after hq
  | .ok .next, hq => exact hq.elim
  | .ok .brk, hq => exact hq.elim
  | .ok .cont, hq => exact hq.elim
  | .error _, hq => exact hq.elim

/-- f(e, ..) of such a def -/
theorem pe_callG (F : FnG X.prog X.w X.K X.mg X.base k f fd ps sp) (hr : Room k X.A) (hG : X.A.guards = some []) (hg : Gl X x) (hm : X.mg x = some (.ref f)) (hk : PySem.W.keepIn X.K (.ref f) = true) (hb : Binds X.K fd ps [])
    (ha : PA X (e :: es) t) (hdb : (x == ("__debug__" : Str)) = false := by decide) (he : starEach (e :: es) X.env = (false, eval e X.env) :: starEach es X.env := by rfl)
    (hpl : (backTo pos (starEach es X.env)).any (·.1) = false := by rfl) :
    PE X (.Call (.Name x p) (e :: es) [] pos) (fun σ H Q => t σ H fun vs H1 => sp vs H1 Q E0) := by
  constructor
  intro pins s σ H Q I h
  refine wpAny_Call_Name_kw (ld_glob I hg hm ?_ hdb)
  refine PySem.W.callWith_K (h₀ := X.base) I.ok.mod.kin hk ?_ he hpl
  refine thn (ha.run pos pins s σ H _ I h) ?_
  rintro us s1 ⟨vs, H1, I1, r, q⟩
  exact ⟨I1.kIn, runG F hr hG hb I1 r q⟩

/-- repr of data -/
def rRepr (K : PySem.W.Frag) : List V → Hp → VK → Prop := fun xs H Q => ∃ (a : Addr) (d : PyData), xs = [.ref a] ∧ Dp K H (.ref a) d ∧ d.showable = true ∧ d.hasDict = false ∧ d.depth ≤ 20 ∧ d.shown.length ≤ sizeLine ∧ Q (.str d.shown) H
theorem call_repr (hr : Room k X.A) (hG : X.A.guards = some []) : CallR X (.builtin "repr") (rRepr X.K) := by
  intro pins s σ H xs us Q I r h
  obtain ⟨a, d, rfl, hd, hs, hn, hdep, hz, q⟩ := h
  obtain ⟨u, rfl, ru⟩ := vals1 r
  cases ru
  obtain ⟨as, hrd⟩ := Dp.reads I d (.ref a) (.ref a) hd rfl
  refine repr_of_reads' hrd hs (PyData.noDict_hsm hn) hG ?_ (fun _ _ e => e) (fun h' u tk hk => ?_) hz
  · have := hr.units
    omega
  · exact ⟨.str d.shown, H, I.kept hk, ⟨u, rfl⟩, q⟩
end
end Gd

set_option Elab.async false
set_option linter.all false
set_option maxRecDepth 100000
namespace Gd
open PySem PySem.Spec PyProof.Rows L2

/-- the law's end from such a promise: what an abstract heap that tracks at most the script gives -/
theorem endG {P : Program} {w : World} {K : PySem.W.Frag} {mg mb : Str → Option Value} {k : Nat} {fa a : Addr} {fd : FuncData} {x : Str} {sp : Sp} {s1 : Shared} {vs : List Value} {H : Hp}
    (kin : K.In s1.heap) (glob : s1.heap.Ns mainGlobals mg) (bn : s1.heap.Ns builtinsNs mb) (bb : ∀ x : Str, x ≠ "__name__" → mb x = bootBuiltins x) (lim : s1.heap.NoLimit) (gens : s1.gens = #[])
    (hat : s1.heap.get? a = some { cls := .type "list", data := .seq vs.toArray }) (hr : Room k callerA)
    (F : ∀ base : Heap, K.In base → base.Ns mainGlobals mg → FnG P w K mg base k fa fd [x] sp) (bind : ∀ (s : Shared) (u : Value), BindsTo s fd ⟨[u], []⟩ [(x, u)])
    (sps : sp [.ref a] H (fun v _ => v = .bl true) fun _ _ _ => False) (only : Only H) (ok : HOk P w H s1.heap) (isA : ∀ b, H b ≠ none → b = a) (noK : H a ≠ none → K.lookup a = none) :
    codeAny (model P w) callerA (.call (.ref fa) ⟨[.ref a], []⟩) (fun r s' => r = .ok (.ret (.bool true)) ∧ OldK s1.heap s'.heap ∧ s'.os = s1.os ∧ AllBare s'.gens) s1 := by
  have none_of : ∀ {b : Addr}, b ≠ a → H b = none := fun {b} hb => by
    cases q : H b with
    | none => rfl
    | some u => exact absurd (isA b (by rw [q]; exact Option.some_ne_none u)) hb
  have none_dict : ∀ {b : Addr} {o : Obj} {es : Array DictEntry} {n : Nat}, s1.heap.get? b = some o → o.data = .dict es n → H b = none := by
    intro b o es n e d
    refine none_of fun z => ?_
    subst z
    cases hat.symm.trans e
    cases d
  have ns_of : ∀ {b : Addr} {m : Str → Option Value}, s1.heap.Ns b m → (hidT s1.heap H).Ns b m := by
    rintro b m ⟨o, es, n, e, d, more⟩
    exact ⟨o, es, n, hidT_get e (none_dict e d), d, more⟩
  have kinB : K.In (hidT s1.heap H) := by
    intro b o e
    refine hidT_get (kin b o e) ?_
    by_cases hb : b = a
    · subst hb
      cases q : H b with
      | none => rfl
      | some u =>
        have z := noK (by rw [q]; exact Option.some_ne_none u)
        rw [z] at e
        cases e
    · exact none_of hb
  have md : Mod K mg (hidT s1.heap H) := ⟨kinB, ns_of glob, ⟨mb, ns_of bn, bb⟩, let ⟨mc, c1, c2⟩ := lim; ⟨mc, ns_of c1, c2⟩⟩
  have e0 : Env0 P w K mg (hidT s1.heap H) callerA [] s1 H :=
    { frames := rfl, mod := md, bs := fun b o e => of_hidT e, bsz := Nat.le_of_eq (hidT_size _ _), funs := trivial, frf := fun _ z => (List.not_mem_nil z).elim, hok := ok, bare := .of_eq gens }
  refine codeAny_mono ((F _ kinB (ns_of glob)).go (us := [.ref a]) (vs := [.ref a]) hr rfl e0 (bind s1 (.ref a)) (.cons rfl .nil) sps) fun r s' h => ?_
  match r, h with
  | .error _, h => exact h.elim
  | .ok .next, h => exact h.elim
  | .ok .brk, h => exact h.elim
  | .ok .cont, h => exact h.elim
  | .ok (.ret u), ⟨v, H', os, bare, un, ok', rv, (hv : v = .bl true)⟩ =>
    subst hv
    obtain rfl : u = Value.bool true := rv
    refine ⟨rfl, OldK.of_keep fun b o e => ?_, os, bare⟩
    rcases only b with z | ⟨ob, xs, z⟩
    · exact un.keep b o e z List.not_mem_nil List.not_mem_nil
    · have e1 := (ok b _ z).1
      have e2 := (ok' b _ (un.frzs b ob _ z)).1
      exact e2.trans (e1.symm.trans e)

theorem walkG {l : PySem.W.OpenLaw} {n k : Nat} {q : Program} {loose : List Str} {XP : (Str → Option Value) → Heap → Prop} {YP : World → Heap → Prop} {d : DefRec} {K : Params → PySem.W.Frag} {sp : PySem.W.Frag → Sp} {x : Str}
    (hn : l.most = some n) (hn2 : n ≤ sizeLine) (hdf : d.params.defaults = []) (hr : Room k callerA)
    (hY : ∀ (w : World) (h : Heap), YP w h → (K w.params).In h)
    (F : ∀ (w : World) (mg : Str → Option Value) (fa : Addr) (h : Heap), (K w.params).In h → h.Ns mainGlobals mg → mg d.name = some (.ref fa) →
      ∃ fd : FuncData, (∀ (s : Shared) (u : Value), BindsTo s fd ⟨[u], []⟩ [(x, u)]) ∧
        ∀ base : Heap, (K w.params).In base → base.Ns mainGlobals mg → FnG l.prog w (K w.params) mg base k fa fd [x] (sp (K w.params)))
    (hsp : ∀ (K : PySem.W.Frag) (H : Hp) (a : Addr) (ns : List Int), ns.length ≤ n → Only H → SqL K H a (ns.map V.int) → sp K [.ref a] H (fun v _ => v = .bl true) fun _ _ _ => False) :
    PySem.W.WalkO q loose XP YP l.row.toRowW d [] (fun f vs => PySem.call f vs) := by
  refine Att.attach_call hn hdf fun w s0 s1 mg mb fa o pm cd doc a vs ns G Y ho hd hcd hmg hobj hints hlen hg => ?_
  have kin := hY w _ Y
  obtain ⟨fd, hb, hF⟩ := F w mg fa _ kin G.T.g hmg
  have rv := vals_ints hints
  have hz : ns.length ≤ sizeLine := Nat.le_trans hlen hn2
  cases hk : (K w.params).lookup a with
  | some ob =>
    have e := (kin a ob hk).symm.trans hobj
    cases e
    refine endG (H := fun _ => none) kin G.T.g G.T.b G.T.builtins G.T.nolimit hg hobj hr hF hb (hsp _ _ a ns hlen (fun _ => .inl rfl) (.inr ⟨_, vs.toArray, _, hk, rfl, rfl, rfl, ?_, rv⟩)) (fun _ => .inl rfl) (fun b u z => nomatch z) (fun b z => (z rfl).elim) (fun z => (z rfl).elim)
    rw [List.size_toArray, hints.length]
    exact hz
  | none =>
    have at_a : ∀ b, b = a → (if b = a then some (HO.frz { cls := .type "list", data := .seq vs.toArray } (.lst (ns.map V.int))) else none) = some (HO.frz { cls := .type "list", data := .seq vs.toArray } (.lst (ns.map V.int))) := fun b hb => if_pos hb
    refine endG (H := fun b => if b = a then some (.frz { cls := .type "list", data := .seq vs.toArray } (.lst (ns.map V.int))) else none) kin G.T.g G.T.b G.T.builtins G.T.nolimit hg hobj hr hF hb
      (hsp _ _ a ns hlen ?only (.inl (.inr ⟨_, if_pos rfl⟩))) ?only (fun b u z => ?_) (fun b z => ?_) (fun _ => hk)
    case only =>
      intro b
      by_cases hb : b = a
      · exact .inr ⟨_, _, if_pos hb⟩
      · exact .inl (if_neg hb)
    · by_cases hb : b = a
      · subst hb
        cases (if_pos rfl).symm.trans z
        refine ⟨hobj, ?_, vs, _, rv, hobj⟩
        rw [List.length_map]
        exact hz
      · cases (if_neg hb).symm.trans z
    · exact Classical.byContradiction fun hb => z (if_neg hb)
end Gd

set_option Elab.async false
set_option linter.all false
set_option maxRecDepth 100000
/-! What a name of the module promises, without guards (Cal) and where no repr is under way (CalG). -/
namespace Gd
open PySem PySem.Spec PyProof.Rows L2

structure Cal (P : Program) (w : World) (K : PySem.W.Frag) (mg : Str → Option Value) (base : Heap) (k : Nat) (x : Str) (sp : Sp) : Prop where
  ex : ∃ f, mg x = some (.ref f) ∧ PySem.W.keepIn K (.ref f) = true ∧ FnR P w K mg base CX0 k f sp
structure CalG (P : Program) (w : World) (K : PySem.W.Frag) (mg : Str → Option Value) (base : Heap) (k : Nat) (x : Str) (ps : List Str) (sp : Sp) : Prop where
  ex : ∃ f fd, mg x = some (.ref f) ∧ PySem.W.keepIn K (.ref f) = true ∧ Binds K fd ps [] ∧ FnG P w K mg base k f fd ps sp

section
variable {P : Program} {w : World} {K : PySem.W.Frag} {mg : Str → Option Value} {base : Heap}
/-- a def of the text as the name x holds it -/
structure At (K : PySem.W.Frag) (mg : Str → Option Value) (x : String) (st : Stmt) (ps : List Str) : Prop where
  ex : ∃ f fd, mg x = some (.ref f) ∧ Fun K x x st f fd ∧ Binds K fd ps []

theorem okC {x : String} {st : Stmt} {N ps : List Str} {k : Nat} {sp : Sp} (D : At K mg x st ps) (S : FnScope N ps (defScope st)) (len : ∀ vs H Q E, sp vs H Q E → vs.length = ps.length)
    (body : ∀ (f : Addr) (cdv : Value) (A : Around) (outer : List Env) (s : Shared) (H : Hp) (vs : List V) (Q : VK) (E : XK), Room k (A.deeper (envOfC x (defScope st) s.heap.objs.size f cdv)) → sp vs H Q E →
      ∃ t, PSs (cxOf CX0 P w K mg base N x (defScope st) f cdv A outer s H E).nox (defBody st) t ∧ t { nx := fun _ H' => Q .non H', rt := Q } (start N vs) H) : Cal P w K mg base (k + 1) x sp := by
  obtain ⟨f, fd, hm, F, hb⟩ := D.ex
  have G : FnOk P w K mg base CX0 (k + 1) f fd ps sp := F.ok S len (fun cdv A outer s H vs Q E hr h => body f cdv A outer s H vs Q E hr h)
  refine ⟨f, hm, F.kp, fun A outer s H us vs Q E hr e0 r h => ?_⟩
  have kin : K.In s.heap := e0.mod.kin.keeps fun b o e => (e0.bs b o e).1
  have hl : (us ++ ([] : List Value)).length = ps.length := by
    rw [List.append_nil, ← r.length]
    exact len _ _ _ _ h
  have bt := hb s us kin hl
  rw [List.append_nil] at bt
  exact G.run A outer s H _ us vs Q E hr e0 bt r h

theorem okCG {x : String} {st : Stmt} {N ps : List Str} {k : Nat} {sp : Sp} (D : At K mg x st ps) (S : FnScope N ps (defScope st)) (len : ∀ vs H Q E, sp vs H Q E → vs.length = ps.length)
    (body : ∀ (f : Addr) (cdv : Value) (A : Around) (outer : List Env) (s : Shared) (H : Hp) (vs : List V) (Q : VK) (E : XK), Room k (A.deeper (envOfC x (defScope st) s.heap.objs.size f cdv)) →
      (A.deeper (envOfC x (defScope st) s.heap.objs.size f cdv)).guards = some [] → sp vs H Q E →
      ∃ t, PSs (cxOf CX0 P w K mg base N x (defScope st) f cdv A outer s H E).nox (defBody st) t ∧ t { nx := fun _ H' => Q .non H', rt := Q } (start N vs) H) : CalG P w K mg base (k + 1) x ps sp := by
  obtain ⟨f, fd, hm, F, hb⟩ := D.ex
  exact ⟨f, fd, hm, F.kp, hb, okG F S len fun cdv A outer s H vs Q E hr hg h => body f cdv A outer s H vs Q E hr hg h⟩
end

section
variable {X : Cx} {j k : Nat} {ps : List Str} {sp : Sp} {x : Str} {p pos : Pos} {e : Expr} {es : List Expr} {t : TA}
theorem runC {pins : List (Addr × Obj)} {σ : L2.St} {H : Hp} {s : Shared} {Q : VK} {us : List Value} {vs : List V} {f : Addr} (F : FnR X.prog X.w X.K X.mg X.base CX0 k f sp) (hr : Room k X.A)
    (I : Inv X pins σ H s) (r : Vals vs us) (h : sp vs H Q E0) : wpAny (model X.prog X.w) X.A (call (.ref f) us) (EP X pins σ Q) X.xe s := by
  refine wpAny_call (codeAny_mono (F X.A X.stack s H us vs Q E0 hr I.env0 r h) fun res s' hq => ?_)
  match res, hq with
  | .ok (.ret _), hq => exact I.after hq
  | .ok .next, hq => exact hq.elim
  | .ok .brk, hq => exact hq.elim
  | .ok .cont, hq => exact hq.elim
  | .error _, hq => exact hq.elim
def tCal (sp : Sp) (t : TA) : TE := fun σ H Q => t σ H fun vs H1 => sp vs H1 Q E0
theorem pe_k (c : Cal X.prog X.w X.K X.mg X.base k x sp) (hr : Room j X.A) (hk : k ≤ j) (hg : Gl X x) (ha : PA X (e :: es) t) (hdb : (x == ("__debug__" : Str)) = false := by decide)
    (he : starEach (e :: es) X.env = (false, eval e X.env) :: starEach es X.env := by rfl) (hpl : (backTo pos (starEach es X.env)).any (·.1) = false := by rfl) :
    PE X (.Call (.Name x p) (e :: es) [] pos) (tCal sp t) := by
  obtain ⟨f, hm, hkp, F⟩ := c.ex
  constructor
  intro pins s σ H Q I h
  refine wpAny_Call_Name_kw (ld_glob I hg hm ?_ hdb)
  refine PySem.W.callWith_K (h₀ := X.base) I.ok.mod.kin hkp ?_ he hpl
  refine thn (ha.run pos pins s σ H _ I h) ?_
  rintro us s1 ⟨vs, H1, I1, r, q⟩
  exact ⟨I1.kIn, runC F (hr.mono hk) I1 r q⟩
theorem pe_k0 (c : Cal X.prog X.w X.K X.mg X.base k x sp) (hr : Room j X.A) (hk : k ≤ j) (hg : Gl X x) (hdb : (x == ("__debug__" : Str)) = false := by decide) :
    PE X (.Call (.Name x p) [] [] pos) (tCal sp tNil) := by
  obtain ⟨f, hm, hkp, F⟩ := c.ex
  constructor
  intro pins s σ H Q I h
  refine wpAny_Call_Name_kw (ld_glob I hg hm ?_ hdb)
  exact PySem.W.callWith_K0 I.kIn hkp (runC (us := []) F (hr.mono hk) I .nil h)
theorem pe_kG (c : CalG X.prog X.w X.K X.mg X.base k x ps sp) (hr : Room j X.A) (hG : X.A.guards = some []) (hk : k ≤ j) (hg : Gl X x) (ha : PA X (e :: es) t) (hdb : (x == ("__debug__" : Str)) = false := by decide)
    (he : starEach (e :: es) X.env = (false, eval e X.env) :: starEach es X.env := by rfl) (hpl : (backTo pos (starEach es X.env)).any (·.1) = false := by rfl) :
    PE X (.Call (.Name x p) (e :: es) [] pos) (tCal sp t) := by
  obtain ⟨f, fd, hm, hkp, hb, F⟩ := c.ex
  exact pe_callG F (hr.mono hk) hG hg hm hkp hb ha hdb he hpl
end

/-! ### heaps -/
/-- all that was tracked, but for what stands at d, is as it was -/
def Kp (d : Addr) (H H' : Hp) : Prop := ∀ b o, b ≠ d → H b = some o → H' b = some o
theorem Kp.refl (d : Addr) (H : Hp) : Kp d H H := fun _ _ _ h => h
theorem Kp.trans {d : Addr} {H H1 H2 : Hp} (a : Kp d H H1) (b : Kp d H1 H2) : Kp d H H2 := fun c o n h => b c o n (a c o n h)
theorem _root_.L2.Same.kp {d : Addr} {H H' : Hp} (a : Same H H') : Kp d H H' := fun b o _ h => a b o h
theorem Kp.upd_d {d : Addr} {H : Hp} {o : HO} : Kp d H (upd H d o) := fun b u n h => by
  rw [upd_ne n]
  exact h
theorem same_new {H : Hp} {p : Addr} {o : HO} (h : H p = none) : Same H (upd H p o) := fun b u e => by
  rw [upd_ne (ne_of_none e h)]
  exact e
/-- behind new objects and a store to one of them -/
theorem same_own {H H1 : Hp} {p : Addr} {o : HO} (a : Same H H1) (h : H p = none) : Same H (upd H1 p o) := fun b u e => by
  rw [upd_ne (ne_of_none e h)]
  exact a b u e
end Gd

set_option Elab.async false
set_option linter.all false
set_option maxRecDepth 100000
namespace K8
open PySem PySem.Spec PyProof.Rows L2 Gd
def topS (i : Nat) : Stmt := PySem.Challenge.pw_silentbeats_k08_whole_silent_at_told_div.main.body.getD i (.Pass ⟨0, 0, 0, 0⟩)
abbrev s_need : Stmt := topS 7
abbrev N_need : List Str := ["fits", "word"]
theorem sc_need : FnScope N_need ["fits", "word"] (defScope s_need) := ⟨rfl, rfl, rfl, by decide +kernel, rfl, by decide +kernel, by decide +kernel⟩
abbrev s_least_prime : Stmt := topS 10
abbrev N_least_prime : List Str := ["number", "trial"]
theorem sc_least_prime : FnScope N_least_prime ["number"] (defScope s_least_prime) := ⟨rfl, rfl, rfl, by decide +kernel, rfl, by decide +kernel, by decide +kernel⟩
abbrev s_prime_parts : Stmt := topS 11
abbrev N_prime_parts : List Str := ["number", "parts", "left", "prime", "power"]
theorem sc_prime_parts : FnScope N_prime_parts ["number"] (defScope s_prime_parts) := ⟨rfl, rfl, rfl, by decide +kernel, rfl, by decide +kernel, by decide +kernel⟩
abbrev s_is_integer : Stmt := topS 13
abbrev N_is_integer : List Str := ["thing"]
theorem sc_is_integer : FnScope N_is_integer ["thing"] (defScope s_is_integer) := ⟨rfl, rfl, rfl, by decide +kernel, rfl, by decide +kernel, by decide +kernel⟩
abbrev s_is_size : Stmt := topS 14
abbrev N_is_size : List Str := ["thing"]
theorem sc_is_size : FnScope N_is_size ["thing"] (defScope s_is_size) := ⟨rfl, rfl, rfl, by decide +kernel, rfl, by decide +kernel, by decide +kernel⟩
abbrev s_are_integers : Stmt := topS 15
abbrev N_are_integers : List Str := ["thing", "each"]
theorem sc_are_integers : FnScope N_are_integers ["thing"] (defScope s_are_integers) := ⟨rfl, rfl, rfl, by decide +kernel, rfl, by decide +kernel, by decide +kernel⟩
abbrev s_is_integer_set : Stmt := topS 16
abbrev N_is_integer_set : List Str := ["thing", "low", "high"]
theorem sc_is_integer_set : FnScope N_is_integer_set ["thing"] (defScope s_is_integer_set) := ⟨rfl, rfl, rfl, by decide +kernel, rfl, by decide +kernel, by decide +kernel⟩
abbrev s_is_beat : Stmt := topS 17
abbrev N_is_beat : List Str := ["size", "thing"]
theorem sc_is_beat : FnScope N_is_beat ["size", "thing"] (defScope s_is_beat) := ⟨rfl, rfl, rfl, by decide +kernel, rfl, by decide +kernel, by decide +kernel⟩
abbrev s_is_beats : Stmt := topS 18
abbrev N_is_beats : List Str := ["size", "thing", "beat"]
theorem sc_is_beats : FnScope N_is_beats ["size", "thing"] (defScope s_is_beats) := ⟨rfl, rfl, rfl, by decide +kernel, rfl, by decide +kernel, by decide +kernel⟩
abbrev s_is_divisor : Stmt := topS 19
abbrev N_is_divisor : List Str := ["number", "thing"]
theorem sc_is_divisor : FnScope N_is_divisor ["number", "thing"] (defScope s_is_divisor) := ⟨rfl, rfl, rfl, by decide +kernel, rfl, by decide +kernel, by decide +kernel⟩
abbrev s_is_divisor_set : Stmt := topS 20
abbrev N_is_divisor_set : List Str := ["number", "thing", "divisor"]
theorem sc_is_divisor_set : FnScope N_is_divisor_set ["number", "thing"] (defScope s_is_divisor_set) := ⟨rfl, rfl, rfl, by decide +kernel, rfl, by decide +kernel, by decide +kernel⟩
abbrev s_is_polynomial : Stmt := topS 21
abbrev N_is_polynomial : List Str := ["thing"]
theorem sc_is_polynomial : FnScope N_is_polynomial ["thing"] (defScope s_is_polynomial) := ⟨rfl, rfl, rfl, by decide +kernel, rfl, by decide +kernel, by decide +kernel⟩
abbrev s_is_monic : Stmt := topS 22
abbrev N_is_monic : List Str := ["thing"]
theorem sc_is_monic : FnScope N_is_monic ["thing"] (defScope s_is_monic) := ⟨rfl, rfl, rfl, by decide +kernel, rfl, by decide +kernel, by decide +kernel⟩
abbrev s_need_number : Stmt := topS 24
abbrev N_need_number : List Str := ["number"]
theorem sc_need_number : FnScope N_need_number ["number"] (defScope s_need_number) := ⟨rfl, rfl, rfl, by decide +kernel, rfl, by decide +kernel, by decide +kernel⟩
abbrev s_totient_of : Stmt := topS 25
abbrev N_totient_of : List Str := ["number", "many", "prime", "power"]
theorem sc_totient_of : FnScope N_totient_of ["number"] (defScope s_totient_of) := ⟨rfl, rfl, rfl, by decide +kernel, rfl, by decide +kernel, by decide +kernel⟩
abbrev s_voice_of : Stmt := topS 27
abbrev N_voice_of : List Str := ["size", "beats", "weights", "beat", "_"]
theorem sc_voice_of : FnScope N_voice_of ["size", "beats"] (defScope s_voice_of) := ⟨rfl, rfl, rfl, by decide +kernel, rfl, by decide +kernel, by decide +kernel⟩
abbrev s_trimmed : Stmt := topS 29
abbrev N_trimmed : List Str := ["weights", "many"]
theorem sc_trimmed : FnScope N_trimmed ["weights"] (defScope s_trimmed) := ⟨rfl, rfl, rfl, by decide +kernel, rfl, by decide +kernel, by decide +kernel⟩
abbrev s_padded : Stmt := topS 30
abbrev N_padded : List Str := ["one", "many"]
theorem sc_padded : FnScope N_padded ["one", "many"] (defScope s_padded) := ⟨rfl, rfl, rfl, by decide +kernel, rfl, by decide +kernel, by decide +kernel⟩
abbrev s_divided : Stmt := topS 31
abbrev N_divided : List Str := ["one", "divisor", "degree", "rest", "factor", "shift", "lead", "k", "_"]
theorem sc_divided : FnScope N_divided ["one", "divisor"] (defScope s_divided) := ⟨rfl, rfl, rfl, by decide +kernel, rfl, by decide +kernel, by decide +kernel⟩
abbrev s_widened : Stmt := topS 32
abbrev N_widened : List Str := ["one", "step", "weights", "k", "weight", "_"]
theorem sc_widened : FnScope N_widened ["one", "step"] (defScope s_widened) := ⟨rfl, rfl, rfl, by decide +kernel, rfl, by decide +kernel, by decide +kernel⟩
abbrev s_round_polynomial : Stmt := topS 33
abbrev N_round_polynomial : List Str := ["size"]
theorem sc_round_polynomial : FnScope N_round_polynomial ["size"] (defScope s_round_polynomial) := ⟨rfl, rfl, rfl, by decide +kernel, rfl, by decide +kernel, by decide +kernel⟩
abbrev s_times : Stmt := topS 34
abbrev N_times : List Str := ["one", "other", "weights", "j", "weight", "_", "k", "factor"]
theorem sc_times : FnScope N_times ["one", "other"] (defScope s_times) := ⟨rfl, rfl, rfl, by decide +kernel, rfl, by decide +kernel, by decide +kernel⟩
abbrev s_exact_by : Stmt := topS 35
abbrev N_exact_by : List Str := ["one", "divisor", "factor", "rest"]
theorem sc_exact_by : FnScope N_exact_by ["one", "divisor"] (defScope s_exact_by) := ⟨rfl, rfl, rfl, by decide +kernel, rfl, by decide +kernel, by decide +kernel⟩
abbrev s_cyclotomic : Stmt := topS 36
abbrev N_cyclotomic : List Str := ["number", "found", "left", "prime", "_"]
theorem sc_cyclotomic : FnScope N_cyclotomic ["number"] (defScope s_cyclotomic) := ⟨rfl, rfl, rfl, by decide +kernel, rfl, by decide +kernel, by decide +kernel⟩
abbrev s_need_divisors : Stmt := topS 38
abbrev N_need_divisors : List Str := ["size", "divisors"]
theorem sc_need_divisors : FnScope N_need_divisors ["size", "divisors"] (defScope s_need_divisors) := ⟨rfl, rfl, rfl, by decide +kernel, rfl, by decide +kernel, by decide +kernel⟩
abbrev s_factor_of : Stmt := topS 39
abbrev N_factor_of : List Str := ["divisors", "factor", "divisor"]
theorem sc_factor_of : FnScope N_factor_of ["divisors"] (defScope s_factor_of) := ⟨rfl, rfl, rfl, by decide +kernel, rfl, by decide +kernel, by decide +kernel⟩
abbrev s_silent_rank : Stmt := topS 40
abbrev N_silent_rank : List Str := ["size", "divisors", "divisor"]
theorem sc_silent_rank : FnScope N_silent_rank ["size", "divisors"] (defScope s_silent_rank) := ⟨rfl, rfl, rfl, by decide +kernel, rfl, by decide +kernel, by decide +kernel⟩
abbrev s_silent_basis : Stmt := topS 41
abbrev N_silent_basis : List Str := ["size", "divisors", "rank", "rule", "beat"]
theorem sc_silent_basis : FnScope N_silent_basis ["size", "divisors"] (defScope s_silent_basis) := ⟨rfl, rfl, rfl, by decide +kernel, rfl, by decide +kernel, by decide +kernel⟩
abbrev s_silent_from : Stmt := topS 42
abbrev N_silent_from : List Str := ["size", "divisors", "weights", "rank"]
theorem sc_silent_from : FnScope N_silent_from ["size", "divisors", "weights"] (defScope s_silent_from) := ⟨rfl, rfl, rfl, by decide +kernel, rfl, by decide +kernel, by decide +kernel⟩
abbrev s_silent_voice : Stmt := topS 43
abbrev N_silent_voice : List Str := ["size", "divisors", "factor"]
theorem sc_silent_voice : FnScope N_silent_voice ["size", "divisors"] (defScope s_silent_voice) := ⟨rfl, rfl, rfl, by decide +kernel, rfl, by decide +kernel, by decide +kernel⟩
abbrev s_rule_of : Stmt := topS 44
abbrev N_rule_of : List Str := ["size", "divisors"]
theorem sc_rule_of : FnScope N_rule_of ["size", "divisors"] (defScope s_rule_of) := ⟨rfl, rfl, rfl, by decide +kernel, rfl, by decide +kernel, by decide +kernel⟩
abbrev s_carried_on : Stmt := topS 45
abbrev N_carried_on : List Str := ["size", "rule", "weights", "degree", "voice", "beat", "k"]
theorem sc_carried_on : FnScope N_carried_on ["size", "rule", "weights"] (defScope s_carried_on) := ⟨rfl, rfl, rfl, by decide +kernel, rfl, by decide +kernel, by decide +kernel⟩
abbrev s__law_feed : Stmt := topS 47
abbrev N__law_feed : List Str := ["_law_script"]
theorem sc__law_feed : FnScope N__law_feed ["_law_script"] (defScope s__law_feed) := ⟨rfl, rfl, rfl, by decide +kernel, rfl, by decide +kernel, by decide +kernel⟩
abbrev s__law_pick : Stmt := topS 48
abbrev N__law_pick : List Str := ["_law_feed_here", "_law_limit", "_law_stirred", "_law_figure", "_law_here", "_law_cells", "_law_cell"]
theorem sc__law_pick : FnScope N__law_pick ["_law_feed_here", "_law_limit"] (defScope s__law_pick) := ⟨rfl, rfl, rfl, by decide +kernel, rfl, by decide +kernel, by decide +kernel⟩
abbrev s__law_any : Stmt := topS 49
abbrev N__law_any : List Str := ["_law_feed_here", "_law_some_here"]
theorem sc__law_any : FnScope N__law_any ["_law_feed_here", "_law_some_here"] (defScope s__law_any) := ⟨rfl, rfl, rfl, by decide +kernel, rfl, by decide +kernel, by decide +kernel⟩
abbrev s__law_divisors : Stmt := topS 50
abbrev N__law_divisors : List Str := ["_law_size_here", "_law_k"]
theorem sc__law_divisors : FnScope N__law_divisors ["_law_size_here"] (defScope s__law_divisors) := ⟨rfl, rfl, rfl, by decide +kernel, rfl, by decide +kernel, by decide +kernel⟩
abbrev s__law_divided : Stmt := topS 51
abbrev N__law_divided : List Str := ["_law_one", "_law_late", "_law_k", "_law_left", "_law_factor", "_law_many", "_law_j"]
theorem sc__law_divided : FnScope N__law_divided ["_law_one", "_law_late"] (defScope s__law_divided) := ⟨rfl, rfl, rfl, by decide +kernel, rfl, by decide +kernel, by decide +kernel⟩
abbrev s__law_cycles : Stmt := topS 52
abbrev N__law_cycles : List Str := ["_law_size_here", "_law_found", "_law_late", "_law_left", "_law_k"]
theorem sc__law_cycles : FnScope N__law_cycles ["_law_size_here"] (defScope s__law_cycles) := ⟨rfl, rfl, rfl, by decide +kernel, rfl, by decide +kernel, by decide +kernel⟩
abbrev s__law_cut : Stmt := topS 53
abbrev N__law_cut : List Str := ["_law_numbers", "_law_last", "_law_lap"]
theorem sc__law_cut : FnScope N__law_cut ["_law_numbers"] (defScope s__law_cut) := ⟨rfl, rfl, rfl, by decide +kernel, rfl, by decide +kernel, by decide +kernel⟩
abbrev s__law_silences : Stmt := topS 54
abbrev N__law_silences : List Str := ["_law_voice", "_law_cycles_here", "_law_found", "_law_late"]
theorem sc__law_silences : FnScope N__law_silences ["_law_voice", "_law_cycles_here"] (defScope s__law_silences) := ⟨rfl, rfl, rfl, by decide +kernel, rfl, by decide +kernel, by decide +kernel⟩
abbrev s__law_size : Stmt := topS 55
abbrev N__law_size : List Str := ["_law_feed_here"]
theorem sc__law_size : FnScope N__law_size ["_law_feed_here"] (defScope s__law_size) := ⟨rfl, rfl, rfl, by decide +kernel, rfl, by decide +kernel, by decide +kernel⟩
abbrev s__law_some : Stmt := topS 56
abbrev N__law_some : List Str := ["_law_feed_here", "_law_size_here", "_law_odds", "_law_k"]
theorem sc__law_some : FnScope N__law_some ["_law_feed_here", "_law_size_here"] (defScope s__law_some) := ⟨rfl, rfl, rfl, by decide +kernel, rfl, by decide +kernel, by decide +kernel⟩
abbrev s__law_same : Stmt := topS 57
abbrev N__law_same : List Str := ["_law_due", "_law_told", "_law_is_alike", "_law_spot"]
theorem sc__law_same : FnScope N__law_same ["_law_due", "_law_told"] (defScope s__law_same) := ⟨rfl, rfl, rfl, by decide +kernel, rfl, by decide +kernel, by decide +kernel⟩
abbrev s__law_heard : Stmt := topS 58
abbrev N__law_heard : List Str := ["_law_call", "e"]
theorem sc__law_heard : FnScope N__law_heard ["_law_call"] (defScope s__law_heard) := ⟨rfl, rfl, rfl, by decide +kernel, rfl, by decide +kernel, by decide +kernel⟩
abbrev s__law_is_silent : Stmt := topS 59
abbrev N__law_is_silent : List Str := ["_law_voice", "_law_size_here", "_law_cycles_here", "_law_some_here", "_law_x", "_law_late"]
theorem sc__law_is_silent : FnScope N__law_is_silent ["_law_voice", "_law_size_here", "_law_cycles_here", "_law_some_here"] (defScope s__law_is_silent) := ⟨rfl, rfl, rfl, by decide +kernel, rfl, by decide +kernel, by decide +kernel⟩
abbrev s__law_is_told : Stmt := topS 60
abbrev N__law_is_told : List Str := ["_law_feed_here", "_law_size_here", "_law_some_here", "_law_cycles_here", "_law_rank", "_law_basis", "_law_k", "_law_weights", "_law_voice", "_law_total", "_law_late", "_law_one", "_law_many", "_law_x", "_law_y", "_law_j"]
theorem sc__law_is_told : FnScope N__law_is_told ["_law_feed_here", "_law_size_here", "_law_some_here"] (defScope s__law_is_told) := ⟨rfl, rfl, rfl, by decide +kernel, rfl, by decide +kernel, by decide +kernel⟩
abbrev s__law_are_refused : Stmt := topS 61
abbrev N__law_are_refused : List Str := ["_law_size_here", "_law_some_here", "_law_rank", "_law_sizes", "_law_sets", "_law_rows", "_law_odd", "_law_caught"]
theorem sc__law_are_refused : FnScope N__law_are_refused ["_law_size_here", "_law_some_here", "_law_rank"] (defScope s__law_are_refused) := ⟨rfl, rfl, rfl, by decide +kernel, rfl, by decide +kernel, by decide +kernel⟩
abbrev s__law_is_wide : Stmt := topS 62
abbrev N__law_is_wide : List Str := ["_law_feed_here", "_law_size_here", "_law_cycles_here", "_law_some_here", "_law_rank", "_law_voice", "_law_late"]
theorem sc__law_is_wide : FnScope N__law_is_wide ["_law_feed_here"] (defScope s__law_is_wide) := ⟨rfl, rfl, rfl, by decide +kernel, rfl, by decide +kernel, by decide +kernel⟩
abbrev s_law : Stmt := topS 63
abbrev N_law : List Str := ["_law_script", "_law_feed_here", "_law_size_here", "_law_some_here", "_law_every", "_law_late", "_law_cycles_here"]
theorem sc_law : FnScope N_law ["_law_script"] (defScope s_law) := ⟨rfl, rfl, rfl, by decide +kernel, rfl, by decide +kernel, by decide +kernel⟩
end K8

set_option Elab.async false
set_option linter.all false
set_option maxRecDepth 100000
namespace Gd
open PySem PySem.Spec PyProof.Rows L2
/-- a comprehension that makes no change to what was there: what it makes of each item, or that it leaves it out -/
theorem lcF {J : It} {xs : List V} {G : Hp → Prop} (w : Walk J xs.length G (YAt xs)) {g : TG} {tt : TT} {te : TE} {vs : List Nat} {σ : L2.St} {H1 : Hp} {D : Addr} {Qd : Hp → Prop} (f : V → Option V)
    (hD : H1 D = none) (hz : xs.length < sizeLine) (hG : ∀ H', Same H1 H' → G H')
    (hs : ∀ (x : V) (H' : Hp) (R : V → Hp → Prop) (S : Hp → Prop), x ∈ xs → Same H1 H' → (∀ y, f x = some y → ∀ H4, Same H' H4 → R y H4) → (f x = none → ∀ H3, Same H' H3 → S H3) →
      g x (wipe σ vs) H' fun σ2 H2 => wipe σ2 vs = wipe σ vs ∧ tt σ2 H2 fun b H3 => if b = true then te σ2 H3 R else S H3)
    (hd : ∀ H', Same H1 H' → H' D = some (.lst (xs.filterMap f)) → Qd H') :
    ∃ W : Nat → Nat → Hp → Prop, (∃ m, W 0 m (upd H1 D (.lst []))) ∧ ∀ i m H, W i m H →
      (J.stop i H ∧ Qd H) ∨ (J.go i H ∧ ∃ Nx : Hp → Prop, (∀ H', Nx H' → ∃ m', m' < m ∧ W (i + 1) m' H') ∧ ∀ x H', J.yld i H x H' → g x (wipe σ vs) H' fun σ2 H2 => wipe σ2 vs = wipe σ vs ∧ tt σ2 H2 fun b H3 =>
        if b = true then te σ2 H3 fun y H4 => ∃ acc, H4 D = some (.lst acc) ∧ acc.length < sizeLine ∧ Nx (upd H4 D (.lst (acc ++ [y]))) else Nx H3) := by
  have step : ∀ i x, xs[i]? = some x → (xs.take (i + 1)).filterMap f = (xs.take i).filterMap f ++ (f x).toList := by
    intro i x hx
    rw [List.take_add_one, List.filterMap_append, hx]
    show _ ++ List.filterMap f [x] = _
    cases e : f x with
    | none => rw [List.filterMap_cons_none e]; rfl
    | some y => rw [List.filterMap_cons_some e]; rfl
  refine lc_it w (fun i H => Same H1 H ∧ H D = some (.lst ((xs.take i).filterMap f))) ⟨same_new hD, upd_same⟩ (fun i H _ p => hG H p.1) ?_ ?_
  · rintro i x H H' hi ⟨sm, hd'⟩ ⟨rfl, hx⟩
    refine hs x _ _ _ (List.mem_of_getElem? hx) sm (fun y hy H4 s4 => ?_) (fun hn H3 s3 => ?_)
    · refine ⟨_, s4 _ _ hd', ?_, same_own (sm.trans s4) hD, ?_⟩
      · have a1 := List.length_filterMap_le f (xs.take i)
        have a2 := List.length_take_le i xs
        rw [List.length_take] at a1
        omega
      · rw [upd_same, step i x hx, hy]
        rfl
    · refine ⟨sm.trans s3, ?_⟩
      rw [s3 _ _ hd', step i x hx, hn, Option.toList, List.append_nil]
  · rintro H ⟨sm, h⟩
    rw [List.take_length] at h
    exact hd H sm h
/-- the same without a test, what it makes of each item being said -/
theorem lcM {J : It} {xs : List V} {G : Hp → Prop} (w : Walk J xs.length G (YAt xs)) {g : TG} {te : TE} {vs : List Nat} {σ : L2.St} {H1 : Hp} {D : Addr} {Qd : Hp → Prop} (f : V → V)
    (hD : H1 D = none) (hz : xs.length < sizeLine) (hG : ∀ H', Same H1 H' → G H')
    (hs : ∀ (x : V) (H' : Hp) (R : V → Hp → Prop), x ∈ xs → Same H1 H' → (∀ H4, Same H' H4 → R (f x) H4) → g x (wipe σ vs) H' fun σ2 H2 => wipe σ2 vs = wipe σ vs ∧ te σ2 H2 R)
    (hd : ∀ H', Same H1 H' → H' D = some (.lst (xs.map f)) → Qd H') :
    ∃ W : Nat → Nat → Hp → Prop, (∃ m, W 0 m (upd H1 D (.lst []))) ∧ ∀ i m H, W i m H →
      (J.stop i H ∧ Qd H) ∨ (J.go i H ∧ ∃ Nx : Hp → Prop, (∀ H', Nx H' → ∃ m', m' < m ∧ W (i + 1) m' H') ∧ ∀ x H', J.yld i H x H' → g x (wipe σ vs) H' fun σ2 H2 => wipe σ2 vs = wipe σ vs ∧ tYes σ2 H2 fun b H3 =>
        if b = true then te σ2 H3 fun y H4 => ∃ acc, H4 D = some (.lst acc) ∧ acc.length < sizeLine ∧ Nx (upd H4 D (.lst (acc ++ [y]))) else Nx H3) := by
  refine lcF w (fun x => some (f x)) hD hz hG (fun x H' R S hx sm h1 _ => ?_) (fun H' sm h => hd H' sm ?_)
  · exact hs x H' R hx sm (h1 (f x) rfl)
  · rw [h, ← List.filterMap_eq_map]
    rfl
/-- a range as a walk over what it gives -/
def rgG (lo : Int) (n : Nat) : List V := (List.range n).map fun i => V.int (lo + (i : Nat))
theorem rgG_len (lo : Int) (n : Nat) : (rgG lo n).length = n := by
  unfold rgG
  rw [List.length_map, List.length_range]
theorem walk_rg {lo : Int} {n : Nat} : Walk (Itr lo n) (rgG lo n).length (fun _ => True) (YAt (rgG lo n)) := by
  rw [rgG_len]
  refine walk_range.mono (fun _ h => h) (fun i H x H' hi _ y => ⟨y.1, ?_⟩)
  unfold rgG
  rw [List.getElem?_map, List.getElem?_range hi, y.2]
  rfl
end Gd

/-! Quotients in lowest terms, plainly. -/
namespace Qu
def gq (a b : Int) : Int := ((Nat.gcd a.natAbs b.natAbs : Nat) : Int)
def cut (a b : Int) : Int × Int := ((if 0 < b then a else -a) / gq a b, (b.natAbs : Int) / gq a b)
structure IsQ (q : Int × Int) : Prop where
  pos : 0 < q.2
  cop : Nat.gcd q.1.natAbs q.2.natAbs = 1
theorem gq_pos {a b : Int} (h : b ≠ 0) : 0 < gq a b := by
  unfold gq
  have := Nat.gcd_pos_of_pos_right a.natAbs (n := b.natAbs) (by omega)
  omega
theorem gq_l (a b : Int) : gq a b ∣ a := by
  unfold gq
  exact Int.gcd_dvd_left a b
theorem gq_r (a b : Int) : gq a b ∣ b := by
  unfold gq
  exact Int.gcd_dvd_right a b
theorem cut_1 {a b : Int} : (cut a b).1 * gq a b = if 0 < b then a else -a := by
  unfold cut
  refine Int.ediv_mul_cancel ?_
  split
  · exact gq_l a b
  · exact (Int.dvd_neg).mpr (gq_l a b)
theorem cut_2 {a b : Int} : (cut a b).2 * gq a b = (b.natAbs : Int) := by
  unfold cut
  refine Int.ediv_mul_cancel ?_
  exact Int.dvd_natAbs.mpr (gq_r a b)
theorem cut_pos {a b : Int} (h : b ≠ 0) : 0 < (cut a b).2 := by
  have h1 := cut_2 (a := a) (b := b)
  have h2 := gq_pos (a := a) h
  have h3 : 0 < (b.natAbs : Int) := by omega
  rw [← h1] at h3
  exact Int.pos_of_mul_pos_left h3 h2 |> fun z => z
theorem cut_isQ {a b : Int} (h : b ≠ 0) : IsQ (cut a b) := by
  refine ⟨cut_pos h, ?_⟩
  have hg := gq_pos (a := a) h
  have e1 : (cut a b).1.natAbs * (gq a b).natAbs = a.natAbs := by
    rw [← Int.natAbs_mul, cut_1]
    split
    · rfl
    · exact Int.natAbs_neg a
  have e2 : (cut a b).2.natAbs * (gq a b).natAbs = b.natAbs := by
    rw [← Int.natAbs_mul, cut_2, Int.natAbs_natCast]
  have e3 : (gq a b).natAbs = Nat.gcd a.natAbs b.natAbs := by
    unfold gq
    exact Int.natAbs_natCast _
  have e4 : Nat.gcd ((cut a b).1.natAbs * (gq a b).natAbs) ((cut a b).2.natAbs * (gq a b).natAbs) = (gq a b).natAbs := by rw [e1, e2, e3]
  rw [Nat.gcd_mul_right] at e4
  have e5 : 0 < (gq a b).natAbs := by omega
  exact Nat.eq_of_mul_eq_mul_right e5 (by rw [e4, Nat.one_mul])
theorem cut_eq {a b : Int} (h : b ≠ 0) : (cut a b).1 * b = a * (cut a b).2 := by
  have hg := gq_pos (a := a) h
  have e1 := cut_1 (a := a) (b := b)
  have e2 := cut_2 (a := a) (b := b)
  have hne : gq a b ≠ 0 := by omega
  apply Int.eq_of_mul_eq_mul_right hne
  by_cases hb : 0 < b
  · rw [if_pos hb] at e1
    have e3 : (b.natAbs : Int) = b := by omega
    rw [e3] at e2
    grind
  · rw [if_neg hb] at e1
    have e3 : (b.natAbs : Int) = -b := by omega
    rw [e3] at e2
    grind
theorem q_ext {p q : Int × Int} (hp : IsQ p) (hq : IsQ q) (h : p.1 * q.2 = q.1 * p.2) : p = q := by
  have hn : p.1.natAbs * q.2.natAbs = q.1.natAbs * p.2.natAbs := by rw [← Int.natAbs_mul, ← Int.natAbs_mul, h]
  have d1 : q.2.natAbs ∣ p.2.natAbs := by
    have : q.2.natAbs ∣ q.1.natAbs * p.2.natAbs := ⟨p.1.natAbs, by rw [← hn, Nat.mul_comm]⟩
    exact Nat.Coprime.dvd_of_dvd_mul_left (show Nat.Coprime q.2.natAbs q.1.natAbs by rw [Nat.coprime_comm]; exact hq.cop) this
  have d2 : p.2.natAbs ∣ q.2.natAbs := by
    have : p.2.natAbs ∣ p.1.natAbs * q.2.natAbs := ⟨q.1.natAbs, by rw [hn, Nat.mul_comm]⟩
    exact Nat.Coprime.dvd_of_dvd_mul_left (show Nat.Coprime p.2.natAbs p.1.natAbs by rw [Nat.coprime_comm]; exact hp.cop) this
  have e := Nat.dvd_antisymm d1 d2
  have h2 : p.2 = q.2 := by
    have := hp.pos
    have := hq.pos
    omega
  have h1 : p.1 = q.1 := by
    rw [h2] at h
    exact Int.eq_of_mul_eq_mul_right (by have := hq.pos; omega) h
  exact Prod.ext h1 h2
theorem cut_q {q : Int × Int} (hq : IsQ q) : cut q.1 q.2 = q := by
  have hne : q.2 ≠ 0 := by have := hq.pos; omega
  exact q_ext (cut_isQ hne) hq (cut_eq hne)
theorem cut_congr {a b c d : Int} (hb : b ≠ 0) (hd : d ≠ 0) (h : a * d = c * b) : cut a b = cut c d := by
  refine q_ext (cut_isQ hb) (cut_isQ hd) ?_
  have e1 := cut_eq (a := a) hb
  have e2 := cut_eq (a := c) hd
  have hbd : b * d ≠ 0 := Int.mul_ne_zero hb hd
  apply Int.eq_of_mul_eq_mul_right hbd
  grind
/-- where the cross products agree with a quotient's, it is that one -/
theorem cut_is {a b : Int} {q : Int × Int} (hb : b ≠ 0) (hq : IsQ q) (h : a * q.2 = q.1 * b) : cut a b = q := by
  have hne : q.2 ≠ 0 := by have := hq.pos; omega
  rw [cut_congr hb hne h, cut_q hq]
theorem cut_le1 {a b : Int} (h : b ≠ 0) : (cut a b).1.natAbs ≤ a.natAbs := by
  have hg := gq_pos (a := a) h
  have e1 : (cut a b).1.natAbs * (gq a b).natAbs = a.natAbs := by
    rw [← Int.natAbs_mul, cut_1]
    split
    · rfl
    · exact Int.natAbs_neg a
  rw [← e1]
  exact Nat.le_mul_of_pos_right _ (by omega)
theorem cut_le2 {a b : Int} (h : b ≠ 0) : (cut a b).2.natAbs ≤ b.natAbs := by
  have hg := gq_pos (a := a) h
  have e2 : (cut a b).2.natAbs * (gq a b).natAbs = b.natAbs := by
    rw [← Int.natAbs_mul, cut_2, Int.natAbs_natCast]
  rw [← e2]
  exact Nat.le_mul_of_pos_right _ (by omega)
theorem q01 : IsQ (0, 1) := ⟨by decide, by decide⟩
theorem q11 : IsQ (1, 1) := ⟨by decide, by decide⟩
theorem IsQ.ne {q : Int × Int} (h : IsQ q) : q.2 ≠ 0 := by have := h.pos; omega
def plusQ (r q : Int × Int) : Int × Int := cut (r.1 * q.2 + q.1 * r.2) (r.2 * q.2)
def prodQ (r q : Int × Int) : Int × Int := cut (r.1 * q.1) (r.2 * q.2)
def lessQ (r q : Int × Int) : Int × Int := cut (r.1 * q.2 - q.1 * r.2) (r.2 * q.2)
def overQ (r q : Int × Int) : Int × Int := cut (r.1 * q.2) (r.2 * q.1)
theorem plus_isQ {r q : Int × Int} (hr : IsQ r) (hq : IsQ q) : IsQ (plusQ r q) := cut_isQ (Int.mul_ne_zero hr.ne hq.ne)
theorem prod_isQ {r q : Int × Int} (hr : IsQ r) (hq : IsQ q) : IsQ (prodQ r q) := cut_isQ (Int.mul_ne_zero hr.ne hq.ne)
theorem less_isQ {r q : Int × Int} (hr : IsQ r) (hq : IsQ q) : IsQ (lessQ r q) := cut_isQ (Int.mul_ne_zero hr.ne hq.ne)
theorem over_isQ {r q : Int × Int} (hr : IsQ r) (hq : q.1 ≠ 0) : IsQ (overQ r q) := cut_isQ (Int.mul_ne_zero hr.ne hq)
theorem plus_0 {q : Int × Int} (hq : IsQ q) : plusQ (0, 1) q = q := cut_is (Int.mul_ne_zero (by decide) hq.ne) hq (by grind)
theorem prod_1 {q : Int × Int} (hq : IsQ q) : prodQ (1, 1) q = q := cut_is (Int.mul_ne_zero (by decide) hq.ne) hq (by grind)
theorem prod_cut {a b : Int} {q : Int × Int} (hb : b ≠ 0) (hq : IsQ q) : prodQ (cut a b) q = cut (a * q.1) (b * q.2) := by
  have h := cut_isQ (a := a) hb
  have e := cut_eq (a := a) hb
  refine cut_congr (Int.mul_ne_zero h.ne hq.ne) (Int.mul_ne_zero hb hq.ne) ?_
  grind
theorem less_minus {r q : Int × Int} : lessQ r q = plusQ r (-q.1, q.2) := by
  unfold lessQ plusQ
  congr 1
  grind
theorem less_back {r q : Int × Int} (hr : IsQ r) (hq : IsQ q) : plusQ (lessQ r q) q = r := by
  have h := less_isQ hr hq
  have hm := Int.mul_ne_zero hr.ne hq.ne
  have e : (lessQ r q).1 * (r.2 * q.2) = (r.1 * q.2 - q.1 * r.2) * (lessQ r q).2 := cut_eq hm
  refine cut_is (Int.mul_ne_zero h.ne hq.ne) hr ?_
  grind
theorem less_self {r : Int × Int} (hr : IsQ r) : lessQ r r = (0, 1) := cut_is (Int.mul_ne_zero hr.ne hr.ne) q01 (by grind)
theorem over_back {r q : Int × Int} (hr : IsQ r) (hq : IsQ q) (h0 : q.1 ≠ 0) : prodQ (overQ r q) q = r := by
  have h := over_isQ hr h0
  have hm := Int.mul_ne_zero hr.ne h0
  have e : (overQ r q).1 * (r.2 * q.1) = (r.1 * q.2) * (overQ r q).2 := cut_eq hm
  refine cut_is (Int.mul_ne_zero h.ne hq.ne) hr ?_
  grind
theorem over_self {r : Int × Int} (hr : IsQ r) (h0 : r.1 ≠ 0) : overQ r r = (1, 1) := cut_is (Int.mul_ne_zero hr.ne h0) q11 (by grind)
theorem prod5 {a b c d e : Int × Int} (ha : IsQ a) (hb : IsQ b) (hc : IsQ c) (hd : IsQ d) (he : IsQ e) :
    prodQ (prodQ (prodQ (prodQ (prodQ (1, 1) e) d) c) b) a = prodQ (prodQ (prodQ (prodQ (prodQ (1, 1) a) b) c) d) e := by
  have n1 : (1 : Int) ≠ 0 := by decide
  have s : ∀ {p : Int × Int}, IsQ p → prodQ (1, 1) p = cut p.1 p.2 := fun {p} hp => by rw [prod_1 hp, cut_q hp]
  rw [s he, s ha, prod_cut he.ne hd, prod_cut (Int.mul_ne_zero he.ne hd.ne) hc, prod_cut (Int.mul_ne_zero (Int.mul_ne_zero he.ne hd.ne) hc.ne) hb,
    prod_cut (Int.mul_ne_zero (Int.mul_ne_zero (Int.mul_ne_zero he.ne hd.ne) hc.ne) hb.ne) ha, prod_cut ha.ne hb, prod_cut (Int.mul_ne_zero ha.ne hb.ne) hc,
    prod_cut (Int.mul_ne_zero (Int.mul_ne_zero ha.ne hb.ne) hc.ne) hd, prod_cut (Int.mul_ne_zero (Int.mul_ne_zero (Int.mul_ne_zero ha.ne hb.ne) hc.ne) hd.ne) he]
  congr 1 <;> grind
/-- the program's way to it -/
theorem low_pos {a b : Int} (h : 0 < b) : cut a b = (a / gq a b, b / gq a b) := by
  unfold cut
  rw [if_pos h, show (b.natAbs : Int) = b by omega]
theorem low_neg {a b : Int} (h : b < 0) : cut a b = (a.fdiv (-gq a b), b.fdiv (-gq a b)) := by
  have hg := gq_pos (a := a) (b := b) (by omega)
  have e1 := cut_1 (a := a) (b := b)
  have e2 := cut_2 (a := a) (b := b)
  rw [if_neg (by omega)] at e1
  rw [show (b.natAbs : Int) = -b by omega] at e2
  refine Prod.ext ?_ ?_
  · exact (Int.fdiv_eq_of_eq_mul_left (by omega) (by grind)).symm
  · exact (Int.fdiv_eq_of_eq_mul_left (by omega) (by grind)).symm
end Qu

/-! Primes, divisors, parts, plainly. -/
namespace Nm
def Pr (p : Nat) : Prop := 2 ≤ p ∧ ∀ d, d ∣ p → d = 1 ∨ d = p
structure Least (n l : Nat) : Prop where
  two : 2 ≤ l
  dvd : l ∣ n
  least : ∀ d, 2 ≤ d → d ∣ n → l ≤ d
theorem Least.pr {n l : Nat} (h : Least n l) : Pr l := by
  refine ⟨h.two, fun d hd => ?_⟩
  by_cases h1 : 2 ≤ d
  · have a := h.least d h1 (Nat.dvd_trans hd h.dvd)
    have b := Nat.le_of_dvd (by have := h.two; omega) hd
    omega
  · have : d ≠ 0 := fun z => by
      subst z
      have := Nat.eq_zero_of_zero_dvd hd
      have := h.two
      omega
    omega
theorem Least.uniq {n l m : Nat} (h : Least n l) (h' : Least n m) : l = m :=
  Nat.le_antisymm (h.least m h'.two h'.dvd) (h'.least l h.two h.dvd)
theorem least_ex {n : Nat} (h : 2 ≤ n) : ∃ l, Least n l := by
  have key : ∀ k, (∃ d, 2 ≤ d ∧ d ≤ k ∧ d ∣ n) → ∃ l, Least n l := by
    intro k
    induction k with
    | zero => rintro ⟨d, h1, h2, _⟩; omega
    | succ k ih =>
      rintro ⟨d, h1, h2, h3⟩
      by_cases hk : ∃ d, 2 ≤ d ∧ d ≤ k ∧ d ∣ n
      · exact ih hk
      · refine ⟨d, h1, h3, fun e he1 he2 => ?_⟩
        by_cases hlt : d ≤ e
        · exact hlt
        · exact absurd ⟨e, he1, by omega, he2⟩ hk
  exact key n ⟨n, h, Nat.le_refl _, Nat.dvd_refl _⟩
/-- trial division that has found none below t, t squared above n -/
theorem least_self {n t : Nat} (hn : 2 ≤ n) (h : ∀ d, 2 ≤ d → d < t → ¬ d ∣ n) (ht : n < t * t) : Least n n := by
  refine ⟨hn, Nat.dvd_refl _, fun d h1 h2 => ?_⟩
  obtain ⟨e, he⟩ := h2
  by_cases hd : d < t
  · exact absurd ⟨e, he⟩ (h d h1 hd)
  · by_cases he1 : e = 1
    · subst he1
      omega
    · have he0 : e ≠ 0 := fun z => by subst z; omega
      have het : e < t := by
        refine Nat.lt_of_not_le fun z => ?_
        have := Nat.mul_le_mul (Nat.le_of_not_lt hd) z
        omega
      exact absurd ⟨d, by rw [he, Nat.mul_comm]⟩ (h e (by omega) het)
theorem least_at {n t : Nat} (ht : 2 ≤ t) (h : ∀ d, 2 ≤ d → d < t → ¬ d ∣ n) (hd : t ∣ n) : Least n t :=
  ⟨ht, hd, fun d h1 h2 => Nat.le_of_not_lt fun z => h d h1 z h2⟩

theorem Pr.pos {p : Nat} (h : Pr p) : 0 < p := by have := h.1; omega
theorem Pr.cop {p a : Nat} (h : Pr p) (ha : ¬ p ∣ a) : Nat.Coprime p a := by
  rcases h.2 _ (Nat.gcd_dvd_left p a) with e | e
  · exact e
  · exact absurd (e ▸ Nat.gcd_dvd_right p a) ha
theorem Pr.mul {p a b : Nat} (h : Pr p) (hd : p ∣ a * b) : p ∣ a ∨ p ∣ b := by
  by_cases ha : p ∣ a
  · exact .inl ha
  · exact .inr (Nat.Coprime.dvd_of_dvd_mul_left (h.cop ha) hd)
theorem Pr.not1 {p : Nat} (h : Pr p) : ¬ p ∣ 1 := fun z => by
  have := Nat.le_of_dvd (by decide) z
  have := h.1
  omega
theorem Pr.pow {p a : Nat} (h : Pr p) : ∀ {e : Nat}, p ∣ a ^ e → p ∣ a
  | 0, hd => absurd (by rw [Nat.pow_zero] at hd; exact hd) h.not1
  | e + 1, hd => by
    rw [Nat.pow_succ] at hd
    rcases h.mul hd with z | z
    · exact h.pow z
    · exact z
theorem Pr.eq {p q : Nat} (h : Pr p) (h' : Pr q) (hd : p ∣ q) : p = q := by
  rcases h'.2 p hd with e | e
  · have := h.1
    omega
  · exact e

def prodN (l : List Nat) : Nat := l.foldr (· * ·) 1
theorem prodN_cons (a : Nat) (l : List Nat) : prodN (a :: l) = a * prodN l := rfl
theorem prodN_append (l m : List Nat) : prodN (l ++ m) = prodN l * prodN m := by
  induction l with
  | nil => show prodN m = 1 * prodN m; rw [Nat.one_mul]
  | cons a l ih => rw [List.cons_append, prodN_cons, prodN_cons, ih, Nat.mul_assoc]
theorem Pr.prod {p : Nat} (h : Pr p) : ∀ {l : List Nat}, p ∣ prodN l → ∃ a ∈ l, p ∣ a
  | [], hd => absurd hd h.not1
  | a :: l, hd => by
    rcases h.mul hd with z | z
    · exact ⟨a, List.mem_cons_self, z⟩
    · obtain ⟨b, hb, hz⟩ := h.prod (l := l) z
      exact ⟨b, List.mem_cons_of_mem _ hb, hz⟩
theorem dvd_prod {a : Nat} : ∀ {l : List Nat}, a ∈ l → a ∣ prodN l
  | b :: l, h => by
    rcases List.mem_cons.mp h with e | h
    · subst e
      exact ⟨prodN l, rfl⟩
    · exact Nat.dvd_trans (dvd_prod h) ⟨b, by rw [prodN_cons, Nat.mul_comm]⟩
theorem prod_pos : ∀ {l : List Nat}, (∀ a ∈ l, 0 < a) → 0 < prodN l
  | [], _ => by decide
  | a :: l, h => Nat.mul_pos (h a List.mem_cons_self) (prod_pos fun b hb => h b (List.mem_cons_of_mem _ hb))

/-- the prime factors, ascending, each as often as it divides -/
structure Facs (n : Nat) (fs : List Nat) : Prop where
  pr : ∀ p ∈ fs, Pr p
  asc : fs.Pairwise (· ≤ ·)
  prod : prodN fs = n
theorem Facs.mem {n : Nat} {fs : List Nat} (h : Facs n fs) (p : Nat) : p ∈ fs ↔ Pr p ∧ p ∣ n := by
  constructor
  · intro hp
    exact ⟨h.pr p hp, h.prod ▸ dvd_prod hp⟩
  · rintro ⟨hp, hd⟩
    rw [← h.prod] at hd
    obtain ⟨a, ha, hz⟩ := hp.prod hd
    rw [hp.eq (h.pr a ha) hz]
    exact ha

/-- the primes with the greatest powers that divide -/
structure Parts (n : Nat) (ps : List (Nat × Nat)) : Prop where
  prod : prodN (ps.map (·.2)) = n
  asc : (ps.map (·.1)).Pairwise (· < ·)
  pw : ∀ x ∈ ps, Pr x.1 ∧ ∃ e, 1 ≤ e ∧ x.2 = x.1 ^ e
theorem Parts.mem {n : Nat} {ps : List (Nat × Nat)} (h : Parts n ps) (p : Nat) : p ∈ ps.map (·.1) ↔ Pr p ∧ p ∣ n := by
  constructor
  · intro hp
    obtain ⟨x, hx, rfl⟩ := List.mem_map.mp hp
    obtain ⟨h1, e, he, h2⟩ := h.pw x hx
    refine ⟨h1, ?_⟩
    rw [← h.prod]
    refine Nat.dvd_trans ?_ (dvd_prod (List.mem_map.mpr ⟨x, hx, rfl⟩))
    rw [h2]
    obtain ⟨k, rfl⟩ : ∃ k, e = k + 1 := ⟨e - 1, by omega⟩
    exact ⟨x.1 ^ k, by rw [Nat.pow_succ, Nat.mul_comm]⟩
  · rintro ⟨hp, hd⟩
    rw [← h.prod] at hd
    obtain ⟨a, ha, hz⟩ := hp.prod hd
    obtain ⟨x, hx, rfl⟩ := List.mem_map.mp ha
    obtain ⟨h1, e, he, h2⟩ := h.pw x hx
    rw [h2] at hz
    rw [hp.eq h1 (hp.pow hz)]
    exact List.mem_map.mpr ⟨x, hx, rfl⟩
/-- two strictly ascending lists with the same members are one -/
theorem asc_ext {α : Type} {r : α → α → Prop} (ir : ∀ a, ¬ r a a) (tr : ∀ a b c, r a b → r b c → r a c) : ∀ {l m : List α}, l.Pairwise r → m.Pairwise r → (∀ a, a ∈ l ↔ a ∈ m) → l = m
  | [], [], _, _, _ => rfl
  | [], b :: m, _, _, h => absurd ((h b).mpr List.mem_cons_self) List.not_mem_nil
  | a :: l, [], _, _, h => absurd ((h a).mp List.mem_cons_self) List.not_mem_nil
  | a :: l, b :: m, h1, h2, h => by
    obtain ⟨a1, a2⟩ := List.pairwise_cons.mp h1
    obtain ⟨b1, b2⟩ := List.pairwise_cons.mp h2
    have e : a = b := by
      rcases List.mem_cons.mp ((h a).mp List.mem_cons_self) with e | e
      · exact e
      · rcases List.mem_cons.mp ((h b).mpr List.mem_cons_self) with e' | e'
        · exact e'.symm
        · exact absurd (tr _ _ _ (b1 a e) (a1 b e')) (ir b)
    subst e
    have hm : ∀ c, c ∈ l ↔ c ∈ m := fun c => by
      constructor
      · intro hc
        rcases List.mem_cons.mp ((h c).mp (List.mem_cons_of_mem _ hc)) with z | z
        · subst z
          exact absurd (a1 c hc) (ir c)
        · exact z
      · intro hc
        rcases List.mem_cons.mp ((h c).mpr (List.mem_cons_of_mem _ hc)) with z | z
        · subst z
          exact absurd (b1 c hc) (ir c)
        · exact z
    rw [asc_ext ir tr a2 b2 hm]
theorem asc_nat {l m : List Nat} (h1 : l.Pairwise (· < ·)) (h2 : m.Pairwise (· < ·)) (h : ∀ a, a ∈ l ↔ a ∈ m) : l = m :=
  asc_ext (fun a => Nat.lt_irrefl a) (fun _ _ _ => Nat.lt_trans) h1 h2 h

/-- how often a prime goes into a number is one number -/
theorem val_uniq {p a b : Nat} (hp : Pr p) (ha : ¬ p ∣ a) (hb : ¬ p ∣ b) : ∀ {e c : Nat}, p ^ e * a = p ^ c * b → e = c
  | 0, 0, _ => rfl
  | 0, c + 1, h => by
    refine absurd ?_ ha
    rw [Nat.pow_zero, Nat.one_mul] at h
    exact ⟨p ^ c * b, by rw [h, Nat.pow_succ]; ac_rfl⟩
  | e + 1, 0, h => by
    refine absurd ?_ hb
    rw [Nat.pow_zero, Nat.one_mul] at h
    exact ⟨p ^ e * a, by rw [← h, Nat.pow_succ]; ac_rfl⟩
  | e + 1, c + 1, h => by
    refine congrArg (· + 1) (val_uniq hp ha hb ?_)
    refine Nat.eq_of_mul_eq_mul_left hp.pos ?_
    rw [Nat.pow_succ, Nat.pow_succ] at h
    calc p * (p ^ e * a) = p ^ e * p * a := by ac_rfl
      _ = p ^ c * p * b := h
      _ = p * (p ^ c * b) := by ac_rfl
theorem facs_split {p : Nat} (hp : Pr p) : ∀ {fs : List Nat}, (∀ q ∈ fs, Pr q) → ∃ b, ¬ p ∣ b ∧ prodN fs = p ^ (fs.count p) * b
  | [], _ => ⟨1, fun z => by
      have := Nat.le_of_dvd (by decide) z
      have := hp.1
      omega, rfl⟩
  | q :: fs, h => by
    obtain ⟨b, h1, h2⟩ := facs_split hp (fs := fs) fun r hr => h r (List.mem_cons_of_mem _ hr)
    by_cases e : q = p
    · subst e
      refine ⟨b, h1, ?_⟩
      rw [prodN_cons, h2, List.count_cons_self, Nat.pow_succ]
      ac_rfl
    · refine ⟨q * b, fun z => ?_, ?_⟩
      · rcases hp.mul z with z | z
        · exact e (hp.eq (h q List.mem_cons_self) z).symm
        · exact h1 z
      · rw [prodN_cons, h2, List.count_cons_of_ne e]
        ac_rfl
theorem parts_split {ps : List (Nat × Nat)} (hpw : ∀ x ∈ ps, Pr x.1 ∧ ∃ e, 1 ≤ e ∧ x.2 = x.1 ^ e) : ∀ {p : Nat}, Pr p → p ∉ ps.map (·.1) → ¬ p ∣ prodN (ps.map (·.2)) := by
  intro p hp hn hd
  obtain ⟨a, ha, hz⟩ := hp.prod hd
  obtain ⟨x, hx, rfl⟩ := List.mem_map.mp ha
  obtain ⟨h1, e, he, h2⟩ := hpw x hx
  rw [h2] at hz
  exact hn (List.mem_map.mpr ⟨x, hx, (hp.eq h1 (hp.pow hz)).symm⟩)
theorem parts_at {ps : List (Nat × Nat)} (hpw : ∀ x ∈ ps, Pr x.1 ∧ ∃ e, 1 ≤ e ∧ x.2 = x.1 ^ e) (hasc : (ps.map (·.1)).Pairwise (· < ·)) : ∀ x ∈ ps, ∃ b, ¬ x.1 ∣ b ∧ prodN (ps.map (·.2)) = x.2 * b := by
  induction ps with
  | nil => intro x hx; exact absurd hx List.not_mem_nil
  | cons y ps ih =>
    intro x hx
    obtain ⟨a1, a2⟩ := List.pairwise_cons.mp hasc
    have hpw' : ∀ x ∈ ps, Pr x.1 ∧ ∃ e, 1 ≤ e ∧ x.2 = x.1 ^ e := fun z hz => hpw z (List.mem_cons_of_mem _ hz)
    rcases List.mem_cons.mp hx with e | hx
    · subst e
      refine ⟨_, parts_split hpw' (hpw x List.mem_cons_self).1 fun z => ?_, rfl⟩
      exact absurd (a1 _ z) (Nat.lt_irrefl _)
    · obtain ⟨b, h1, h2⟩ := ih hpw' a2 x hx
      have hp := (hpw' x hx).1
      refine ⟨y.2 * b, fun z => ?_, ?_⟩
      · rcases hp.mul z with z | z
        · obtain ⟨h3, e, _, h4⟩ := hpw y List.mem_cons_self
          rw [h4] at z
          have e1 := hp.eq h3 (hp.pow z)
          have e2 : y.1 < x.1 := a1 x.1 (List.mem_map.mpr ⟨x, hx, rfl⟩)
          omega
        · exact h1 z
      · show y.2 * prodN (ps.map (·.2)) = _
        rw [h2]
        ac_rfl
/-- each part's power, from the factors -/
theorem Parts.power {n : Nat} {ps : List (Nat × Nat)} {fs : List Nat} (h : Parts n ps) (g : Facs n fs) : ∀ x ∈ ps, x.2 = x.1 ^ (fs.count x.1) := by
  intro x hx
  obtain ⟨h1, e, he, h2⟩ := h.pw x hx
  obtain ⟨b, hb1, hb2⟩ := parts_at h.pw h.asc x hx
  obtain ⟨c, hc1, hc2⟩ := facs_split h1 g.pr
  rw [h2]
  congr 1
  refine val_uniq h1 hb1 hc1 ?_
  rw [← h2, ← hb2, h.prod, ← hc2, g.prod]
theorem Parts.uniq {n : Nat} {ps qs : List (Nat × Nat)} (h : Parts n ps) (g : Parts n qs) : ps = qs := by
  have e1 : ps.map (·.1) = qs.map (·.1) := asc_nat h.asc g.asc fun a => (h.mem a).trans (g.mem a).symm
  have e2 : ∀ x ∈ ps, ∀ y ∈ qs, x.1 = y.1 → x.2 = y.2 := by
    intro x hx y hy e
    obtain ⟨h1, i, hi, h2⟩ := h.pw x hx
    obtain ⟨k1, j, hj, k2⟩ := g.pw y hy
    obtain ⟨b, hb1, hb2⟩ := parts_at h.pw h.asc x hx
    obtain ⟨c, hc1, hc2⟩ := parts_at g.pw g.asc y hy
    rw [h2, k2, ← e]
    congr 1
    refine val_uniq h1 hb1 (e ▸ hc1) ?_
    rw [← h2, ← hb2, h.prod, ← g.prod, hc2, k2, e]
  clear h g
  induction ps generalizing qs with
  | nil =>
    cases qs with
    | nil => rfl
    | cons y qs => cases e1
  | cons x ps ih =>
    cases qs with
    | nil => cases e1
    | cons y qs =>
      injection e1 with a1 a2
      have a3 := e2 x List.mem_cons_self y List.mem_cons_self a1
      rw [show x = y from Prod.ext a1 a3, ih a2 fun u hu v hv => e2 u (List.mem_cons_of_mem _ hu) v (List.mem_cons_of_mem _ hv)]

/-! ### totients -/
def totP (ps : List (Nat × Nat)) : Nat := ps.foldl (fun m x => m * (x.2 - x.2 / x.1)) 1
def totF (n : Nat) (l : List Nat) : Nat := l.foldl (fun m p => m / p * (p - 1)) n
theorem totP_go (ps : List (Nat × Nat)) (m : Nat) : ps.foldl (fun m x => m * (x.2 - x.2 / x.1)) m = m * totP ps := by
  unfold totP
  induction ps generalizing m with
  | nil => show m = m * 1; rw [Nat.mul_one]
  | cons x ps ih =>
    show ps.foldl _ (m * (x.2 - x.2 / x.1)) = m * ps.foldl _ (1 * (x.2 - x.2 / x.1))
    rw [ih, ih (1 * (x.2 - x.2 / x.1)), Nat.one_mul, Nat.mul_assoc]
theorem tot_go (ps : List (Nat × Nat)) (hpw : ∀ x ∈ ps, Pr x.1 ∧ ∃ e, 1 ≤ e ∧ x.2 = x.1 ^ e) (m : Nat) : totF (m * prodN (ps.map (·.2))) (ps.map (·.1)) = m * totP ps := by
  induction ps generalizing m with
  | nil => rfl
  | cons x ps ih =>
    obtain ⟨h1, e, he, h2⟩ := hpw x List.mem_cons_self
    have hp := h1.pos
    obtain ⟨k, rfl⟩ : ∃ k, e = k + 1 := ⟨e - 1, by omega⟩
    rw [Nat.pow_succ] at h2
    have e1 : x.2 / x.1 = x.1 ^ k := by rw [h2]; exact Nat.mul_div_cancel _ hp
    have e2 : x.2 - x.2 / x.1 = x.1 ^ k * (x.1 - 1) := by
      rw [e1, h2, Nat.mul_sub, Nat.mul_one]
    have e3 : m * (x.2 * prodN (ps.map (·.2))) / x.1 * (x.1 - 1) = m * (x.2 - x.2 / x.1) * prodN (ps.map (·.2)) := by
      have : m * (x.2 * prodN (ps.map (·.2))) = m * x.1 ^ k * prodN (ps.map (·.2)) * x.1 := by
        rw [h2]
        ac_rfl
      rw [this, Nat.mul_div_cancel _ hp, e2]
      ac_rfl
    have e4 : totP (x :: ps) = (x.2 - x.2 / x.1) * totP ps := by
      show ps.foldl _ (1 * (x.2 - x.2 / x.1)) = _
      rw [totP_go, Nat.one_mul]
    show totF (m * (x.2 * prodN (ps.map (·.2))) / x.1 * (x.1 - 1)) (ps.map (·.1)) = _
    rw [e3, ih (fun z hz => hpw z (List.mem_cons_of_mem _ hz)), e4, Nat.mul_assoc]
theorem Parts.tot {n : Nat} {ps : List (Nat × Nat)} (h : Parts n ps) : totF n (ps.map (·.1)) = totP ps := by
  have e := tot_go ps h.pw 1
  rw [Nat.one_mul, Nat.one_mul, h.prod] at e
  exact e

/-! ### divisors -/
theorem dvd_step {m p d : Nat} (hp : Pr p) (hm : 0 < m) : d ∣ m * p ↔ d ∣ m ∨ ∃ e, e ∣ m ∧ d = p * e := by
  constructor
  · intro h
    by_cases hd : p ∣ d
    · obtain ⟨e, rfl⟩ := hd
      refine .inr ⟨e, ?_, rfl⟩
      rw [Nat.mul_comm m p] at h
      exact Nat.dvd_of_mul_dvd_mul_left hp.pos h
    · refine .inl (Nat.Coprime.dvd_of_dvd_mul_left (show Nat.Coprime d p from ?_) (show d ∣ p * m by rw [Nat.mul_comm]; exact h))
      rw [Nat.coprime_comm]
      exact hp.cop hd
  · rintro (h | ⟨e, h, rfl⟩)
    · exact Nat.dvd_trans h ⟨p, rfl⟩
    · rw [Nat.mul_comm m p]
      exact Nat.mul_dvd_mul_left p h

/-! ### one prime, one part -/
theorem Facs.one {n l : Nat} {fs : List Nat} (g : Facs n fs) (h : Least n l) : (l = n ↔ fs.length = 1) := by
  constructor
  · intro e
    subst e
    have hp := h.pr
    match fs, g with
    | [], g =>
      have : (1 : Nat) = l := g.prod
      have := h.two
      omega
    | [a], _ => rfl
    | a :: b :: r, g =>
      have ha := g.pr a List.mem_cons_self
      have hb := g.pr b (List.mem_cons_of_mem _ List.mem_cons_self)
      have hd : a ∣ l := g.prod ▸ dvd_prod List.mem_cons_self
      have e := ha.eq hp hd
      have e2 : a * (b * prodN r) = l := g.prod
      have hr : 0 < prodN r := prod_pos fun c hc => (g.pr c (List.mem_cons_of_mem _ (List.mem_cons_of_mem _ hc))).pos
      have : 2 * 1 ≤ b * prodN r := Nat.mul_le_mul hb.1 hr
      have h3 : a * 2 ≤ a * (b * prodN r) := Nat.mul_le_mul_left a (by omega)
      have := ha.1
      omega
  · intro e
    match fs, g, e with
    | [a], g, _ =>
      have e1 : a * 1 = n := g.prod
      have ha := g.pr a List.mem_cons_self
      rw [Nat.mul_one] at e1
      subst e1
      exact (h.pr).eq ha h.dvd
theorem Parts.one {n : Nat} {ps : List (Nat × Nat)} {fs : List Nat} (h : Parts n ps) (g : Facs n fs) : (ps.length = 1 ↔ fs ≠ [] ∧ fs[0]? = fs[fs.length - 1]?) := by
  have hm : ∀ p, p ∈ ps.map (·.1) ↔ p ∈ fs := fun p => (h.mem p).trans (g.mem p).symm
  constructor
  · intro e
    match ps, e, hm with
    | [x], _, hm =>
      have all : ∀ p ∈ fs, p = x.1 := fun p hp => List.mem_singleton.mp ((hm p).mpr hp)
      have hx : x.1 ∈ fs := (hm x.1).mp List.mem_cons_self
      have hl : 0 < fs.length := List.length_pos_of_mem hx
      refine ⟨List.ne_nil_of_mem hx, ?_⟩
      rw [List.getElem?_eq_getElem hl, List.getElem?_eq_getElem (show fs.length - 1 < fs.length by omega), all _ (List.getElem_mem _), all _ (List.getElem_mem _)]
  · rintro ⟨hne, e⟩
    have hl : 0 < fs.length := List.length_pos_iff.mpr hne
    rw [List.getElem?_eq_getElem hl, List.getElem?_eq_getElem (show fs.length - 1 < fs.length by omega)] at e
    have e := Option.some.inj e
    have asc := List.pairwise_iff_getElem.mp g.asc
    have all : ∀ p ∈ fs, p = fs[0] := fun p hp => by
      obtain ⟨i, hi, rfl⟩ := List.mem_iff_getElem.mp hp
      have a : fs[0] ≤ fs[i] := by
        by_cases h0 : i = 0
        · subst h0; exact Nat.le_refl _
        · exact asc 0 i hl hi (by omega)
      have b : fs[i] ≤ fs[fs.length - 1] := by
        by_cases h0 : i = fs.length - 1
        · subst h0; exact Nat.le_refl _
        · exact asc i (fs.length - 1) hi (by omega) (by omega)
      omega
    have h1 : ps.map (·.1) = [fs[0]] := asc_nat h.asc (List.pairwise_singleton _ _) fun a => by
      rw [hm a, List.mem_singleton]
      constructor
      · exact all a
      · intro z
        rw [z]
        exact List.getElem_mem _
    have := congrArg List.length h1
    rw [List.length_map] at this
    exact this
theorem facs_one : Facs 1 [] := ⟨fun _ h => absurd h List.not_mem_nil, List.Pairwise.nil, rfl⟩
end Nm

set_option Elab.async false
set_option linter.all false
set_option maxRecDepth 100000
/-! set(a list of ints), sorted(a set of ints) of any size. -/
namespace Gd
open PySem PySem.Spec PyProof.Rows L2
section
variable {P : Program} {w : World} {A : Around} {E : Value → Shared → Prop} {s : Shared}
theorem sortedSetN {a : Addr} {S : Int → Bool} {m : Nat} {Q : Value → Shared → Prop} (R : SetR w s.heap a S m) (hh : A.handled = none) (hm : m ≤ sizeLine)
    (hQ : ∀ (s' : Shared) (p : Addr) (zs : Array Value) (c : Nat) (ks : List Int), (∀ b o, s.heap.get? b = some o → s'.heap.get? b = some o) → s'.gens = s.gens ∧ s'.os = s.os → s.heap.objs.size ≤ p →
      s'.heap.get? p = some (seqObj "list" zs c) → IntsAre zs.toList ks → ks.Pairwise (· < ·) → (∀ k, k ∈ ks ↔ S k = true) → ks.length = m → Q (.ref p) s') :
    wpAny (model P w) A (call (.builtin "sorted") [.ref a]) Q E s := by
  obtain ⟨o, es, ep, t, at_a, ex, dat, good, nodup, mems, bnd, fits, size, ris, led⟩ := R
  refine Calls.call_function_entry kind_sorted plain_sorted entry_sorted (args_sorted1 _) ?_
  unfold Builtin.«sorted»
  refine wpAny_bind (m := checkCount "sorted" 1 1 _) (wpAny_pure ?_)
  refine wpAny_bind (collect_set (A := A.in1) hh ⟨o, at_a, ex.1, dat⟩ fits bnd ris led ?_)
  intro s1 vs keep grown gens os perm
  have len : vs.length = m := by
    rw [perm.length_eq, List.length_map, Array.length_toList]
    exact size
  have vints : IntsAre vs (vs.map Builtin.Re.reRawOf) := by
    refine ints_of vs fun v hv => ?_
    obtain ⟨e, he, q⟩ := List.mem_map.mp (perm.mem_iff.mp hv)
    obtain ⟨k, tk, g1, _⟩ := good e he
    exact ⟨k, tk, q ▸ g1⟩
  have permK : (vs.map Builtin.Re.reRawOf).Perm (es.toList.map keyOf) := by
    have q := perm.map Builtin.Re.reRawOf
    rwa [List.map_map] at q
  have lenL : vs.length ≤ sizeLine := by
    rw [len]
    exact hm
  refine wpAny_bind (wpAny_newList ?_ lenL)
  have atL : (s1.heap.push (seqObj "list" vs.toArray 0)).get? s1.heap.objs.size = some (seqObj "list" vs.toArray 0) :=
    Heap.get?_push_size _ rfl
  refine wpAny_bind (wpAny_holding (wpAny_call_entry slot_list_sort ⟨_, atL, rfl⟩ entry_list_sort ?_ (args_list_sort _)))
  refine SrtO.list_sort_ord SrtO.swo_int atL lenL (fun h2 => SrtO.ints_sortable vints h2) fun out srt stb => ⟨_, rfl, wpAny_pure ⟨_, rfl, ?_⟩⟩
  obtain ⟨i1, i2, i3⟩ := SrtO.ints_out vints srt stb
  obtain ⟨c, hc⟩ := sortedHeap_at (out := out.toArray) atL
  have permS := i2.trans permK
  refine hQ _ s1.heap.objs.size out.toArray c (out.map SrtO.iv) (fun b u e => ?_) ⟨gens, os⟩ grown hc i1 (lt_of_le_nodup _ i3 (permS.nodup_iff.mpr nodup)) (fun k => ?_) ?_
  · have e1 := keep b u e
    have lt := Heap.lt_size e1
    have lt2 : b < (s1.heap.push (seqObj "list" vs.toArray 0)).objs.size := by
      rw [size_push']
      exact Nat.lt_succ_of_lt lt
    have old := sortedHeap_old (h := s1.heap.push (seqObj "list" vs.toArray 0)) (vs := vs) (out := out.toArray) (Nat.ne_of_lt lt) lt2
    show (sortedHeap (s1.heap.push (seqObj "list" vs.toArray 0)) s1.heap.objs.size vs out.toArray).get? b = some u
    rw [old]
    exact Heap.get?_push_of_some _ e1
  · rw [permS.mem_iff]
    exact (mems k).symm
  · rw [permS.length_eq, List.length_map, Array.length_toList]
    exact size

abbrev setO0 (w : World) : Obj := { cls := .type "set", dict := none, data := .set #[] 0 (.fresh 0 0 (!w.params.followText "set-order")) }
set_option maxHeartbeats 3200000 in
theorem callSetL {l : Addr} {its : Array Value} (ns : List Int) {Q : Value → Shared → Prop} (hh : A.handled = none) (hl : s.heap.IsList l its) (hi : IntsAre its.toList ns) (hb : ns.length + 1 < scanBound)
    (h : ∀ (h' : Heap) (tk m : Nat), SetR w h' s.heap.objs.size (fun j => decide (j ∈ ns)) m → m ≤ ns.length → (∀ b o, s.heap.get? b = some o → h'.get? b = some o) → Q (.ref s.heap.objs.size) { s with heap := h', toks := tk }) :
    wpAny (model P w) A (call (.type "set") [.ref l]) Q E s := by
  have size : its.size = ns.length := by
    rw [← Array.length_toList]
    exact hi.length
  have ⟨c, tl, mro⟩ := F.called_set.mro
  have made := F.called_set.made
  have sub := F.called_set.sub
  have typ := F.called_set.notType
  have can := F.called_set.canCreate
  have tcall := F.typeCall_set_1 (.ref l)
  refine wpAny_call (codeAny_of_tree ?_)
  show wpAny _ _ (callAny (.type "set") _) _ _ _
  refine wpAny_pure ⟨Code.quiet_builtin _ (by decide +kernel), codeAny_builtin F.entry_type_call ?_⟩
  rw [Around.under_plain (weight_type_call_type "set" [.ref l] []) rfl]
  repeat any_goals first | assumption | wp_step
  refine codeAny_mono (code_set_led1 (.ref l) (E := E) (Q₁ := fun obj s₁ => obj = .ref s.heap.objs.size ∧ s₁ = { s with heap := s.heap.push (setO0 w) }) ⟨rfl, rfl⟩) fun r s₁ hr => ?_
  match r, hr with
  | .error _, hr => exact hr
  | .ok .next, hr => exact hr.elim
  | .ok .brk, hr => exact hr.elim
  | .ok .cont, hr => exact hr.elim
  | .ok (.ret obj), ⟨eo, es⟩ =>
    subst eo
    subst es
    have atS : (s.heap.push (setO0 w)).get? s.heap.objs.size = some (setO0 w) := Heap.get?_push_size _ rfl
    have typS : Shared.TypeIs { s with heap := s.heap.push (setO0 w) } (.ref s.heap.objs.size) "set" := ⟨_, atS, rfl⟩
    have ilook := F.called_set.init.lookup
    have ibind := F.called_set.init.bind (.ref s.heap.objs.size)
    repeat any_goals first | assumption | wp_step
    refine codeAny_mono (codeAny_call_builtin (R := wants (fun r s₂ => r = .none ∧ ∃ h' tk m, s₂ = { s with heap := h', toks := tk } ∧ SetR w h' s.heap.objs.size (fun j => decide (j ∈ ns)) m ∧ m ≤ ns.length ∧
        ∀ b o, s.heap.get? b = some o → h'.get? b = some o) E) F.called_set.init.plain F.entry_set_init (check_set_init_1 typS ?_)) fun r₂ s₂ hr₂ => ?_
    · obtain ⟨ol, hol, hcl, nl, hdl⟩ := hl
      obtain ⟨ocls, odict, odata, oslots⟩ := ol
      simp only at hcl hdl
      subst hcl
      subst hdl
      have hol' : (s.heap.push (setO0 w)).get? l = some { cls := .type "list", dict := odict, data := .seq its nl, slots := oslots } := Heap.get?_push_of_some _ hol
      have s1 := F.sub_list_set
      have s2 := F.sub_list_frozenset
      have s3 : (Value.type "list" == Value.type "dict") = false := by decide
      have isL : (s.heap.push (setO0 w)).IsList l its := ⟨_, hol', rfl, nl, rfl⟩
      unfold Builtin.«set.__init__» noKeywords Builtin.Frozenset.updateFrom
      generalize hPI : pyIter = PI
      wp_walk
      subst hPI
      refine wpAny_pyIter_list isL (wpAny_bind (wpAny_runValue ?_))
      have ltl : l < s.heap.objs.size := Heap.lt_size hol
      have sz1 : (s.heap.push (setO0 w)).objs.size = s.heap.objs.size + 1 := Heap.size_push ..
      have h3 : A.in1.in1.in1.handled = none := hh
      have neI : l ≠ (s.heap.push (setO0 w)).objs.size := Nat.ne_of_lt (by rw [sz1]; exact Nat.lt_succ_of_lt ltl)
      have nof : s.heap.objs.size ∉ [(s.heap.push (setO0 w)).objs.size, l] := by
        intro z
        rcases List.mem_cons.mp z with z | z
        · exact absurd z (Nat.ne_of_lt (by rw [sz1]; exact Nat.lt_succ_self _))
        · exact absurd (List.mem_singleton.mp z) (Nat.ne_of_gt ltl)
      have vals : ∀ (i : Nat) (v : Value), its[i]? = some v → ∃ k t, ns[i]? = some k ∧ v = .int k t := by
        intro i v hv
        have lt : i < ns.length := size ▸ (Array.getElem?_eq_some_iff.mp hv).1
        obtain ⟨t, e⟩ := IntsAre.int_at hi i v (by rw [Array.getElem?_toList]; exact hv)
        refine ⟨ns[i], t, List.getElem?_eq_getElem lt, e.trans ?_⟩
        rw [List.getD_eq_getElem?_getD, List.getElem?_eq_getElem lt, Option.getD_some]
      refine set_update_ints ((Walks.list h3 _ l neI its).toS) s.heap.objs.size nof ns size hb vals (its.size - 0) 0 _ (by omega) (Nat.zero_le _) ⟨⟨_, Heap.get?_push_size _ rfl, rfl, rfl⟩, isL.push _⟩
        ⟨0, Nat.le_refl 0, setR_new_at (Heap.get?_push_of_some _ atS)⟩ ?_
      rintro ⟨h', g2, d', tk', os'⟩ m moved hm hS
      obtain rfl : g2 = s.gens := moved.gens
      obtain rfl : d' = s.drawn := moved.drawn
      obtain rfl : os' = s.os := moved.os
      show wpAny _ _ _ _ _ _
      refine wpAny_pure ?_
      show wpAny _ _ (ret Value.none) _ _ _
      refine wpAny_pure ⟨rfl, h', tk', m, rfl, hS, size ▸ hm, fun b o e => moved.heap b o (fun z => ?_) (Heap.get?_push_of_some _ (Heap.get?_push_of_some _ e))⟩
      have lt := Heap.lt_size e
      rcases List.mem_cons.mp z with z | z
      · exact absurd z (Nat.ne_of_lt lt)
      · exact absurd (List.mem_singleton.mp z) (Nat.ne_of_lt (by rw [sz1]; exact Nat.lt_succ_of_lt lt))
    · match r₂, hr₂ with
      | .error _, hr₂ => exact hr₂
      | .ok .next, hr₂ => exact hr₂.elim
      | .ok .brk, hr₂ => exact hr₂.elim
      | .ok .cont, hr₂ => exact hr₂.elim
      | .ok (.ret r), ⟨e1, h', tk, m, e2, hS, hm, kp⟩ =>
        subst e1
        subst e2
        repeat any_goals first | assumption | wp_step
        exact h _ _ _ hS hm kp
end
section
variable {X : Cx}
/-- set(xs), ints -/
def rSetL (K : PySem.W.Frag) (w : World) : List V → Hp → VK → Prop := fun vs H Q => ∃ (a : Addr) (ns : List Int), vs = [V.ref a] ∧ SqL K H a (ns.map V.int) ∧ ns.length ≤ 1000 ∧
  ∀ (p : Addr) (m : Nat), H p = none → m ≤ ns.length → Q (.ref p) (upd H p (SetO w p (fun j => decide (j ∈ ns)) m))
theorem cr_setL (hc : X.calm = true) : CallR X (.type "set") (rSetL X.K X.w) := by
  intro pins s σ H vs us Q I r h
  obtain ⟨a, ns, rfl, ha, hz, q⟩ := h
  obtain ⟨its, rv, pl, _⟩ := I.list ha
  rw [Vals.ref1 r]
  refine callSetL ns (I.ok.hd hc) pl.isList rv.ints (by unfold scanBound; omega) fun h' tk m R hm kp => ?_
  exact ⟨.ref s.heap.objs.size, _, I.laid kp (Nat.le_refl _) (setO_new R), rfl, q _ m I.fresh hm⟩
/-- sorted(xs), a set of ints -/
def rSortSet (w : World) : List V → Hp → VK → Prop := fun vs H Q => ∃ (a : Addr) (S : Int → Bool) (m : Nat), vs = [V.ref a] ∧ H a = some (SetO w a S m) ∧ m ≤ 1000 ∧
  ∀ (ks : List Int) (p : Addr), ks.Pairwise (· < ·) → (∀ k : Int, k ∈ ks ↔ S k = true) → H p = none → Q (.ref p) (upd H p (.lst (ks.map V.int)))
theorem cr_sortSet (hc : X.calm = true) : CallR X (.builtin "sorted") (rSortSet X.w) := by
  intro pins s σ H vs us Q I r h
  obtain ⟨a, S, m, rfl, ha, hm, q⟩ := h
  rw [Vals.ref1 r]
  refine sortedSetN (setO_get I ha) (I.ok.hd hc) (Nat.le_of_lt (small1000 hm)) fun s' p zs c ks kp go lp hp hi asc mem len => ?_
  have fr : H p = none := I.hok.fresh lp
  have hlen : (ks.map V.int).length ≤ sizeLine := by
    rw [List.length_map, len]
    exact Nat.le_of_lt (small1000 hm)
  have J : Inv X pins σ (upd H p (.lst (ks.map V.int))) { s with heap := s'.heap, gens := s'.gens, drawn := s'.drawn, toks := s'.toks } :=
    I.call (ch := []) (Un.laid kp lp fr) (I.hok.laid kp lp ⟨hlen, zs.toList, c, vals_of_ints hi, hp⟩) (by rw [go.1]; exact I.bare) (fun _ z => nomatch z)
  have e : s' = { s with heap := s'.heap, gens := s'.gens, drawn := s'.drawn, toks := s'.toks } := by
    obtain ⟨_, o⟩ := go
    cases s'
    cases s
    cases o
    rfl
  rw [e]
  exact ⟨.ref p, _, J, rfl, q ks p asc mem fr⟩
end
end Gd

set_option Elab.async false
set_option linter.all false
set_option maxRecDepth 100000
/-! Data that repr shows within the line. -/
namespace Gd
open PySem PySem.Spec PyProof.Rows L2
mutual
def cost : PyData → Nat
  | .none => 4
  | .bool _ => 5
  | .int _ => 1921
  | .str x => (reprText x).length
  | .list xs => costAll xs + 3
  | .tuple xs => costAll xs + 3
  | .dict _ => 0
def costAll : List PyData → Nat
  | [] => 0
  | x :: xs => cost x + 2 + costAll xs
end
theorem lensAll : ∀ xs : List PyData, (PyData.shownAll xs).length = xs.length
  | [] => by simp [PyData.shownAll]
  | x :: xs => by simp [PyData.shownAll, lensAll xs]
mutual
theorem shown_cost : ∀ d : PyData, d.showable = true → d.hasDict = false → d.shown.length ≤ cost d
  | .none, _, _ => by simp only [PyData.shown, cost]; decide +kernel
  | .bool b, _, _ => by
    simp only [PyData.shown, cost]
    cases b <;> decide +kernel
  | .int i, h, _ => by
    have h1 : i.natAbs.log2 < 1920 := by simpa [PyData.showable] using h
    simp only [PyData.shown, cost]
    have h2 := int_text_length_le (a := i) (by decide) h1
    show (Str.ofString (toString i)).length ≤ 1921
    rw [PySem.ofString_length]
    exact h2
  | .str x, _, _ => by simp only [PyData.shown, cost]; exact Nat.le_refl _
  | .list xs, h, g => by
    have e := shownAll_cost xs (by simpa [PyData.showable] using h) (by simpa [PyData.hasDict] using g)
    have e2 := listText_len_le (PyData.shownAll xs)
    rw [lensAll] at e2
    simp only [PyData.shown, cost]
    omega
  | .tuple xs, h, g => by
    have e := shownAll_cost xs (by simpa [PyData.showable] using h) (by simpa [PyData.hasDict] using g)
    have e2 := tupleText_len_le (PyData.shownAll xs)
    rw [lensAll] at e2
    simp only [PyData.shown, cost]
    omega
  | .dict _, _, g => by simp [PyData.hasDict] at g
theorem shownAll_cost : ∀ xs : List PyData, PyData.showableAll xs = true → PyData.hasDictAll xs = false → ((PyData.shownAll xs).map (·.length)).sum + 2 * xs.length ≤ costAll xs
  | [], _, _ => by simp [PyData.shownAll, costAll]
  | x :: xs, h, g => by
    have h' : x.showable = true ∧ PyData.showableAll xs = true := by simpa [PyData.showableAll] using h
    have g' : x.hasDict = false ∧ PyData.hasDictAll xs = false := by simpa [PyData.hasDictAll] using g
    have e1 := shown_cost x h'.1 g'.1
    have e2 := shownAll_cost xs h'.2 g'.2
    simp only [PyData.shownAll, costAll, List.map_cons, List.sum_cons, List.length_cons]
    omega
end
/-- what repr takes -/
structure OkD (d : PyData) (n : Nat) : Prop where
  sh : d.showable = true
  nd : d.hasDict = false
  dp : d.depth ≤ 20
  co : cost d ≤ n
theorem OkD.len {d : PyData} {n : Nat} (h : OkD d n) (hn : n ≤ sizeLine) : d.shown.length ≤ sizeLine := Nat.le_trans (shown_cost d h.sh h.nd) (Nat.le_trans h.co hn)
/-- items of depth k at most, n in all -/
structure OkA (ds : List PyData) (k n : Nat) : Prop where
  sh : PyData.showableAll ds = true
  nd : PyData.hasDictAll ds = false
  dp : PyData.depthAll ds ≤ k
  co : costAll ds ≤ n
theorem okA_nil (k : Nat) : OkA [] k 0 := ⟨by simp [PyData.showableAll], by simp [PyData.hasDictAll], by simp [PyData.depthAll], by simp [costAll]⟩
theorem okA_cons {d : PyData} {ds : List PyData} {k n m : Nat} (h : OkA [d] k n) (t : OkA ds k m) : OkA (d :: ds) k (n + m) := by
  have h1 : d.showable = true := by simpa [PyData.showableAll] using h.sh
  have h2 : d.hasDict = false := by simpa [PyData.hasDictAll] using h.nd
  have h3 : d.depth ≤ k := by simpa [PyData.depthAll] using h.dp
  have h4 : cost d + 2 ≤ n := by simpa [costAll] using h.co
  have t3 := t.dp
  have t4 := t.co
  refine ⟨by simp [PyData.showableAll, h1, t.sh], by simp [PyData.hasDictAll, h2, t.nd], ?_, ?_⟩
  · simp only [PyData.depthAll]
    omega
  · simp only [costAll]
    omega
theorem okA_int {i : Int} {k b : Nat} (h : i.natAbs < 2 ^ b) (h0 : 0 < b) (hb : b ≤ 1920) : OkA [.int i] k 1923 := by
  have h1 : i.natAbs.log2 < 1920 := Nat.lt_of_lt_of_le (PySem.Flt.log2_lt_of h0 h) hb
  refine ⟨?_, by simp [PyData.hasDictAll, PyData.hasDict], by simp [PyData.depthAll, PyData.depth], by simp [costAll, cost]⟩
  simp only [PyData.showableAll, PyData.showable, Bool.and_true]
  exact decide_eq_true h1
theorem okA_bool {b : Bool} {k : Nat} : OkA [.bool b] k 7 := ⟨by simp [PyData.showableAll, PyData.showable], by simp [PyData.hasDictAll, PyData.hasDict], by simp [PyData.depthAll, PyData.depth], by simp [costAll, cost]⟩
theorem okA_tup {ds : List PyData} {k n : Nat} (h : OkA ds k n) : OkA [.tuple ds] (k + 1) (n + 5) := by
  have h3 := h.dp
  have h4 := h.co
  refine ⟨by simp [PyData.showableAll, PyData.showable, h.sh], by simp [PyData.hasDictAll, PyData.hasDict, h.nd], ?_, ?_⟩
  · simp only [PyData.depthAll, PyData.depth]
    omega
  · simp only [costAll, cost]
    omega
theorem okD_list {ds : List PyData} {k n m : Nat} (h : OkA ds k n) (hk : k ≤ 19) (hm : n + 3 ≤ m) : OkD (.list ds) m := by
  have h3 := h.dp
  have h4 := h.co
  refine ⟨by simp [PyData.showable, h.sh], by simp [PyData.hasDict, h.nd], ?_, ?_⟩
  · simp only [PyData.depth]
    omega
  · simp only [cost]
    omega
theorem OkA.mono {ds : List PyData} {k n k' n' : Nat} (h : OkA ds k n) (hk : k ≤ k') (hn : n ≤ n') : OkA ds k' n' := ⟨h.sh, h.nd, Nat.le_trans h.dp hk, Nat.le_trans h.co hn⟩
theorem okA_ints {b : Nat} (h0 : 0 < b) (hb : b ≤ 1920) : ∀ {ns : List Int}, (∀ i ∈ ns, i.natAbs < 2 ^ b) → OkA (ns.map PyData.int) 0 (1923 * ns.length)
  | [], _ => okA_nil 0
  | i :: ns, h => by
    have e := okA_cons (okA_int (k := 0) (h i List.mem_cons_self) h0 hb) (okA_ints h0 hb fun j hj => h j (List.mem_cons_of_mem _ hj))
    refine e.mono (Nat.le_refl _) ?_
    rw [List.length_cons]
    omega
end Gd

/-! How many divisors there are at most. -/
namespace Nm
theorem asc_len : ∀ {l : List Nat} {a k : Nat}, l.Pairwise (· < ·) → (∀ x ∈ l, a < x ∧ x ≤ k) → l.length ≤ k - a
  | [], _, _, _, _ => Nat.zero_le _
  | x :: l, a, k, h, b => by
    obtain ⟨h1, h2⟩ := List.pairwise_cons.mp h
    obtain ⟨b1, b2⟩ := b x List.mem_cons_self
    have := asc_len (a := x) (k := k) h2 fun y hy => ⟨h1 y hy, (b y (List.mem_cons_of_mem _ hy)).2⟩
    rw [List.length_cons]
    omega
theorem split_len (l : List Nat) (p : Nat → Bool) : l.length = (l.filter p).length + (l.filter fun x => !p x).length := by
  induction l with
  | nil => rfl
  | cons x l ih =>
    cases h : p x with
    | true =>
      rw [List.filter_cons_of_pos h, List.filter_cons_of_neg (by rw [h]; decide), List.length_cons, List.length_cons, ih]
      omega
    | false =>
      rw [List.filter_cons_of_neg (by rw [h]; decide), List.filter_cons_of_pos (by rw [h]; decide), List.length_cons, List.length_cons, ih]
      omega
theorem dv_len {m : Nat} {l : List Nat} (hm : 1 ≤ m) (hm2 : m ≤ 10000) (h : l.Pairwise (· < ·)) (hd : ∀ d ∈ l, d ∣ m) : l.length ≤ 200 := by
  have e1 : (l.filter fun x => decide (x ≤ 100)).length ≤ 100 := by
    refine asc_len (a := 0) (k := 100) (h.filter _) fun x hx => ?_
    obtain ⟨q1, q2⟩ := List.mem_filter.mp hx
    exact ⟨Nat.pos_of_dvd_of_pos (hd x q1) hm, of_decide_eq_true q2⟩
  have e2 : (((l.filter fun x => !decide (x ≤ 100)).map fun d => m / d).reverse).length ≤ 100 := by
    refine asc_len (a := 0) (k := 100) ?_ fun y hy => ?_
    · rw [List.pairwise_reverse, List.pairwise_map]
      refine List.Pairwise.imp_of_mem ?_ (h.filter _)
      intro a b ha hb hab
      have da := hd a (List.mem_filter.mp ha).1
      have db := hd b (List.mem_filter.mp hb).1
      obtain ⟨x, hx⟩ := da
      obtain ⟨y, hy⟩ := db
      have pa : 0 < a := Nat.pos_of_dvd_of_pos ⟨x, hx⟩ hm
      have pb : 0 < b := Nat.pos_of_dvd_of_pos ⟨y, hy⟩ hm
      have ex : m / a = x := by rw [hx]; exact Nat.mul_div_cancel_left _ pa
      have ey : m / b = y := by rw [hy]; exact Nat.mul_div_cancel_left _ pb
      show m / b < m / a
      rw [ex, ey]
      refine Nat.lt_of_not_le fun z => ?_
      have y0 : 0 < y := by
        rcases Nat.eq_zero_or_pos y with q | q
        · rw [q, Nat.mul_zero] at hy
          omega
        · exact q
      have h1 : a * x ≤ a * y := Nat.mul_le_mul_left a z
      have h2 : a * y < b * y := Nat.mul_lt_mul_of_pos_right hab y0
      omega
    · rw [List.mem_reverse] at hy
      obtain ⟨d, hd', rfl⟩ := List.mem_map.mp hy
      obtain ⟨q1, q2⟩ := List.mem_filter.mp hd'
      have q3 : ¬ d ≤ 100 := by
        intro z
        rw [decide_eq_true z] at q2
        cases q2
      have hle := Nat.le_of_dvd hm (hd d q1)
      constructor
      · exact Nat.div_pos hle (by omega)
      · refine Nat.le_of_lt_succ (Nat.div_lt_of_lt_mul ?_)
        omega
  rw [List.length_reverse, List.length_map] at e2
  have e3 := split_len l fun x => decide (x ≤ 100)
  omega
end Nm

/-! Totients of small numbers by counting. -/
namespace Nm
def prB (p : Nat) : Bool := decide (2 ≤ p) && (List.range p).all fun d => decide (d < 2) || decide (p % d ≠ 0)
theorem prB_pr {p : Nat} (h : prB p = true) : Pr p := by
  unfold prB at h
  rw [Bool.and_eq_true, decide_eq_true_eq, List.all_eq_true] at h
  refine ⟨h.1, fun d hd => ?_⟩
  have hle := Nat.le_of_dvd (by omega) hd
  by_cases e : d = p
  · exact .inr e
  · have h2 := h.2 d (List.mem_range.mpr (by omega))
    rw [Bool.or_eq_true, decide_eq_true_eq, decide_eq_true_eq] at h2
    rcases h2 with z | z
    · have : d ≠ 0 := fun q => by
        subst q
        have := Nat.eq_zero_of_zero_dvd hd
        omega
      omega
    · exact absurd (Nat.mod_eq_zero_of_dvd hd) z
def val (p : Nat) : Nat → Nat → Nat
  | 0, _ => 0
  | f + 1, n => if n % p = 0 then val p f (n / p) + 1 else 0
def tf (n : Nat) : List (Nat × Nat) := (List.range (n + 1)).filterMap fun p => if decide (2 ≤ p) && decide (n % p = 0) && prB p then some (p, val p 8 n) else none
def pf (n : Nat) : List (Nat × Nat) := (tf n).map fun x => (x.1, x.1 ^ x.2)
def cnt (n : Nat) : Nat := (((List.range n).map (1 + ·)).filter fun k => decide (Nat.gcd k n = 1)).length
def ascB : List Nat → Bool
  | a :: b :: l => decide (a < b) && ascB (b :: l)
  | _ => true
theorem ascB_asc : ∀ {l : List Nat}, ascB l = true → l.Pairwise (· < ·)
  | [], _ => List.Pairwise.nil
  | [a], _ => List.pairwise_singleton _ _
  | a :: b :: l, h => by
    unfold ascB at h
    rw [Bool.and_eq_true, decide_eq_true_eq] at h
    have ih := ascB_asc (l := b :: l) h.2
    refine List.pairwise_cons.mpr ⟨fun c hc => ?_, ih⟩
    rcases List.mem_cons.mp hc with e | e
    · rw [e]; exact h.1
    · exact Nat.lt_trans h.1 ((List.pairwise_cons.mp ih).1 c e)
def chk (n : Nat) : Bool := decide (prodN ((pf n).map (·.2)) = n) && ascB ((pf n).map (·.1)) && ((tf n).all fun x => prB x.1 && decide (1 ≤ x.2)) && decide (totP (pf n) = cnt n)
theorem chk_all : ((List.range 150).all fun i => chk (i + 1)) = true := by decide +kernel
theorem tot_cnt {n : Nat} {ps : List (Nat × Nat)} (h1 : 1 ≤ n) (h2 : n ≤ 150) (h : Parts n ps) : totP ps = cnt n := by
  have e := List.all_eq_true.mp chk_all (n - 1) (List.mem_range.mpr (by omega))
  rw [show n - 1 + 1 = n by omega] at e
  unfold chk at e
  rw [Bool.and_eq_true, Bool.and_eq_true, Bool.and_eq_true, decide_eq_true_eq, decide_eq_true_eq, List.all_eq_true] at e
  obtain ⟨⟨⟨e1, e2⟩, e3⟩, e4⟩ := e
  have hp : Parts n (pf n) := by
    refine ⟨e1, ascB_asc e2, fun x hx => ?_⟩
    unfold pf at hx
    obtain ⟨y, hy, rfl⟩ := List.mem_map.mp hx
    have h3 := e3 y hy
    rw [Bool.and_eq_true, decide_eq_true_eq] at h3
    exact ⟨prB_pr h3.1, y.2, h3.2, rfl⟩
  rw [h.uniq hp]
  exact e4
end Nm

set_option Elab.async false
set_option linter.all false
set_option maxRecDepth 100000
set_option maxHeartbeats 4000000
/-! Words that lacked: the sum of a tuple, a tuple once, the list of a range with a step. -/
namespace Gd
open PySem PySem.Spec PyProof.Rows L2
section
variable {prog : Program} {w : World} {A : Around} {E : Value → Shared → Prop} {s : Shared} {l : Addr} {xs : Array (Int × Tok)}
theorem sum_tupG {Q : Value → Shared → Prop} (hh : A.handled = none) (hl : s.heap.IsTuple l (intItems xs)) (hlt : l < s.heap.objs.size)
    (h : ∀ h' tk t', (∀ b o, s.heap.get? b = some o → h'.get? b = some o) → Q (.int (preSum (numAt xs) xs.size) t') { s with heap := h', toks := tk }) :
    wpAny (model prog w) A (call (.builtin "sum") [.ref l]) Q E s := by
  refine call_sum_walkG (wpAny_pyIter_tuple hl ?_)
  refine ⟨_, [_, l], [_], _, _, _, numAt xs, rfl, Walks.tuple (A := A.in1) hh _ l (Nat.ne_of_lt hlt) (intItems xs), ⟨⟨_, Heap.get?_push_size _ rfl, rfl, rfl⟩, hl.push _⟩, fun c hc => ?_, (fun _ _ => intItems_at), fun h' tk t' hk => ?_⟩
  · show c < (s.heap.push _).objs.size
    rw [Heap.size_push]
    rcases List.mem_cons.mp hc with rfl | hc
    · exact Nat.lt_succ_self _
    · rcases List.mem_cons.mp hc with rfl | hc
      · exact Nat.lt_succ_of_lt hlt
      · cases hc
  · have hold : ∀ c o, s.heap.get? c = some o → h'.get? c = some o := fun c o e => by
      refine hk c o (fun hm => ?_) (Heap.get?_push_of_some _ e)
      rcases List.mem_cons.mp hm with e1 | hm
      · have := Heap.lt_size e; rw [e1] at this; exact Nat.lt_irrefl _ this
      · cases hm
    have := h h' tk t' hold
    simpa [intItems] using this
end
section
variable {X : Cx}
/-- sum(xs) of a tuple of ints -/
def rSumT (K : PySem.W.Frag) : List V → Hp → VK → Prop := fun vs H Q => ∃ (a : Addr) (ns : List Int), vs = [V.ref a] ∧ SqT K H a (ns.map V.int) ∧ Q (.int ns.sum) H
theorem cr_sumT (hc : X.calm = true) : CallR X (.builtin "sum") (rSumT X.K) := by
  intro pins s σ H vs us Q I r h
  obtain ⟨a, ns, rfl, hs, q⟩ := h
  obtain ⟨its, rv, hl, _⟩ := I.tuple hs
  rw [Vals.ref1 r]
  have hi := rv.ints
  obtain ⟨xs, e⟩ := hi.allInts.items
  have hn : numsOf (intItems xs).toList = ns := by rw [← e]; exact hi.numsOf
  rw [nums_intItems] at hn
  have hlt : a < s.heap.objs.size := by
    obtain ⟨o, ho, _⟩ := hl
    exact Heap.lt_size ho
  rw [e] at hl
  refine sum_tupG (I.ok.hd hc) hl hlt fun h' tk t' hk => ?_
  rw [preSum_eq, List.take_of_length_le (by simp), hn]
  exact ⟨.int _, H, I.kept hk, ⟨_, rfl⟩, q⟩
theorem tuple_mul1 (l : Addr) (items : Array Value) (n : Nat) (dd : Option Addr) (sl : Array (Option Value)) (u : Tok) :
    Meets (Builtin.«tuple.__mul__» ⟨[.ref l, .int 1 u], []⟩) (fun _ R s => s.heap.get? l = some { cls := .type "tuple", dict := dd, data := .seq items n, slots := sl } ∧
      R (.ok (.ret (Value.ref l))) s) :=
  .of_wp fun prog w A R s h => by
    obtain ⟨hp, g, d, tk, os⟩ := s
    obtain ⟨hl, h⟩ := h
    have f1 := AutoSeq1.idx_int
    have c0 : (decide ((1 : Int) < -(2 ^ 63)) || decide ((1 : Int) ≥ 2 ^ 63)) = false := by decide
    have c1 : (items.isEmpty || (1 : Int) == 1) = true := by rw [Bool.or_comm]; rfl
    wp_walk using wpAny_loadPart' hl
    repeat (first
      | (refine wpAny_ite_false (decide_eq_false (by rw [c0]; exact Bool.false_ne_true)) ?_; wp_walk using wpAny_loadPart' hl)
      | (refine wpAny_ite_true (decide_eq_true (by rw [c1])) ?_; wp_walk using wpAny_loadPart' hl))
    exact ⟨_, rfl, h⟩
/-- tuple * k, k at least 1, of a tuple that is followed -/
def rRepP : R2 := fun x y H Q => ∃ l k xs, x = .ref l ∧ y = .int k ∧ H l = some (.tup xs) ∧ xs ≠ [] ∧ 1 ≤ k ∧ k ≤ 1000 ∧ xs.length ≤ 1000 ∧ ∀ p H', Same H H' → H' p = some (.tup (List.replicate k.toNat xs).flatten) → Q (.ref p) H'
theorem op_repP : OpR X (binaryOp .Mult) rRepP := by
  intro pins s σ H x y v u Q I rx ry h
  obtain ⟨l, k, xs, rfl, rfl, hT, hne, h1, h2, hz, q⟩ := h
  by_cases hk : k = 1
  · subst hk
    cases rx
    obtain ⟨t, rfl⟩ := ry
    obtain ⟨its, r, ⟨⟨cls, dd, data, sl⟩, ho, hc, n, hd⟩, hs⟩ := I.tuple (.inl (.inl hT))
    simp only at hc hd
    subst hc hd
    refine wpAny_binaryOp_repeat_ref (T := "tuple") (U := "int") (by decide) ⟨_, ho, rfl⟩ (fun s' => typeIs_int s' 1 t) noFill_tuple_mul F.fills_int_mul F.slot_int_rmul repeat_tuple F.slot_int_index.lookup
      (call_meets F.slot_int_rmul (typeIs_int s 1 t) F.entry_int_rmul (F.args_int_rmul_2 _ _) (int_rmul_tuple 1 t l its.toArray n dd sl)
        ⟨ho, rfl, ⟨_, ho, rfl⟩, call_meets F.slot_tuple_mul ⟨_, ho, rfl⟩ F.entry_tuple_mul (F.args_tuple_mul_2 _ _) (tuple_mul1 l its.toArray n dd sl t) ⟨ho, ?_⟩⟩)
    refine ⟨.ref l, H, I, rfl, q _ _ (Same.refl _) ?_⟩
    rw [hT]
    show _ = some (HO.tup (List.replicate 1 xs).flatten)
    rw [List.replicate_one, List.flatten_singleton]
  · exact op_repT pins s σ H _ _ v u Q I rx ry ⟨l, k, xs, rfl, rfl, .inl (.inl hT), hne, by omega, h2, hz, fun p hp => q p _ (same_new hp) upd_same⟩
/-- list(range(a, b, c)) -/
def tLstRg3 (ta : TA) : TE := fun σ H Q => ta σ H fun vs H1 => ∃ (i j c : Int) (n : Nat), vs = [.int i, .int j, .int c] ∧ RgC i j c n ∧ n ≤ 16777216 ∧ ∀ q, H1 q = none → Q (.ref q) (upd H1 q (.lst ((List.range n).map fun k => V.int (i + (k : Nat) * c))))
theorem vals_rg3 {a c : Int} {n : Nat} {acc : Array Value} (h : ItemsOf (fun i v => ∃ t, v = .int (a + i * c) t) acc n) : Vals ((List.range n).map fun k => V.int (a + (k : Nat) * c)) acc.toList := by
  have e : acc.toList.length = n := by rw [Array.length_toList]; exact h.1
  rw [← e]
  refine vals_of_get acc.toList _ fun j u hj => ?_
  obtain ⟨t, rfl⟩ := h.2 j u (by rw [← hj, Array.getElem?_toList])
  exact ⟨t, rfl⟩
theorem pe_listRg3 {a b c : Expr} {ta : TA} {p pos p2 pos2 : Pos} (hc : X.calm = true) (hg : Gl X "list") (hm : X.mg "list" = none) (hg2 : Gl X "range") (hm2 : X.mg "range" = none) (ha : PA X [a, b, c] ta)
    (hs : starEach [a, b, c] X.env = (false, eval a X.env) :: starEach [b, c] X.env := by rfl) (hpl : (backTo pos2 (starEach [b, c] X.env)).any (·.1) = false := by rfl)
    (na : starEach [Expr.Call (.Name "range" p2) [a, b, c] [] pos2] X.env = (false, eval (Expr.Call (.Name "range" p2) [a, b, c] [] pos2) X.env) :: starEach [] X.env := by rfl) :
    PE X (.Call (.Name "list" p) [.Call (.Name "range" p2) [a, b, c] [] pos2] [] pos) (tLstRg3 ta) := by
  refine ⟨fun pins s σ H Q I h => ?_⟩
  refine Call_ (ld_blt I hg hm boot_list (PyProof.Rows.callWith_type1 (args_cons (Call_ (ld_blt I hg2 hm2 boot_range (PyProof.Rows.callWith_type1 (thn (ha.run pos2 pins s σ H _ I h) fun us s1 ⟨vs, H1, I1, r1, q1⟩ => ?_) hs hpl))) na) na))
  obtain ⟨i, j, k, n, e, ⟨c0, c1, c2, c3⟩, hn, q⟩ := q1
  subst e
  cases r1 with
  | cons r rr =>
    cases rr with
    | cons r' rr =>
      cases rr with
      | cons r'' rr =>
        cases rr
        obtain ⟨t, rfl⟩ := r
        obtain ⟨t', rfl⟩ := r'
        obtain ⟨t'', rfl⟩ := r''
        refine call_range_3 c0 ?_ (.inl (PyProof.noPylong_small c1))
        refine args_nil ?_
        have I2 : Inv X pins σ H1 { s1 with heap := s1.heap.push { cls := .type "range", data := .fields #[.int i t, .int j t', .int k t''] } } := I1.kept (t' := s1.toks) fun b o e => Heap.get?_push_of_some _ e
        refine call_list_range (n := n) (I2.ok.hd hc) (IsRange.new _ _ _ _ _ _ _) c2 c3 (by omega) fun h' tk acc c' hk e' hi => ?_
        refine ⟨.ref _, upd H1 _ (.lst ((List.range n).map fun m => V.int (i + (m : Nat) * k))), I2.laid hk (Nat.le_refl _) (show ObjOk X.prog X.w _ _ _ (.lst _) from ⟨?_, acc.toList, c', vals_rg3 hi, ?_⟩), rfl, q _ (I2.hok.fresh (Nat.le_refl _))⟩
        · rw [List.length_map, List.length_range, sizeLine_eq]; omega
        · rw [Array.toArray_toList]; exact e'
end
end Gd

set_option Elab.async false
set_option linter.all false
set_option maxRecDepth 100000
/-! repr of lists and tuples of whole numbers below ten to the 4300, where the digits' limit stands as it was. -/
namespace Gd
open PySem PySem.Spec PyProof.Rows L2
section
variable {prog : Program} {w : World} {h₀ : Heap}
/-- text of one whole number -/
theorem call_wide {A : Around} {E : Value → Shared → Prop} {s : Shared} {i : Int} {t : Tok} {Q : Value → Shared → Prop} (hn : s.heap.NoDigits) (hi : i.natAbs < 10 ^ 4300)
    (q : Q (.str (toString i) s.toks) { s with toks := s.toks + 1 }) : wpAny (model prog w) A (call (.builtin "int.__repr__") [.int i t]) Q E s := by
  refine wpAny_call_entry F.slot_int_repr (typeIs_int s i t) F.entry_int_repr ?_ (F.args_int_repr_1 _)
  show wpAny _ _ (do
    let r ← Builtin.overDigitLimit? i
    _) _ _ s
  exact wpAny_bind (overDigitLimit_any hn (fun z => wpAny_bind (wpAny_mkStr (wpAny_pure ⟨_, rfl, q⟩) (int_text_fits10 z))) fun z => absurd hi (Nat.not_lt.mpr z))
theorem rk_int (hN : h₀.NoDigits) {i : Int} (t : Tok) (hi : i.natAbs < 10 ^ 4300) (as : List Addr) (d : Nat) : ReprK prog w as h₀ d (.int i t) (toString i) := by
  intro base hb A g E s Q _ _ hu hk hQ
  have hb' : base ≤ sizeLine := Nat.le_trans (Nat.le_add_right _ _) hb
  rw [pyReprUnder_leaf (v := .int i t) hb' (fun _ e => nomatch e)]
  unfold pyRepr
  refine wpAny_bind (wpAny_pyReprObj_slot (by omega) (typeIs_int s i t) F.slot_int_repr.toG (call_wide (hN.keeps hk) hi ?_))
  exact ⟨_, _, rfl, wpAny_pure (hQ s.heap _ fun _ _ e => e)⟩
end
mutual
/-- whole numbers below the limit, lists and tuples of such -/
def wideB : PyData → Bool
  | .int i => decide (i.natAbs < 10 ^ 4300)
  | .list xs => wideAll xs
  | .tuple xs => wideAll xs
  | .bool _ => true
  | .none => true
  | _ => false
def wideAll : List PyData → Bool
  | [] => true
  | x :: xs => wideB x && wideAll xs
end
section
variable {prog : Program} {w : World} {h₀ : Heap}
mutual
theorem rk_of (hN : h₀.NoDigits) : ∀ (d : PyData) {v : Value} {as : List Addr}, wideB d = true → Reads h₀ v d as → d.shown.length ≤ sizeLine → ∃ bs, ReadAtMost h₀ d.depth bs ∧ ReprK prog w bs h₀ d.depth v d.shown
  | .none, _, _, _, r, _ => by
    cases r
    refine ⟨[], fun b z => (List.not_mem_nil z).elim, ?_⟩
    simp only [PyData.shown]
    exact .of_is ReprIs.none _ _ _
  | .bool b, _, _, _, r, _ => by
    cases r
    refine ⟨[], fun b z => (List.not_mem_nil z).elim, ?_⟩
    simp only [PyData.shown]
    exact .of_is (ReprIs.bool b) _ _ _
  | .int i, _, _, hw, r, _ => by
    cases r with
    | int i t =>
      refine ⟨[], fun b z => (List.not_mem_nil z).elim, ?_⟩
      simp only [PyData.shown]
      exact rk_int hN t (by simpa [wideB] using hw) _ _
  | .str _, _, _, hw, _, _ => by simp [wideB] at hw
  | .dict _, _, _, hw, _, _ => by simp [wideB] at hw
  | .list xs, _, _, hw, r, hz => by
    have hz1 : (listText (PyData.shownAll xs)).length ≤ sizeLine := by simpa only [PyData.shown] using hz
    have r0 := r
    cases r with
    | list h1 h2 h3 h4 =>
      obtain ⟨bs, hb, hk⟩ := rkAll hN xs (by simpa [wideB] using hw) h4 fun t z => Nat.le_trans (listText_mem_le z) hz1
      have fresh := not_mem_of_deeper r0 (by simp only [PyData.depth]; omega) hb
      refine ⟨_, ReadAtMost.cons r0 (by simp only [PyData.depth]; omega) hb, ?_⟩
      simp only [PyData.depth, PyData.shown]
      rename_i o vs n la
      obtain ⟨l⟩ := vs
      cases l with
      | nil =>
        have e : xs = [] := by
          cases xs with
          | nil => rfl
          | cons x xs =>
            have z : ReadsAll h₀ [] (x :: xs) _ := h4
            cases z
        subst e
        simp only [PyData.shownAll, listText_nil]
        exact .listEmpty h1 h2 h3
      | cons x l =>
        have hl := hk.length_eq
        exact .list h1 h2 h3 fresh (by rw [hl]; simp) fun i y e => hk.item i y (by rw [← e]; simp)
  | .tuple xs, _, _, hw, r, hz => by
    have hz1 : (tupleText (PyData.shownAll xs)).length ≤ sizeLine := by simpa only [PyData.shown] using hz
    have r0 := r
    cases r with
    | tuple h1 h2 h3 h4 =>
      obtain ⟨bs, hb, hk⟩ := rkAll hN xs (by simpa [wideB] using hw) h4 fun t z => Nat.le_trans (tupleText_mem_le z) hz1
      have fresh := not_mem_of_deeper r0 (by simp only [PyData.depth]; omega) hb
      refine ⟨_, ReadAtMost.cons r0 (by simp only [PyData.depth]; omega) hb, ?_⟩
      simp only [PyData.depth, PyData.shown]
      exact .tuple h1 h2 h3 fresh hk
theorem rkAll (hN : h₀.NoDigits) : ∀ (ds : List PyData) {vs : List Value} {as : List Addr}, wideAll ds = true → ReadsAll h₀ vs ds as → (∀ t ∈ PyData.shownAll ds, t.length ≤ sizeLine) →
    ∃ bs, ReadAtMost h₀ (PyData.depthAll ds) bs ∧ ReprAllK prog w bs h₀ (PyData.depthAll ds) vs (PyData.shownAll ds)
  | [], _, _, _, r, _ => by
    cases r
    refine ⟨[], fun b z => (List.not_mem_nil z).elim, ?_⟩
    simp only [PyData.shownAll]
    exact .nil
  | d :: ds, _, _, hw, r, hz => by
    have hw2 : wideB d = true ∧ wideAll ds = true := by simpa [wideAll] using hw
    simp only [PyData.shownAll] at hz
    cases r with
    | cons r1 r2 =>
      obtain ⟨b1, m1, k1⟩ := rk_of hN d hw2.1 r1 (hz _ List.mem_cons_self)
      obtain ⟨b2, m2, k2⟩ := rkAll hN ds hw2.2 r2 fun t z => hz t (List.mem_cons_of_mem _ z)
      simp only [PyData.depthAll, PyData.shownAll]
      refine ⟨b1 ++ b2, (m1.mono (Nat.le_max_left _ _)).append (m2.mono (Nat.le_max_right _ _)), .cons ?_ ?_⟩
      · exact (k1.more fun b z => List.mem_append_left _ z).level_le (Nat.le_max_left _ _)
      · exact k2.more_le (fun b z => List.mem_append_right _ z) (Nat.le_max_right _ _)
end
end
section
variable {X : Cx} {k : Nat}
/-- repr of a list that isn't empty, of wide data -/
def rReprW (K : PySem.W.Frag) : List V → Hp → VK → Prop := fun xs H Q => ∃ (a : Addr) (d : PyData) (ds : List PyData), xs = [.ref a] ∧ Dp K H (.ref a) (.list (d :: ds)) ∧ wideAll (d :: ds) = true ∧ (PyData.list (d :: ds)).depth ≤ 20 ∧
  (PyData.list (d :: ds)).shown.length ≤ sizeLine ∧ Q (.str (PyData.list (d :: ds)).shown) H
theorem call_reprW (hr : Room k X.A) (hG : X.A.guards = some []) (hN : X.base.NoDigits) : CallR X (.builtin "repr") (rReprW X.K) := by
  intro pins s σ H xs us Q I r h
  obtain ⟨a, d, ds, rfl, hd, hw, hdep, hz, q⟩ := h
  obtain ⟨u, rfl, ru⟩ := vals1 r
  cases ru
  obtain ⟨as, r0⟩ := Dp.reads I _ (.ref a) (.ref a) hd rfl
  have hN2 : s.heap.NoDigits := hN.keeps fun b o e => (I.env0.bs b o e).1
  have hz1 : (listText (PyData.shownAll (d :: ds))).length ≤ sizeLine := by simpa only [PyData.shown] using hz
  have hu := hr.units
  cases r0 with
  | list h1 h2 h3 h4 =>
    obtain ⟨bs, hb, hk⟩ := rkAll (prog := X.prog) (w := X.w) hN2 (d :: ds) hw h4 fun t z => Nat.le_trans (listText_mem_le z) hz1
    have fresh : a ∉ bs := not_mem_of_deeper (.list h1 h2 h3 h4) (by simp only [PyData.depth]; omega) hb
    rename_i o vs n la
    obtain ⟨l⟩ := vs
    simp only [PyData.depth] at hdep
    cases l with
    | nil =>
      have z : ReadsAll s.heap [] (d :: ds) _ := h4
      cases z
    | cons x l =>
      have hl := hk.length_eq
      refine call_repr_slot (T := "list") (idr := "list.__repr__") (by omega) ⟨o, h1, h2⟩ F.slot_list_repr.toG ?_
      refine call_list_reprK h1 h2 h3 fresh (by rw [hl]; simp) (fun i y e => hk.item i y (by rw [← e]; simp)) hG (fun b _ => Clear.nil b) (by show X.A.units + 1 + _ < cLine; omega) (fun _ _ e => e) (fun h' u tk hk2 => ?_) hz1
      refine ⟨_, _, rfl, .str _, H, I.kept hk2, ⟨u, ?_⟩, q⟩
      simp only [PyData.shown]
end
end Gd

/-! Sums over a window of whole numbers, lists as periodic functions, products on a clock. Pure mathematics. -/
namespace Pv
def S : Nat → (Int → Int) → Int
  | 0, _ => 0
  | n + 1, F => S n F + F n
theorem S_congr {n : Nat} {F G : Int → Int} (h : ∀ j : Nat, j < n → F j = G j) : S n F = S n G := by
  induction n with
  | zero => rfl
  | succ n ih =>
    show S n F + F n = S n G + G n
    rw [ih fun j hj => h j (Nat.lt_succ_of_lt hj), h n (Nat.lt_succ_self n)]
theorem S_add (n : Nat) (F G : Int → Int) : S n (fun j => F j + G j) = S n F + S n G := by
  induction n with
  | zero => rfl
  | succ n ih =>
    show S n (fun j => F j + G j) + (F n + G n) = S n F + F n + (S n G + G n)
    rw [ih]
    omega
theorem S_zero (n : Nat) : S n (fun _ => 0) = 0 := by
  induction n with
  | zero => rfl
  | succ n ih =>
    show S n (fun _ => 0) + 0 = 0
    rw [ih]
    rfl
theorem S_mulL (n : Nat) (c : Int) (F : Int → Int) : S n (fun j => c * F j) = c * S n F := by
  induction n with
  | zero => exact (Int.mul_zero c).symm
  | succ n ih =>
    show S n (fun j => c * F j) + c * F n = c * (S n F + F n)
    rw [ih, Int.mul_add]
theorem S_mulR (n : Nat) (c : Int) (F : Int → Int) : S n (fun j => F j * c) = S n F * c := by
  induction n with
  | zero => exact (Int.zero_mul c).symm
  | succ n ih =>
    show S n (fun j => F j * c) + F n * c = (S n F + F n) * c
    rw [ih, Int.add_mul]
theorem S_swap (m n : Nat) (F : Int → Int → Int) : S m (fun i => S n (fun j => F i j)) = S n (fun j => S m (fun i => F i j)) := by
  induction m with
  | zero => exact (S_zero n).symm
  | succ m ih =>
    show S m (fun i => S n (fun j => F i j)) + S n (fun j => F m j) = S n (fun j => S m (fun i => F i j) + F m j)
    rw [ih, S_add]
theorem S_front (n : Nat) (F : Int → Int) : S (n + 1) F = F 0 + S n (fun j => F (j + 1)) := by
  induction n with
  | zero =>
    show 0 + F 0 = F 0 + 0
    omega
  | succ n ih =>
    show S (n + 1) F + F ((n + 1 : Nat) : Int) = F 0 + (S n (fun j => F (j + 1)) + F ((n : Int) + 1))
    rw [ih, Int.natCast_add]
    show F 0 + S n (fun j => F (j + 1)) + F ((n : Int) + 1) = _
    omega
def Per (n : Nat) (F : Int → Int) : Prop := ∀ i : Int, F (i + n) = F i
theorem S_shift1 {n : Nat} {F : Int → Int} (h : Per n F) : S n (fun j => F (j + 1)) = S n F := by
  have h1 := S_front n F
  have h2 : S (n + 1) F = S n F + F n := rfl
  have h3 := h 0
  rw [Int.zero_add] at h3
  omega
theorem Per.shift {n : Nat} {F : Int → Int} (h : Per n F) (c : Int) : Per n (fun j => F (j + c)) := fun i => by
  show F (i + n + c) = F (i + c)
  rw [show i + n + c = i + c + n by omega]
  exact h _
theorem Per.neg {n : Nat} {F : Int → Int} (h : Per n F) : Per n (fun j => F (-j)) := fun i => by
  show F (-(i + n)) = F (-i)
  rw [← h (-(i + n))]
  congr 1
  omega
theorem Per.mul {n : Nat} {F G : Int → Int} (h : Per n F) (g : Per n G) : Per n (fun j => F j * G j) := fun i => by
  show F (i + n) * G (i + n) = F i * G i
  rw [h i, g i]
theorem Per.add {n : Nat} {F G : Int → Int} (h : Per n F) (g : Per n G) : Per n (fun j => F j + G j) := fun i => by
  show F (i + n) + G (i + n) = F i + G i
  rw [h i, g i]
theorem Per.sub {n : Nat} {F : Int → Int} (h : Per n F) (b : Int) : Per n (fun j => F (b - j)) := by
  have := (h.shift b).neg
  intro i
  have e := this i
  show F (b - (i + n)) = F (b - i)
  rw [show b - (i + (n : Int)) = -(i + n) + b by omega, show b - i = -i + b by omega]
  exact e
theorem S_shiftN {n : Nat} {F : Int → Int} (h : Per n F) (c : Nat) : S n (fun j => F (j + c)) = S n F := by
  induction c with
  | zero => exact S_congr fun j _ => congrArg F (Int.add_zero _)
  | succ c ih =>
    rw [← ih, ← S_shift1 (h.shift c)]
    refine S_congr fun j _ => congrArg F ?_
    omega
theorem S_shift {n : Nat} {F : Int → Int} (h : Per n F) (c : Int) : S n (fun j => F (j + c)) = S n F := by
  rcases Int.le_total 0 c with hc | hc
  · have e := S_shiftN h c.toNat
    rw [Int.toNat_of_nonneg hc] at e
    exact e
  · have e := S_shiftN (h.shift c) (-c).toNat
    rw [Int.toNat_of_nonneg (by omega)] at e
    rw [← e]
    refine S_congr fun j _ => congrArg F ?_
    omega
theorem S_rev (n : Nat) (F : Int → Int) : S n (fun j => F ((n : Int) - 1 - j)) = S n F := by
  induction n generalizing F with
  | zero => rfl
  | succ n ih =>
    rw [S_front]
    have e : S n (fun j => F (((n + 1 : Nat) : Int) - 1 - (j + 1))) = S n F := by
      rw [← ih F]
      refine S_congr fun j _ => congrArg F ?_
      omega
    rw [e]
    show F _ + S n F = S n F + F n
    rw [show (((n + 1 : Nat) : Int) - 1 - 0) = (n : Int) by omega]
    omega
theorem S_neg {n : Nat} {F : Int → Int} (h : Per n F) : S n (fun j => F (-j)) = S n F := by
  rw [← S_rev n F, ← S_shift h.neg (-((n : Int) - 1))]
  refine S_congr fun j _ => congrArg F ?_
  omega
/-- the sum runs backwards from b -/
theorem S_back {n : Nat} {F : Int → Int} (h : Per n F) (b : Int) : S n (fun j => F (b - j)) = S n F := by
  rw [← S_shift h b, ← S_neg (h.shift b)]
  refine S_congr fun j _ => congrArg F ?_
  omega
/-! ### the product on a clock -/
def conv (n : Nat) (F G : Int → Int) : Int → Int := fun b => S n fun j => F j * G (b - j)
theorem per_conv {n : Nat} {F G : Int → Int} (g : Per n G) : Per n (conv n F G) := fun i => by
  refine S_congr fun j _ => ?_
  rw [show i + (n : Int) - (j : Int) = i - j + n by omega, g]
theorem conv_congr {n : Nat} {F F' G G' : Int → Int} (h : ∀ i, F i = F' i) (g : ∀ i, G i = G' i) (b : Int) : conv n F G b = conv n F' G' b :=
  S_congr fun j _ => by rw [h, g]
theorem conv_comm {n : Nat} {F G : Int → Int} (h : Per n F) (g : Per n G) (b : Int) : conv n F G b = conv n G F b := by
  have hp : Per n fun j => F j * G (b - j) := h.mul (g.sub b)
  unfold conv
  rw [← S_back hp b]
  refine S_congr fun j _ => ?_
  rw [show b - (b - (j : Int)) = j by omega, Int.mul_comm]
theorem conv_assoc {n : Nat} {F G H : Int → Int} (g : Per n G) (h : Per n H) (b : Int) : conv n (conv n F G) H b = conv n F (conv n G H) b := by
  unfold conv
  have e1 : S n (fun j => S n (fun i => F i * G (j - i)) * H (b - j)) = S n (fun j => S n (fun i => F i * G (j - i) * H (b - j))) :=
    S_congr fun j _ => (S_mulR n _ _).symm
  rw [e1, S_swap n n fun j i => F i * G (j - i) * H (b - j)]
  refine S_congr fun i _ => ?_
  have hp : Per n fun j => G (j - i) * H (b - j) := by
    have := (g.shift (-(i : Int))).mul (h.sub b)
    intro k
    have e := this k
    show G (k + n - i) * H (b - (k + n)) = G (k - i) * H (b - k)
    rw [show k + (n : Int) - (i : Int) = k + n + -i by omega, show k - (i : Int) = k + -i by omega]
    exact e
  have e2 : S n (fun j => F i * G (j - i) * H (b - j)) = F i * S n (fun j => G (j - i) * H (b - j)) := by
    rw [← S_mulL]
    exact S_congr fun j _ => Int.mul_assoc _ _ _
  rw [e2, ← S_shift hp i]
  congr 1
  refine S_congr fun j _ => ?_
  rw [show (j : Int) + i - i = j by omega, show b - ((j : Int) + i) = b - i - j by omega]
theorem conv_add {n : Nat} {F G H : Int → Int} (b : Int) : conv n F (fun i => G i + H i) b = conv n F G b + conv n F H b := by
  unfold conv
  rw [← S_add]
  exact S_congr fun j _ => Int.mul_add _ _ _
theorem conv_turn {n : Nat} {F G : Int → Int} (h : Per n F) (g : Per n G) (k b : Int) : conv n (fun i => F (i - k)) G b = conv n F G (b - k) := by
  have hp : Per n fun j => F (j - k) * G (b - j) := by
    have := (h.shift (-k)).mul (g.sub b)
    intro i
    have e := this i
    show F (i + n - k) * G (b - (i + n)) = F (i - k) * G (b - i)
    rw [show i + (n : Int) - k = i + n + -k by omega, show i - k = i + -k by omega]
    exact e
  unfold conv
  rw [← S_shift hp k]
  refine S_congr fun j _ => ?_
  rw [show (j : Int) + k - k = j by omega, show b - ((j : Int) + k) = b - k - j by omega]
theorem conv_mirror {n : Nat} {F G : Int → Int} (h : Per n F) (g : Per n G) (b : Int) : conv n (fun i => F (-i)) (fun i => G (-i)) b = conv n F G (-b) := by
  unfold conv
  have hp : Per n fun j => F j * G (-b - j) := h.mul (g.sub (-b))
  rw [← S_neg hp]
  refine S_congr fun j _ => ?_
  show F (-(j : Int)) * G (-(b - j)) = F (-(j : Int)) * G (-b - -(j : Int))
  rw [show -(b - (j : Int)) = -b - -j by omega]
theorem conv_total {n : Nat} {F G : Int → Int} (g : Per n G) : S n (conv n F G) = S n F * S n G := by
  unfold conv
  rw [S_swap n n fun b j => F j * G (b - j), ← S_mulR]
  refine S_congr fun j _ => ?_
  rw [S_mulL, ← S_shift g (-(j : Int))]
  congr 1
theorem S_one {n : Nat} {s : Nat} (f : Int → Int) (hs : s < n) : S n (fun j => (if j = (s : Int) then 1 else 0) * f j) = f s := by
  induction n with
  | zero => omega
  | succ n ih =>
    show S n (fun j => (if j = (s : Int) then 1 else 0) * f j) + (if (n : Int) = (s : Int) then 1 else 0) * f n = f s
    by_cases e : s = n
    · subst e
      rw [if_pos rfl, Int.one_mul]
      have : S s (fun j => (if j = (s : Int) then 1 else 0) * f j) = 0 := by
        refine (S_congr fun j hj => ?_).trans (S_zero s)
        show (if (j : Int) = (s : Int) then 1 else 0) * f j = 0
        rw [if_neg (by omega), Int.zero_mul]
      rw [this, Int.zero_add]
    · rw [if_neg (by omega), Int.zero_mul, Int.add_zero]
      exact ih (by omega)
theorem conv_one {n : Nat} {F : Int → Int} (s : Nat) (hs : s < n) (h : Per n F) {D : Int → Int} (hD : ∀ j : Nat, j < n → D j = if j = s then 1 else 0) (d : Per n D) (b : Int) : conv n F D b = F (b - s) := by
  rw [conv_comm h d]
  unfold conv
  rw [← S_one (fun j => F (b - j)) hs]
  refine S_congr fun j hj => ?_
  rw [hD j hj]
  by_cases e : j = s
  · rw [if_pos e, if_pos (by omega)]
  · rw [if_neg e, if_neg (by omega)]
theorem conv_ones {n : Nat} {F : Int → Int} (b : Int) : conv n F (fun _ => 1) b = S n F := S_congr fun _ _ => Int.mul_one _
/-! ### lists -/
def per (xs : List Int) : Int → Int := fun i => xs.getD (i % (xs.length : Int)).toNat 0
def of (n : Nat) (F : Int → Int) : List Int := (List.range n).map fun j => F (j : Nat)
theorem of_len (n : Nat) (F : Int → Int) : (of n F).length = n := by unfold of; rw [List.length_map, List.length_range]
theorem of_get {n : Nat} {F : Int → Int} {j : Nat} (h : j < n) : (of n F)[j]? = some (F j) := by
  unfold of
  rw [List.getElem?_map, List.getElem?_range h]
  rfl
theorem of_congr {n : Nat} {F G : Int → Int} (h : ∀ j : Nat, j < n → F j = G j) : of n F = of n G := by
  unfold of
  exact List.map_congr_left fun j hj => h j (List.mem_range.mp hj)
theorem per_per (xs : List Int) : Per xs.length (per xs) := fun i => by
  unfold per
  rw [Int.add_emod_right]
theorem per_get {xs : List Int} {j : Nat} (h : j < xs.length) : per xs j = xs[j] := by
  unfold per
  rw [Int.emod_eq_of_lt (by omega) (by omega), Int.toNat_natCast, List.getD_eq_getElem?_getD, List.getElem?_eq_getElem h]
  rfl
theorem of_per (xs : List Int) : of xs.length (per xs) = xs := by
  refine List.ext_getElem (of_len _ _) fun j h1 h2 => ?_
  have e := of_get (F := per xs) h2
  rw [List.getElem?_eq_getElem h1] at e
  rw [Option.some.inj e, per_get h2]
theorem Per.mod {n : Nat} {F : Int → Int} (h : Per n F) (hn : 0 < n) (i : Int) : F (i % n) = F i := by
  have up : ∀ (k : Nat) (i : Int), F (i + n * k) = F i := by
    intro k
    induction k with
    | zero =>
      intro i
      rw [show i + (n : Int) * ((0 : Nat) : Int) = i by simp]
    | succ k ih =>
      intro i
      rw [show i + (n : Int) * ((k + 1 : Nat) : Int) = i + n * k + n by rw [Int.natCast_add, Int.mul_add]; simp; omega, h, ih]
  have e := Int.emod_add_mul_ediv i n
  rcases Int.le_total 0 (i / n) with hc | hc
  · have := up (i / n).toNat (i % n)
    rw [Int.toNat_of_nonneg hc, e] at this
    exact this.symm
  · have := up (-(i / n)).toNat i
    rw [Int.toNat_of_nonneg (by omega)] at this
    rw [← this]
    congr 1
    rw [Int.mul_neg]
    omega
theorem per_of {n : Nat} {F : Int → Int} (h : Per n F) (hn : 0 < n) (i : Int) : per (of n F) i = F i := by
  unfold per
  rw [of_len]
  have h1 := Int.emod_nonneg i (show (n : Int) ≠ 0 by omega)
  have h2 := Int.emod_lt_of_pos i (show (0 : Int) < n by omega)
  rw [List.getD_eq_getElem?_getD, of_get (show (i % (n : Int)).toNat < n by omega), Int.toNat_of_nonneg h1]
  exact h.mod hn i
theorem of_eq {n : Nat} {F : Int → Int} {xs : List Int} (hl : xs.length = n) (h : ∀ j : Nat, j < n → per xs j = F j) : xs = of n F := by
  subst hl
  rw [← of_congr h, of_per]
/-! ### sizes -/
theorem S_abs {n : Nat} {F : Int → Int} {B : Nat} (h : ∀ j : Nat, j < n → (F j).natAbs ≤ B) : (S n F).natAbs ≤ n * B := by
  induction n with
  | zero => simp [S]
  | succ n ih =>
    have h1 := ih fun j hj => h j (Nat.lt_succ_of_lt hj)
    have h2 := h n (Nat.lt_succ_self n)
    show (S n F + F n).natAbs ≤ (n + 1) * B
    have h3 := Int.natAbs_add_le (S n F) (F n)
    rw [Nat.succ_mul]
    omega
theorem conv_abs {n : Nat} {F G : Int → Int} {B C : Nat} (h : ∀ i, (F i).natAbs ≤ B) (g : ∀ i, (G i).natAbs ≤ C) (b : Int) : (conv n F G b).natAbs ≤ n * (B * C) :=
  S_abs fun j _ => by
    rw [Int.natAbs_mul]
    exact Nat.mul_le_mul (h _) (g _)
theorem per_abs {xs : List Int} {B : Nat} (h : ∀ x ∈ xs, x.natAbs ≤ B) (i : Int) : (per xs i).natAbs ≤ B := by
  unfold per
  rw [List.getD_eq_getElem?_getD]
  cases e : xs[(i % (xs.length : Int)).toNat]? with
  | none => exact Nat.zero_le _
  | some x => exact h x (List.mem_of_getElem? e)
/-! ### adding up step by step: the beat at which k stands, j further -/
theorem beat_iff {n j k b : Nat} (hj : j < n) (hk : k < n) (hb : b < n) : ((b : Int) - j) % n = k ↔ b = (j + k) % n := by
  constructor
  · intro h
    have e := Int.emod_add_mul_ediv ((b : Int) - j) n
    rw [h] at e
    have e2 : ((j + k : Nat) : Int) = b + n * (-(((b : Int) - j) / n)) := by rw [Int.mul_neg]; omega
    have e3 : ((j + k : Nat) : Int) % n = b := by
      rw [e2, Int.add_mul_emod_self_left, Int.emod_eq_of_lt (by omega) (by omega)]
    have : (((j + k) % n : Nat) : Int) = b := by rw [Int.natCast_emod]; exact e3
    omega
  · intro h
    have h1 : ((j + k : Nat) : Int) % n = b := by rw [← Int.natCast_emod, h]
    have e := Int.emod_add_mul_ediv ((j + k : Nat) : Int) n
    rw [h1] at e
    have e2 : (b : Int) - j = k + n * (-(((j + k : Nat) : Int) / n)) := by rw [Int.mul_neg]; omega
    rw [e2, Int.add_mul_emod_self_left, Int.emod_eq_of_lt (by omega) (by omega)]
end Pv

set_option Elab.async false
set_option linter.all false
set_option maxRecDepth 100000
set_option maxHeartbeats 4000000
/-! enumerate of a tuple. -/
namespace Gd
open PySem PySem.Spec PyProof.Rows L2
/-- the object that enumerate makes over the tuple's iterator at i -/
def enO (i : Addr) : Obj := { cls := .type "enumerate", data := .fields #[.none, .bool false, .ref i, rawInt 0, .none, .none] }
def tiO (l : Addr) : Obj := { cls := .type "tuple_iterator", data := .fields #[.ref l, .int 0 0] }
theorem meets_enT (l : Addr) (its : Array Value) :
    Meets (Builtin.«enumerate.__new__» ⟨[.type "enumerate", .ref l], []⟩) (fun _ R s => s.heap.IsTuple l its ∧
      R (.ok (.ret (.ref (s.heap.push (tiO l)).objs.size))) { s with heap := (s.heap.push (tiO l)).push (enO s.heap.objs.size) }) :=
  .of_wp fun prog w A R s h => by
    obtain ⟨hp, g, d, tk, os⟩ := s
    obtain ⟨hT, h⟩ := h
    have hsub := sub_enumerate
    obtain ⟨o, ho, hc, nd⟩ := hT
    have hT : Heap.IsTuple (Shared.heap ⟨hp, g, d, tk, os⟩) l its := ⟨o, ho, hc, nd⟩
    obtain ⟨c0, d0, t0, s0⟩ := o
    simp only at hc
    subst hc
    wp_walk using wpAny_loadPart' ho
    refine wpAny_stack_any fun z => wpAny_pure ?_
    split
    · rename_i y _ _ _ _ _
      cases (y == Value.type "enumerate") <;> (wp_walk using wpAny_loadPart' ho, wpAny_pyIter_tuple hT; exact ⟨_, rfl, h⟩)
    · wp_walk using wpAny_loadPart' ho, wpAny_pyIter_tuple hT
      exact ⟨_, rfl, h⟩
section
variable {prog : Program} {w : World} {A : Around} {E : Value → Shared → Prop} {s : Shared}
theorem call_enT {l : Addr} {its : Array Value} {Q : Value → Shared → Prop} (hT : s.heap.IsTuple l its)
    (h : IsEnum ((s.heap.push (tiO l)).push (enO s.heap.objs.size)) (s.heap.objs.size + 1) s.heap.objs.size 0 .none → Q (.ref (s.heap.objs.size + 1)) { s with heap := (s.heap.push (tiO l)).push (enO s.heap.objs.size) }) :
    wpAny (model prog w) A (call (.type "enumerate") [.ref l]) Q E s := by
  refine callType_new F.called_enumerate (by decide) (F.typeCall_enumerate_1 _) (F.newCall_enumerate_1 _) (fun z => F.args_object_init_2 z _) F.entry_enumerate_new (meets_enT l its) ⟨hT, ?_⟩
  have hz : (s.heap.push (tiO l)).objs.size = s.heap.objs.size + 1 := Heap.size_push ..
  show _ ∧ _
  rw [hz]
  have e : IsEnum ((s.heap.push (tiO l)).push (enO s.heap.objs.size)) (s.heap.objs.size + 1) s.heap.objs.size 0 .none := by
    have q := Heap.get?_push_size (s.heap.push (tiO l)) (o := enO s.heap.objs.size) rfl
    rw [hz] at q
    exact q
  exact ⟨⟨_, e, rfl⟩, h e⟩
end
/-- the tuple at a, each item with its number in a new pair -/
def IteT (K : PySem.W.Frag) (a : Addr) : It where
  go i H := ∃ xs : List V, SqT K H a xs ∧ i < xs.length
  yld i H v H' := ∃ T x, v = .ref T ∧ H T = none ∧ H' = upd H T (.tup [.int (i : Nat), x]) ∧ ∀ xs, SqT K H a xs → xs[i]? = some x
  stop i H := ∃ xs : List V, SqT K H a xs ∧ xs.length = i
/-- how it stands ahead of the turn i -/
structure EnT (a e j : Addr) (i : Nat) (h : Heap) : Prop where
  en : ∃ old, IsEnum h e j ((i : Nat) : Int) old
  it : h.IsTupleIter j a i
  ne : e ≠ j
  na : a ≠ j
theorem turn_enT {P : Program} {w : World} {K : PySem.W.Frag} {es : List Expr} {n : Nat} {pos : Pos} (a e j : Addr) : Turn P w K (.Tuple es n pos) (IteT K a) [e, j] e (EnT a e j) where
  mem := List.mem_cons_self
  obj i h st b hb := by
    obtain ⟨⟨old, he⟩, ⟨o, ho, hc, hd⟩, _⟩ := st
    rcases List.mem_cons.mp hb with z | z
    · subst z
      exact ⟨_, he, fun v q => nomatch q⟩
    · rw [List.mem_singleton.mp z]
      exact ⟨o, ho, fun v q => by rw [hd] at q; cases q⟩
  keep i h h' st k := by
    obtain ⟨⟨old, he⟩, hi, n1, n2⟩ := st
    exact ⟨⟨old, k e List.mem_cons_self _ he⟩, hi.at fun o q => k j (List.mem_cons_of_mem _ List.mem_cons_self) o q, n1, n2⟩
  item := by
    intro X hP hw hK hc i pins s σ H E I hf st hg
    subst hP hw hK
    obtain ⟨⟨old, he⟩, hit, n1, n2⟩ := st
    obtain ⟨xs, hq, hx⟩ := hg
    obtain ⟨its, rv, p, hz⟩ := I.tuple hq
    have hl := rv.length
    have nea : e ≠ a := fun z => by
      obtain ⟨o, ho, hco, _⟩ := p
      rw [← z, he] at ho
      cases ho
      injection hco with hco
      exact absurd hco (by decide)
    have hel : e < s.heap.objs.size := Heap.lt_size he
    have hjl : j < s.heap.objs.size := by
      obtain ⟨_, q, _⟩ := hit
      exact Heap.lt_size q
    have hfp : e ∉ [j, a] := by
      intro z
      rcases List.mem_cons.mp z with z | z
      · exact n1 z
      · exact nea (List.mem_singleton.mp z)
    refine wpAny_pyNext_enum_itemC (Draws.tuple (A := X.A.in1) (I.ok.hd hc) j a n2 its.toArray) he ⟨hit, p⟩ (by rw [List.size_toArray]; omega) n1 hfp fun u h' tk hu ho st2 hT hsz hk => ?_
    have hgx : xs[i]? = some xs[i] := List.getElem?_eq_getElem hx
    obtain ⟨u2, hu2, ru⟩ := rv.get hgx
    have eu : u = u2 := by
      have : its[i]? = some u := by simpa using hu
      exact Option.some.inj (this.symm.trans hu2)
    subst eu
    refine ⟨_, rfl, wpAny_letOwnedTupleGo_enum (s := { s with heap := h', toks := tk + 1 }) ho fun h2 he2 sb => ?_⟩
    have hT2 : h2.get? s.heap.objs.size = some { cls := .type "tuple", data := .seq #[.int i tk, u] } := (sb.2 _ (Nat.ne_of_gt hel)).trans hT
    have ok : ObjOk X.prog X.w (upd H s.heap.objs.size (.tup [.int (i : Nat), xs[i]])) h2 s.heap.objs.size (.tup [.int (i : Nat), xs[i]]) :=
      ⟨(by show 2 ≤ sizeLine; decide), [.int i tk, u], .cons ⟨tk, rfl⟩ (.cons ru .nil), ⟨_, hT2, rfl, _, rfl⟩⟩
    have I1 : Inv X pins σ (upd H s.heap.objs.size (.tup [.int (i : Nat), xs[i]])) { s with heap := h2, toks := tk + 1 } :=
      I.turnedNew (ch := [e, j]) (fun b ob hb q => (sb.2 b fun z => hb (z ▸ List.mem_cons_self)).trans (hk b ob (fun z => hb (z ▸ List.mem_cons_self)) (fun z => hb (z ▸ List.mem_cons_of_mem _ List.mem_cons_self)) q)) hf (Nat.le_refl _) ok
    refine ⟨.ref s.heap.objs.size, _, I1, rfl, ⟨_, xs[i], rfl, I.hok.fresh (Nat.le_refl _), rfl, fun ys hy => by rw [I.tuple_inj hy hq]; exact hgx⟩, ⟨⟨u, he2⟩, st2.1.at fun o q => (sb.2 j n1.symm).trans q, n1, n2⟩, fun b hb => ?_⟩
    have hbl : b < s.heap.objs.size := by
      rcases List.mem_cons.mp hb with z | z
      · rw [z]
        exact hel
      · rw [List.mem_singleton.mp z]
        exact hjl
    rw [upd_ne (Nat.ne_of_lt hbl)]
    exact (hf b hb).1
  done := by
    intro X hP hw hK hc i pins s σ H E I hf st hg
    subst hP hw hK
    obtain ⟨⟨old, he⟩, hit, n1, n2⟩ := st
    obtain ⟨xs, hq, rfl⟩ := hg
    obtain ⟨its, rv, p, hz⟩ := I.tuple hq
    obtain ⟨f0, f1, f2, f3, f4, f5⟩ := hf j (List.mem_cons_of_mem _ List.mem_cons_self)
    have hl := rv.length
    have es : its.toArray.size = xs.length := by rw [List.size_toArray]; omega
    exact wpAny_pyNext_enum_endD (Draws.tuple (A := X.A.in1) (I.ok.hd hc) j a n2 its.toArray) he ⟨es ▸ hit, p⟩ fun h' eb => ⟨rfl, I.turned (t' := s.toks) (fun b o hb q => eb b o hb q) f0 f1 f3 f4 f5⟩
  self A i s Q E st h := by
    obtain ⟨⟨_, he⟩, _⟩ := st
    exact wpAny_pyIter_enum he h
def iEnT (K : PySem.W.Frag) (ta : TA) : TI := fun σ H R => ta σ H fun vs H1 => ∃ a xs, vs = [.ref a] ∧ SqT K H1 a xs ∧ R (IteT K a) H1
theorem pi_enT {X : Cx} {e : Expr} {ta : TA} {p pos q : Pos} {es : List Expr} {n : Nat} (hg : Gl X "enumerate") (hm : X.mg "enumerate" = none) (ha : PA X [e] ta) (hs : starEach [e] X.env = [(false, eval e X.env)] := by rfl) :
    PI X (.Tuple es n q) (.Call (.Name "enumerate" p) [e] [] pos) (iEnT X.K ta) := by
  constructor
  intro pins s σ H R I h
  refine Call_ (ld_blt I hg hm boot_enumerate (PyProof.Rows.callWith_type1 (thn (ha.run pos pins s σ H _ I h) fun us s1 ⟨vs, H1, I1, r1, q1⟩ => ?_) hs rfl))
  obtain ⟨a, xs, ex, hq, q⟩ := q1
  subst ex
  cases r1 with
  | cons r rr =>
    cases rr
    cases r
    obtain ⟨its, rv, pt, hz⟩ := I1.tuple hq
    have hal : a < s1.heap.objs.size := by
      obtain ⟨o, ho, _⟩ := pt
      exact Heap.lt_size ho
    refine call_enT pt fun he => wpAny_pyIter_enum he ?_
    have k : ∀ b o, s1.heap.get? b = some o → ((s1.heap.push (tiO a)).push (enO s1.heap.objs.size)).get? b = some o := fun b o z => Heap.get?_push_of_some _ (Heap.get?_push_of_some _ z)
    have I2 : Inv X pins σ H1 { s1 with heap := (s1.heap.push (tiO a)).push (enO s1.heap.objs.size) } := I1.kept (t' := s1.toks) k
    refine ⟨s1.heap.objs.size + 1, [s1.heap.objs.size + 1, s1.heap.objs.size], _, _, H1, rfl, I2, turn_enT a (s1.heap.objs.size + 1) s1.heap.objs.size,
      ⟨⟨.none, he⟩, ⟨_, Heap.get?_push_of_some _ (Heap.get?_push_size _ rfl), rfl, rfl⟩, Nat.succ_ne_self _, Nat.ne_of_lt hal⟩, fun b hb => ?_, q⟩
    have le : s1.heap.objs.size ≤ b := by
      rcases List.mem_cons.mp hb with z | z
      · rw [z]
        exact Nat.le_succ _
      · rw [List.mem_singleton.mp z]
        exact Nat.le_refl _
    exact I1.fpOk le (I1.hok.fresh le)
theorem walk_enT {K : PySem.W.Frag} {a : Addr} {xs : List V} : Walk (IteT K a) xs.length (fun H => SqT K H a xs) (YPair (fun i => some (.int (i : Nat))) fun i => xs[i]?) := by
  refine ⟨fun i _ hi q => ⟨xs, q, hi⟩, fun _ q => ⟨xs, q, rfl⟩, fun i H v H' _ q y => ?_⟩
  obtain ⟨T, x, h1, h2, h3, h4⟩ := y
  exact ⟨T, .int (i : Nat), x, h1, h2, h3, rfl, h4 xs q⟩
end Gd

set_option Elab.async false
set_option linter.all false
/-! Two tuples at once. -/
namespace Gd
open PySem PySem.Spec PyProof.Rows L2 RZ
theorem walk_zT {K : PySem.W.Frag} {a b : Addr} {xs ys : List V} {n : Nat} (h1 : n ≤ xs.length) (h2 : n ≤ ys.length) (h3 : n = xs.length ∨ n = ys.length) :
    Walk (ItzT K a b) n (fun H => SqT K H a xs ∧ SqT K H b ys) (YPair (fun i => xs[i]?) fun i => ys[i]?) := by
  refine ⟨fun i _ hi q => ?_, fun _ q => ⟨xs, ys, q.1, q.2, by omega⟩, fun i H v H' _ q y => ?_⟩
  · exact ⟨xs, ys, xs[i], ys[i], q.1, q.2, List.getElem?_eq_getElem (by omega), List.getElem?_eq_getElem (by omega)⟩
  · obtain ⟨T, x, z, e1, e2, e3, e4, e5⟩ := y
    exact ⟨T, x, z, e1, e2, e3, e4 _ q.1, e5 _ q.2⟩
end Gd

set_option Elab.async false
set_option linter.all false
set_option maxRecDepth 100000
/-! How long the text of wide data is. -/
namespace Gd
open PySem PySem.Spec PyProof.Rows L2
mutual
def costW : PyData → Nat
  | .none => 4
  | .bool _ => 5
  | .int _ => 4301
  | .list xs => costWs xs + 3
  | .tuple xs => costWs xs + 3
  | _ => 0
def costWs : List PyData → Nat
  | [] => 0
  | x :: xs => costW x + 2 + costWs xs
end
theorem wide_text {i : Int} (h : i.natAbs < 10 ^ 4300) : (Str.ofString (toString i)).length ≤ 4301 := by
  rw [PySem.ofString_length]
  exact int_text_length_le10 (by decide) h
mutual
theorem shown_W : ∀ d : PyData, wideB d = true → d.shown.length ≤ costW d
  | .none, _ => by simp only [PyData.shown, costW]; decide +kernel
  | .bool b, _ => by
    simp only [PyData.shown, costW]
    cases b <;> decide +kernel
  | .int i, h => by
    have h1 : i.natAbs < 10 ^ 4300 := by simpa [wideB] using h
    simp only [PyData.shown, costW]
    exact wide_text h1
  | .list xs, h => by
    have e := shown_Ws xs (by simpa [wideB] using h)
    have e2 := listText_len_le (PyData.shownAll xs)
    rw [lensAll] at e2
    simp only [PyData.shown, costW]
    omega
  | .tuple xs, h => by
    have e := shown_Ws xs (by simpa [wideB] using h)
    have e2 := tupleText_len_le (PyData.shownAll xs)
    rw [lensAll] at e2
    simp only [PyData.shown, costW]
    omega
  | .str _, h => by simp [wideB] at h
  | .dict _, h => by simp [wideB] at h
theorem shown_Ws : ∀ xs : List PyData, wideAll xs = true → ((PyData.shownAll xs).map (·.length)).sum + 2 * xs.length ≤ costWs xs
  | [], _ => by simp [PyData.shownAll, costWs]
  | x :: xs, h => by
    have h2 : wideB x = true ∧ wideAll xs = true := by simpa [wideAll] using h
    have e1 := shown_W x h2.1
    have e2 := shown_Ws xs h2.2
    simp only [PyData.shownAll, costWs, List.map_cons, List.sum_cons, List.length_cons]
    omega
end
/-- wide items of depth k at most, n in all -/
structure OkW (ds : List PyData) (k n : Nat) : Prop where
  wi : wideAll ds = true
  dp : PyData.depthAll ds ≤ k
  co : costWs ds ≤ n
theorem okW_nil (k : Nat) : OkW [] k 0 := ⟨by simp [wideAll], by simp [PyData.depthAll], by simp [costWs]⟩
theorem okW_cons {d : PyData} {ds : List PyData} {k n m : Nat} (h : OkW [d] k n) (t : OkW ds k m) : OkW (d :: ds) k (n + m) := by
  have h1 : wideB d = true := by simpa [wideAll] using h.wi
  have h3 : d.depth ≤ k := by simpa [PyData.depthAll] using h.dp
  have h4 : costW d + 2 ≤ n := by simpa [costWs] using h.co
  have t3 := t.dp
  have t4 := t.co
  refine ⟨by simp [wideAll, h1, t.wi], ?_, ?_⟩
  · simp only [PyData.depthAll]
    omega
  · simp only [costWs]
    omega
theorem okW_int {i : Int} {k : Nat} (h : i.natAbs < 10 ^ 4300) : OkW [.int i] k 4303 := by
  refine ⟨?_, by simp [PyData.depthAll, PyData.depth], by simp [costWs, costW]⟩
  simp only [wideAll, wideB, Bool.and_true]
  exact decide_eq_true h
theorem okW_tup {ds : List PyData} {k n : Nat} (h : OkW ds k n) : OkW [.tuple ds] (k + 1) (n + 5) := by
  have h3 := h.dp
  have h4 := h.co
  refine ⟨by simp [wideAll, wideB, h.wi], ?_, ?_⟩
  · simp only [PyData.depthAll, PyData.depth]
    omega
  · simp only [costWs, costW]
    omega
theorem ten_two : 2 ^ 14000 ≤ 10 ^ 4300 := by decide +kernel
theorem okW_ints {xs : List Int} {b : Nat} (h : ∀ x ∈ xs, x.natAbs < 2 ^ b) (hb : b ≤ 14000) : OkW (xs.map PyData.int) 1 (4303 * xs.length) := by
  induction xs with
  | nil => exact ⟨by simp [wideAll], by simp [PyData.depthAll], by simp [costWs]⟩
  | cons x xs ih =>
    have h1 := Nat.lt_of_lt_of_le (h x List.mem_cons_self) (Nat.le_trans (Nat.pow_le_pow_right (by decide) hb) ten_two)
    have e := okW_cons (okW_int (k := 1) h1) (ih fun y hy => h y (List.mem_cons_of_mem _ hy))
    rw [List.length_cons, Nat.mul_succ, Nat.add_comm]
    exact e
/-- the whole list is within the line -/
theorem OkW.list {ds : List PyData} {k n : Nat} (h : OkW ds k n) (hn : n + 3 ≤ 16000000) : (PyData.list ds).shown.length ≤ sizeLine := by
  have e := shown_W (.list ds) (by simpa [wideB] using h.wi)
  have h4 := h.co
  simp only [costW] at e
  rw [sizeLine_eq]
  omega
end Gd

/-! What the products of lists as periodic functions are. -/
namespace Pv
section
variable {n : Nat} {F G H : Int → Int}
theorem Per.mir (h : Per n F) : Per n (fun b => F (-b)) := h.neg
theorem Per.turn (h : Per n F) (k : Int) : Per n (fun b => F (b - k)) := h.shift (-k)
theorem cvL (f : Per n F) (hn : 0 < n) : of n (conv n (per (of n F)) G) = of n (conv n F G) := of_congr fun _ _ => conv_congr (fun i => per_of f hn i) (fun _ => rfl) _
theorem cvR (g : Per n G) (hn : 0 < n) : of n (conv n F (per (of n G))) = of n (conv n F G) := of_congr fun _ _ => conv_congr (fun _ => rfl) (fun i => per_of g hn i) _
theorem t_comm (f : Per n F) (g : Per n G) : of n (conv n F G) = of n (conv n G F) := of_congr fun _ _ => conv_comm f g _
theorem t_assL (g : Per n G) (hn : 0 < n) : of n (conv n (per (of n (conv n F G))) H) = of n (conv n (conv n F G) H) := cvL (per_conv g) hn
theorem t_assR (g : Per n G) (h : Per n H) (hn : 0 < n) : of n (conv n F (per (of n (conv n G H)))) = of n (conv n (conv n F G) H) := by
  rw [cvR (per_conv h) hn]
  exact of_congr fun _ _ => (conv_assoc g h _).symm
theorem t_total (g : Per n G) (hn : 0 < n) : S (of n (conv n F G)).length (per (of n (conv n F G))) = S n F * S n G := by
  rw [of_len, ← conv_total g]
  exact S_congr fun j _ => per_of (per_conv g) hn j
theorem t_mirL (f : Per n F) (g : Per n G) (hn : 0 < n) : of n (conv n (per (of n fun b => F (-b))) (per (of n fun b => G (-b)))) = of n (fun b => conv n F G (-b)) := by
  rw [cvL f.mir hn, cvR g.mir hn]
  exact of_congr fun _ _ => conv_mirror f g _
theorem t_mirR (g : Per n G) (hn : 0 < n) : of n (fun b => per (of n (conv n F G)) (-b)) = of n (fun b => conv n F G (-b)) := of_congr fun _ _ => per_of (per_conv g) hn _
theorem t_disL (g : Per n G) (h : Per n H) (hn : 0 < n) : of n (conv n F (per (of n fun i => G i + H i))) = of n (fun b => conv n F G b + conv n F H b) := by
  rw [cvR (g.add h) hn]
  exact of_congr fun _ _ => conv_add _
theorem t_disR (g : Per n G) (h : Per n H) (hn : 0 < n) : of n (fun b => per (of n (conv n F G)) b + per (of n (conv n F H)) b) = of n (fun b => conv n F G b + conv n F H b) := of_congr fun _ _ => by
  rw [per_of (per_conv g) hn, per_of (per_conv h) hn]
theorem t_spot {D : Int → Int} {s : Nat} (hs : s < n) (f : Per n F) (hD : ∀ j : Nat, j < n → D j = if j = s then 1 else 0) (d : Per n D) (hn : 0 < n) : of n (conv n F (per (of n D))) = of n (fun b => F (b - s)) := by
  rw [cvR d hn]
  exact of_congr fun _ _ => conv_one s hs f hD d _
theorem of_const (n : Nat) (c : Int) : of n (fun _ => c) = List.replicate n c := by
  unfold of
  exact (List.map_eq_replicate_iff.mpr (fun _ _ => rfl)).trans (by rw [List.length_range])
theorem per_const (n : Nat) (c : Int) : Per n (fun _ => c) := fun _ => rfl
theorem t_ones (hn : 0 < n) : of n (conv n F (per (of n fun _ => 1))) = List.replicate n (S n F) := by
  rw [cvR (per_const n 1) hn, ← of_const]
  exact of_congr fun _ _ => conv_ones _
theorem t_turnL (f : Per n F) (g : Per n G) (k : Int) (hn : 0 < n) : of n (conv n (per (of n fun b => F (b - k))) G) = of n (fun b => conv n F G (b - k)) := by
  rw [cvL (f.turn k) hn]
  exact of_congr fun _ _ => conv_turn f g k _
theorem t_turnR (g : Per n G) (k : Int) (hn : 0 < n) : of n (fun b => per (of n (conv n F G)) (b - k)) = of n (fun b => conv n F G (b - k)) := of_congr fun _ _ => per_of (per_conv g) hn _
end
end Pv

/-! Polynomials as lists of whole numbers: products, division by monic ones. -/
namespace Po
open Pv
/-- without noughts at its end -/
def tr (xs : List Int) : List Int := (xs.reverse.dropWhile (· == 0)).reverse
theorem tr_nil : tr [] = [] := rfl
theorem tr_zero (xs : List Int) : tr (xs ++ [0]) = tr xs := by
  unfold tr
  rw [List.reverse_append]
  rfl
theorem tr_last {xs : List Int} {x : Int} (h : x ≠ 0) : tr (xs ++ [x]) = xs ++ [x] := by
  unfold tr
  rw [List.reverse_append]
  show (List.dropWhile (· == 0) (x :: xs.reverse)).reverse = _
  rw [List.dropWhile_cons, if_neg (by simpa using h), List.reverse_cons, List.reverse_reverse]
/-- the number at a place, 0 beside -/
def co (xs : List Int) : Int → Int := fun i => if 0 ≤ i then xs.getD i.toNat 0 else 0
theorem co_neg {xs : List Int} {i : Int} (h : i < 0) : co xs i = 0 := by
  unfold co
  rw [if_neg (by omega)]
theorem co_nat (xs : List Int) (j : Nat) : co xs j = xs.getD j 0 := by
  unfold co
  rw [if_pos (by omega)]
  rfl
theorem co_get {xs : List Int} {j : Nat} (h : j < xs.length) : co xs j = xs[j] := by
  rw [co_nat, List.getD_eq_getElem?_getD, List.getElem?_eq_getElem h]
  rfl
theorem co_big {xs : List Int} {i : Int} (h : (xs.length : Int) ≤ i) : co xs i = 0 := by
  unfold co
  by_cases z : 0 ≤ i
  · rw [if_pos z, List.getD_eq_getElem?_getD, List.getElem?_eq_none (by omega)]
    rfl
  · rw [if_neg z]
theorem co_of {n : Nat} {F : Int → Int} {j : Nat} (h : j < n) : co (of n F) j = F j := by
  rw [co_nat, List.getD_eq_getElem?_getD, of_get h]
  rfl
theorem of_co {xs : List Int} {n : Nat} (h : xs.length = n) : of n (co xs) = xs := by
  subst h
  refine List.ext_getElem (of_len _ _) fun i h1 h2 => ?_
  have z := of_get (F := co xs) h2
  rw [List.getElem?_eq_getElem h1] at z
  rw [Option.some.inj z, co_get h2]
theorem co_app0 (xs : List Int) (i : Int) : co (xs ++ [0]) i = co xs i := by
  by_cases z : 0 ≤ i
  · obtain ⟨j, rfl⟩ := Int.eq_ofNat_of_zero_le z
    rw [co_nat, co_nat, List.getD_eq_getElem?_getD, List.getD_eq_getElem?_getD]
    by_cases h : j < xs.length
    · rw [List.getElem?_append_left h]
    · rw [List.getElem?_append_right (by omega), List.getElem?_eq_none (by omega : xs.length ≤ j)]
      cases hk : j - xs.length with
      | zero => rfl
      | succ k => rfl
  · rw [co_neg (by omega), co_neg (by omega)]
theorem snoc_cases (xs : List Int) : xs = [] ∨ ∃ ys y, xs = ys ++ [y] := by
  cases h : xs.reverse with
  | nil => exact .inl (List.reverse_eq_nil_iff.mp h)
  | cons y r => exact .inr ⟨r.reverse, y, by rw [← List.reverse_reverse (as := xs), h, List.reverse_cons]⟩
theorem tr_ind {p : List Int → Prop} (h0 : p []) (hz : ∀ xs, p xs → p (xs ++ [0])) (hl : ∀ xs x, x ≠ 0 → p (xs ++ [x])) : ∀ xs, p xs := by
  have key : ∀ n (xs : List Int), xs.length = n → p xs := by
    intro n
    induction n with
    | zero =>
      intro xs e
      rw [List.eq_nil_of_length_eq_zero e]
      exact h0
    | succ n ih =>
      intro xs e
      rcases snoc_cases xs with rfl | ⟨ys, y, rfl⟩
      · exact h0
      · rw [List.length_append] at e
        by_cases hy : y = 0
        · subst hy
          exact hz ys (ih ys (by simpa using e))
        · exact hl ys y hy
  exact fun xs => key _ xs rfl
theorem co_tr (xs : List Int) (i : Int) : co (tr xs) i = co xs i := by
  revert xs
  refine tr_ind rfl (fun xs ih => ?_) (fun xs x h => by rw [tr_last h])
  rw [tr_zero, ih, co_app0]
theorem tr_len (xs : List Int) : (tr xs).length ≤ xs.length := by
  unfold tr
  rw [List.length_reverse]
  exact Nat.le_trans (List.dropWhile_sublist _).length_le (by rw [List.length_reverse]; exact Nat.le_refl _)
theorem tr_mem {xs : List Int} {x : Int} (h : x ∈ tr xs) : x ∈ xs := by
  unfold tr at h
  exact List.mem_reverse.mp ((List.dropWhile_sublist _).subset (List.mem_reverse.mp h))
/-- nothing to trim -/
def Nf (xs : List Int) : Prop := xs = [] ∨ ∃ ys y, y ≠ 0 ∧ xs = ys ++ [y]
theorem nf_tr (xs : List Int) : Nf (tr xs) := by
  revert xs
  refine tr_ind (.inl rfl) (fun xs ih => by rw [tr_zero]; exact ih) (fun xs x h => ?_)
  rw [tr_last h]
  exact .inr ⟨xs, x, h, rfl⟩
theorem Nf.tr {xs : List Int} (h : Nf xs) : tr xs = xs := by
  rcases h with rfl | ⟨ys, y, h, rfl⟩
  · rfl
  · exact tr_last h
theorem nf_len {xs ys : List Int} (hx : Nf xs) (e : ∀ i, co xs i = co ys i) : xs.length ≤ ys.length := by
  rcases hx with rfl | ⟨zs, z, h, rfl⟩
  · exact Nat.zero_le _
  · refine Classical.byContradiction fun hl => h ?_
    rw [List.length_append] at hl
    have e1 := e (zs.length : Nat)
    have hl2 : ys.length ≤ zs.length := by simp at hl; omega
    rw [co_big (xs := ys) (by omega), co_get (by rw [List.length_append]; simp)] at e1
    rw [List.getElem_append_right (Nat.le_refl _)] at e1
    simpa using e1
theorem nf_ext {xs ys : List Int} (hx : Nf xs) (hy : Nf ys) (e : ∀ i, co xs i = co ys i) : xs = ys := by
  have l1 := nf_len hx e
  have l2 := nf_len hy fun i => (e i).symm
  have l := Nat.le_antisymm l1 l2
  exact (of_co l).symm.trans ((of_congr fun j _ => e j).trans (of_co rfl))
theorem tr_ext {xs ys : List Int} (e : ∀ i, co xs i = co ys i) : tr xs = tr ys := nf_ext (nf_tr _) (nf_tr _) fun i => by rw [co_tr, co_tr, e]
theorem co_of_all {n : Nat} {F : Int → Int} (h0 : ∀ i, i < 0 → F i = 0) (h1 : ∀ i, (n : Int) ≤ i → F i = 0) (i : Int) : co (of n F) i = F i := by
  by_cases z : i < 0
  · rw [co_neg z, h0 i z]
  · obtain ⟨j, rfl⟩ := Int.eq_ofNat_of_zero_le (by omega : 0 ≤ i)
    by_cases y : j < n
    · exact co_of y
    · rw [co_big (by rw [of_len]; omega), h1 _ (by omega)]
/-- two windows that both hold all of a function are told alike -/
theorem tr_win {n m : Nat} {F : Int → Int} (h0 : ∀ i, i < 0 → F i = 0) (h1 : ∀ i, (n : Int) ≤ i → F i = 0) (h2 : ∀ i, (m : Int) ≤ i → F i = 0) : tr (of n F) = tr (of m F) :=
  tr_ext fun i => by rw [co_of_all h0 h1, co_of_all h0 h2]
/-! ### products -/
/-- the product of a function that is 0 from n on -/
def mu (n : Nat) (F G : Int → Int) : Int → Int := fun b => S n fun j => F j * G (b - j)
theorem mu_neg {n : Nat} {F G : Int → Int} (g : ∀ i, i < 0 → G i = 0) (b : Int) (h : b < 0) : mu n F G b = 0 := by
  refine (S_congr fun j _ => ?_).trans (S_zero n)
  rw [g _ (by omega), Int.mul_zero]
theorem mu_big {n m : Nat} {F G : Int → Int} (g : ∀ i, (m : Int) ≤ i → G i = 0) (b : Int) (h : (n : Int) + m ≤ b + 1) : mu n F G b = 0 := by
  refine (S_congr fun j hj => ?_).trans (S_zero n)
  rw [g _ (by omega), Int.mul_zero]
theorem mu_congr {n : Nat} {F F' G G' : Int → Int} (h : ∀ i, F i = F' i) (g : ∀ i, G i = G' i) (b : Int) : mu n F G b = mu n F' G' b := S_congr fun j _ => by rw [h, g]
theorem S_more {n m : Nat} {F : Int → Int} (h : ∀ i : Nat, n ≤ i → F i = 0) (hm : n ≤ m) : S m F = S n F := by
  obtain ⟨k, rfl⟩ := Nat.exists_eq_add_of_le hm
  clear hm
  induction k with
  | zero => rfl
  | succ k ih =>
    show S (n + k) F + F ((n + k : Nat) : Int) = _
    rw [ih, h _ (by omega), Int.add_zero]
theorem mu_more {n m : Nat} {F G : Int → Int} (f : ∀ i : Nat, n ≤ i → F i = 0) (hm : n ≤ m) (b : Int) : mu m F G b = mu n F G b :=
  S_more (fun i hi => by rw [f i hi, Int.zero_mul]) hm
theorem mu_comm {n m : Nat} {F G : Int → Int} (f0 : ∀ i, i < 0 → F i = 0) (f : ∀ i : Nat, n ≤ i → F i = 0) (g0 : ∀ i, i < 0 → G i = 0) (g : ∀ i : Nat, m ≤ i → G i = 0) (b : Int) : mu n F G b = mu m G F b := by
  by_cases hb : b < 0
  · rw [mu_neg g0 b hb, mu_neg f0 b hb]
  · obtain ⟨c, rfl⟩ := Int.eq_ofNat_of_zero_le (by omega : 0 ≤ b)
    -- both are sums to the greatest window
    have key : ∀ {n : Nat} {F G : Int → Int}, (∀ i : Nat, n ≤ i → F i = 0) → (∀ i, i < 0 → G i = 0) → mu n F G c = S (c + 1) fun j => F j * G (c - j) := by
      intro n F G f g0
      have e1 : S (max n (c + 1)) (fun j => F j * G (c - j)) = S n fun j => F j * G (c - j) := S_more (fun i hi => by rw [f i hi, Int.zero_mul]) (Nat.le_max_left _ _)
      have e2 : S (max n (c + 1)) (fun j => F j * G (c - j)) = S (c + 1) fun j => F j * G (c - j) := S_more (fun i hi => by rw [g0 _ (by omega), Int.mul_zero]) (Nat.le_max_right _ _)
      exact e1.symm.trans e2
    rw [key f g0, key g f0, ← S_rev]
    refine S_congr fun j _ => ?_
    rw [show (((c + 1 : Nat) : Int) - 1 - (j : Int)) = c - j by omega, show (c : Int) - (c - j) = j by omega, Int.mul_comm]
theorem co_zero_nat {xs : List Int} (i : Nat) (h : xs.length ≤ i) : co xs i = 0 := co_big (by omega)
/-- the product as a list, trimmed -/
def ml (xs ys : List Int) : List Int := tr (of (xs.length + ys.length) (mu xs.length (co xs) (co ys)))
theorem co_ml (xs ys : List Int) (i : Int) : co (ml xs ys) i = mu xs.length (co xs) (co ys) i := by
  unfold ml
  rw [co_tr, co_of_all (fun i h => mu_neg (fun _ => co_neg) i h) (fun i h => mu_big (m := ys.length) (fun _ => co_big) i (by omega))]
theorem ml_comm (xs ys : List Int) : ml xs ys = ml ys xs := by
  refine nf_ext (nf_tr _) (nf_tr _) fun i => ?_
  show co (ml xs ys) i = co (ml ys xs) i
  rw [co_ml, co_ml]
  exact mu_comm (fun _ => co_neg) co_zero_nat (fun _ => co_neg) co_zero_nat i
theorem co_nil (i : Int) : co [] i = 0 := by
  unfold co
  by_cases h : 0 ≤ i
  · rw [if_pos h]
    rfl
  · rw [if_neg h]
theorem ml_nil (xs : List Int) : ml xs [] = [] := by
  refine nf_ext (nf_tr _) (.inl rfl) fun i => ?_
  show co (ml xs []) i = _
  rw [co_ml, co_nil]
  exact (S_congr fun j _ => by rw [co_nil, Int.mul_zero]).trans (S_zero _)
theorem ml_win {n : Nat} {xs ys : List Int} (h : xs.length + ys.length ≤ n + 1) : tr (of n (mu xs.length (co xs) (co ys))) = ml xs ys :=
  tr_win (fun i h => mu_neg (fun _ => co_neg) i h) (fun i hi => mu_big (m := ys.length) (fun _ => co_big) i (by omega)) (fun i hi => mu_big (m := ys.length) (fun _ => co_big) i (by omega))
/-! ### values -/
/-- the value, from the last number on -/
def ev (t : Int) (xs : List Int) : Int := xs.foldr (fun x v => v * t + x) 0
theorem ev_S (t : Int) (xs : List Int) : ev t xs = S xs.length fun i => co xs i * t ^ i.toNat := by
  induction xs with
  | nil => rfl
  | cons x xs ih =>
    show ev t xs * t + x = _
    rw [List.length_cons, S_front, ih]
    have e : S xs.length (fun j => co (x :: xs) (j + 1) * t ^ (j + 1).toNat) = S xs.length (fun i => co xs i * t ^ i.toNat) * t := by
      rw [← S_mulR]
      refine S_congr fun j _ => ?_
      rw [show ((j : Int) + 1).toNat = j + 1 by omega, show co (x :: xs) ((j : Int) + 1) = co xs j by
        rw [show (j : Int) + 1 = ((j + 1 : Nat) : Int) by omega, co_nat, co_nat]; rfl, Int.pow_succ, Int.toNat_natCast, Int.mul_assoc]
    rw [e, show co (x :: xs) 0 = x from rfl]
    show _ = x * t ^ 0 + _
    rw [Int.pow_zero, Int.mul_one, Int.add_comm]
theorem ev_win {t : Int} {xs : List Int} {F : Int → Int} {n : Nat} (e : ∀ i, co xs i = F i) (h : ∀ i : Nat, n ≤ i → F i = 0) : ev t xs = S n fun i => F i * t ^ i.toNat := by
  have e1 : ev t xs = S xs.length fun i => F i * t ^ i.toNat := (ev_S t xs).trans (S_congr fun j _ => by rw [e])
  have h2 : ∀ i : Nat, xs.length ≤ i → F i * t ^ (i : Int).toNat = 0 := fun i hi => by rw [← e, co_big (by omega), Int.zero_mul]
  have a1 := S_more (m := max n xs.length) (F := fun i => F i * t ^ i.toNat) h2 (Nat.le_max_right _ _)
  have a2 := S_more (n := n) (m := max n xs.length) (F := fun i => F i * t ^ i.toNat) (fun i hi => by show F i * _ = 0; rw [h i hi, Int.zero_mul]) (Nat.le_max_left _ _)
  rw [e1, ← a1, a2]
theorem ev_ml (t : Int) (xs ys : List Int) : ev t (ml xs ys) = ev t xs * ev t ys := by
  rw [ev_win (n := xs.length + ys.length) (co_ml xs ys) (fun i hi => mu_big (m := ys.length) (fun _ => co_big) i (by omega))]
  have e1 : S (xs.length + ys.length) (fun i => mu xs.length (co xs) (co ys) i * t ^ i.toNat) = S (xs.length + ys.length) (fun i => S xs.length fun j => co xs j * co ys (i - j) * t ^ i.toNat) :=
    S_congr fun i _ => (S_mulR _ _ _).symm
  rw [e1, S_swap (xs.length + ys.length) xs.length fun i j => co xs j * co ys (i - j) * t ^ i.toNat, ev_S t xs, ← S_mulR]
  refine S_congr fun j hj => ?_
  have e2 : S (xs.length + ys.length) (fun i => co xs j * co ys (i - j) * t ^ i.toNat) = co xs j * S (xs.length + ys.length) (fun i => co ys (i - j) * t ^ i.toNat) := by
    rw [← S_mulL]
    exact S_congr fun i _ => Int.mul_assoc _ _ _
  rw [e2, Int.mul_assoc]
  congr 1
  rw [ev_S t ys]
  -- the sum from j on
  have cut : ∀ (k n : Nat) (f : Int → Int), (∀ i : Nat, i < k → f i = 0) → S (k + n) f = S n fun i => f (i + k) := by
    intro k n f h
    induction n with
    | zero => exact (S_congr h).trans (S_zero k)
    | succ n ih =>
      show S (k + n) f + f ((k + n : Nat) : Int) = S n (fun i => f (i + k)) + f ((n : Int) + k)
      rw [ih, show ((k + n : Nat) : Int) = (n : Int) + k by omega]
  have e3 := cut j (xs.length - j + ys.length) (fun i => co ys (i - j) * t ^ i.toNat) fun i hi => by rw [co_neg (by omega), Int.zero_mul]
  rw [show j + (xs.length - j + ys.length) = xs.length + ys.length by omega] at e3
  rw [e3, show Int.toNat (j : Int) = j from rfl]
  have e4 : S (xs.length - j + ys.length) (fun i => co ys (i + j - j) * t ^ (i + (j : Int)).toNat) = S ys.length fun i => co ys i * t ^ (i + (j : Int)).toNat := by
    rw [S_congr (G := fun i => co ys i * t ^ (i + (j : Int)).toNat) fun i _ => by rw [Int.add_sub_cancel]]
    exact S_more (fun i hi => by rw [co_big (by omega), Int.zero_mul]) (by omega)
  rw [e4, ← S_mulL]
  refine S_congr fun i _ => ?_
  rw [show ((i : Int) + (j : Int)).toNat = j + i by omega, Int.pow_add, show Int.toNat (i : Int) = i from rfl, ← Int.mul_assoc, Int.mul_comm (co ys i), Int.mul_assoc, Int.mul_comm (co ys i)]
end Po

/-! Division by monic polynomials, the long way, from the highest shift down. -/
namespace Po
open Pv
def stp (d : Nat) (B R : Int → Int) (s : Nat) : Int → Int := fun i => R i - R ((s : Int) + d) * B (i - s)
/-- what is left behind the shifts s - 1, s - 2 down to 0 -/
def run (d : Nat) (B : Int → Int) : Nat → (Int → Int) → Int → Int
  | 0, R => R
  | s + 1, R => run d B s (stp d B R s)
def fac (d : Nat) (B : Int → Int) : Nat → (Int → Int) → List Int
  | 0, _ => []
  | s + 1, R => fac d B s (stp d B R s) ++ [R ((s : Int) + d)]
theorem fac_len (d : Nat) (B : Int → Int) : ∀ (s : Nat) (R : Int → Int), (fac d B s R).length = s
  | 0, _ => rfl
  | s + 1, R => by
    show (fac d B s _ ++ [_]).length = _
    rw [List.length_append, fac_len d B s]
    rfl
/-- the rest, the quotient -/
def rs (one div : List Int) : List Int := tr (of one.length (run (div.length - 1) (co div) (one.length - (div.length - 1)) (co one)))
def qs (one div : List Int) : List Int := tr (fac (div.length - 1) (co div) (one.length - (div.length - 1)) (co one))
/-- monic: a 1 at its end -/
def Mo (div : List Int) : Prop := ∃ ys, div = ys ++ [1]
theorem Mo.len {div : List Int} (h : Mo div) : 1 ≤ div.length := by
  obtain ⟨ys, rfl⟩ := h
  simp
theorem Mo.top {div : List Int} (h : Mo div) : co div ((div.length - 1 : Nat) : Int) = 1 := by
  obtain ⟨ys, rfl⟩ := h
  rw [co_get (by simp)]
  simp
theorem Mo.big {div : List Int} (h : Mo div) (i : Int) (hi : ((div.length - 1 : Nat) : Int) < i) : co div i = 0 := by
  have := h.len
  exact co_big (by omega)
theorem mul_run {d : Nat} {B : Int → Int} (h1 : B d = 1) (h2 : ∀ i, (d : Int) < i → B i = 0) (F : Int → Int) : ∀ s : Nat, run d B s (mu s F B) = (fun _ => 0) ∧ fac d B s (mu s F B) = of s F
  | 0 => ⟨rfl, rfl⟩
  | s + 1 => by
    have lead : mu (s + 1) F B ((s : Int) + d) = F s := by
      show mu s F B ((s : Int) + d) + F s * B ((s : Int) + d - s) = F s
      have e : mu s F B ((s : Int) + d) = 0 := by
        refine (S_congr fun j hj => ?_).trans (S_zero s)
        rw [h2 _ (by omega), Int.mul_zero]
      rw [e, show (s : Int) + d - s = d by omega, h1, Int.zero_add, Int.mul_one]
    have st : stp d B (mu (s + 1) F B) s = mu s F B := by
      funext i
      show mu (s + 1) F B i - mu (s + 1) F B ((s : Int) + d) * B (i - s) = _
      rw [lead]
      show mu s F B i + F s * B (i - s) - F s * B (i - s) = _
      omega
    obtain ⟨e1, e2⟩ := mul_run h1 h2 F s
    refine ⟨?_, ?_⟩
    · show run d B s (stp d B (mu (s + 1) F B) s) = _
      rw [st, e1]
    · show fac d B s (stp d B (mu (s + 1) F B) s) ++ [mu (s + 1) F B ((s : Int) + d)] = _
      rw [st, e2, lead]
      unfold of
      rw [List.range_succ, List.map_append]
      rfl
theorem tr_zeros (n : Nat) : tr (of n fun _ => 0) = [] := nf_ext (nf_tr _) (.inl rfl) fun i => by
  rw [co_tr, co_of_all (fun _ _ => rfl) (fun _ _ => rfl), co_nil]
/-- what was multiplied comes out again -/
theorem div_ml {xs div : List Int} (hx : Nf xs) (hm : Mo div) : qs (ml xs div) div = xs ∧ rs (ml xs div) div = [] := by
  have hl := hm.len
  have hL : (ml xs div).length - (div.length - 1) = xs.length := by
    rcases hx with rfl | ⟨ys, y, hy, rfl⟩
    · rw [ml_comm, ml_nil]
      simp
    · have n1 : ((ys ++ [y]).length : Nat) = ys.length + 1 := by simp
      have top : co (ml (ys ++ [y]) div) ((ys.length + (div.length - 1) : Nat) : Int) = y := by
        rw [co_ml, n1]
        show mu ys.length (co (ys ++ [y])) (co div) _ + co (ys ++ [y]) (ys.length : Int) * co div (((ys.length + (div.length - 1) : Nat) : Int) - (ys.length : Int)) = y
        have e : mu ys.length (co (ys ++ [y])) (co div) ((ys.length + (div.length - 1) : Nat) : Int) = 0 := by
          refine (S_congr fun j hj => ?_).trans (S_zero _)
          rw [hm.big _ (by omega), Int.mul_zero]
        rw [e, show (((ys.length + (div.length - 1) : Nat) : Int) - (ys.length : Int)) = ((div.length - 1 : Nat) : Int) by omega, hm.top, Int.zero_add, Int.mul_one, co_get (by simp)]
        simp
      have l1 : ys.length + (div.length - 1) < (ml (ys ++ [y]) div).length := by
        refine Classical.byContradiction fun z => hy ?_
        rw [← top, co_big (by omega)]
      have l2 : (ml (ys ++ [y]) div).length ≤ ys.length + 1 + (div.length - 1) := by
        have := nf_len (ys := of (ys.length + 1 + (div.length - 1)) (mu (ys.length + 1) (co (ys ++ [y])) (co div))) (nf_tr _ : Nf (ml (ys ++ [y]) div)) fun i => by
          show co (ml (ys ++ [y]) div) i = _
          rw [co_ml, co_of_all (fun i h => mu_neg (fun _ => co_neg) i h) (fun i h => mu_big (m := div.length) (fun _ => co_big) i (by omega)), n1]
        rw [of_len] at this
        exact this
      rw [n1]
      omega
  have e : co (ml xs div) = mu xs.length (co xs) (co div) := funext fun i => co_ml xs div i
  obtain ⟨a1, a2⟩ := mul_run hm.top hm.big (co xs) xs.length
  refine ⟨?_, ?_⟩
  · unfold qs
    rw [hL, e, a2, of_co rfl, hx.tr]
  · unfold rs
    rw [hL, e, a1, tr_zeros]
theorem mo_one : Mo [1] := ⟨[], rfl⟩
theorem ml_one {xs : List Int} (hx : Nf xs) : ml xs [1] = xs := by
  refine nf_ext (nf_tr _) hx fun i => ?_
  show co (ml xs [1]) i = _
  rw [ml_comm, co_ml]
  show 0 + co [1] 0 * co xs (i - 0) = _
  rw [Int.sub_zero, Int.zero_add, show co [1] 0 = 1 from rfl, Int.one_mul]
theorem div_one {xs : List Int} (hx : Nf xs) : qs xs [1] = xs ∧ rs xs [1] = [] := by
  have := div_ml hx mo_one
  rw [ml_one hx] at this
  exact this
theorem div_nil (div : List Int) : qs [] div = [] ∧ rs [] div = [] := by
  unfold qs rs
  rw [List.length_nil, Nat.zero_sub]
  exact ⟨rfl, rfl⟩
/-! ### by x ** n - 1 -/
theorem run_clock {n : Nat} {B : Int → Int} (hn : 0 < n) (b0 : B 0 = -1) (b1 : B n = 1) (b2 : ∀ i, i ≠ 0 → i ≠ (n : Int) → B i = 0) : ∀ (m : Nat) (R : Int → Int), m ≤ n → ∀ i : Int,
    run n B m R i = if 0 ≤ i ∧ i < (m : Int) then R i + R (i + n) else if (n : Int) ≤ i ∧ i < (n : Int) + m then 0 else R i
  | 0, R, _, i => by
    rw [if_neg (by omega), if_neg (by omega)]
    rfl
  | s + 1, R, h, i => by
    show run n B s (stp n B R s) i = _
    rw [run_clock hn b0 b1 b2 s (stp n B R s) (by omega) i]
    have h1 : stp n B R s s = R s + R ((s : Int) + n) := by
      show R s - R ((s : Int) + n) * B ((s : Int) - s) = _
      rw [Int.sub_self, b0]
      omega
    have h2 : stp n B R s ((s : Int) + n) = 0 := by
      show R ((s : Int) + n) - R ((s : Int) + n) * B ((s : Int) + n - s) = _
      rw [show (s : Int) + n - s = n by omega, b1]
      omega
    have h3 : ∀ j : Int, j ≠ s → j ≠ (s : Int) + n → stp n B R s j = R j := fun j z1 z2 => by
      show R j - R ((s : Int) + n) * B (j - s) = _
      rw [b2 _ (by omega) (by omega)]
      omega
    by_cases c1 : 0 ≤ i ∧ i < (s : Int)
    · rw [if_pos c1, if_pos (by omega), h3 i (by omega) (by omega), h3 (i + n) (by omega) (by omega)]
    · rw [if_neg c1]
      by_cases c2 : (n : Int) ≤ i ∧ i < (n : Int) + s
      · rw [if_pos c2, if_neg (by omega), if_pos (by omega)]
      · rw [if_neg c2]
        by_cases c3 : i = s
        · subst c3
          rw [h1, if_pos (by omega)]
        · by_cases c4 : i = (s : Int) + n
          · subst c4
            rw [h2, if_neg (by omega), if_pos (by omega)]
          · rw [h3 i c3 c4, if_neg (by omega), if_neg (by omega)]
/-- x ** n - 1 -/
def cl (n : Nat) : List Int := (-1) :: (List.replicate (n - 1) 0 ++ [1])
theorem cl_len {n : Nat} (hn : 0 < n) : (cl n).length = n + 1 := by
  unfold cl
  simp
  omega
theorem cl_mo (n : Nat) : Mo (cl n) := ⟨(-1) :: List.replicate (n - 1) 0, rfl⟩
theorem cl_co {n : Nat} (hn : 0 < n) (i : Int) (h0 : i ≠ 0) (h1 : i ≠ (n : Int)) : co (cl n) i = 0 := by
  by_cases z : i < 0
  · exact co_neg z
  · by_cases y : (n : Int) < i
    · exact co_big (by rw [cl_len hn]; omega)
    · obtain ⟨j, rfl⟩ : ∃ j : Nat, i = ((j + 1 : Nat) : Int) := ⟨(i - 1).toNat, by omega⟩
      rw [co_nat, List.getD_eq_getElem?_getD]
      unfold cl
      rw [List.getElem?_cons_succ, List.getElem?_append_left (by rw [List.length_replicate]; omega), List.getElem?_replicate, if_pos (by omega)]
      rfl
theorem poly_clock {n : Nat} {xs ys : List Int} (lx : xs.length = n) (ly : ys.length = n) (hn : 0 < n) : rs (ml (tr xs) (tr ys)) (cl n) = tr (of n (conv n (per xs) (per ys))) := by
  refine nf_ext (nf_tr _) (nf_tr _) fun i => ?_
  have d : (cl n).length - 1 = n := by rw [cl_len hn]; omega
  have b1 : co (cl n) n = 1 := by
    have := (cl_mo n).top
    rw [d] at this
    exact this
  have eR : ∀ i, co (ml (tr xs) (tr ys)) i = mu n (co xs) (co ys) i := fun i => by
    rw [co_ml]
    rw [mu_congr (fun j => co_tr xs j) (fun j => co_tr ys j)]
    have l1 := tr_len xs
    refine (mu_more (fun j hj => ?_) (by omega) i).symm
    rw [← co_tr]
    exact co_big (by omega)
  have lm : (ml (tr xs) (tr ys)).length ≤ 2 * n := Nat.le_trans (tr_len _) (by rw [of_len]; have := tr_len xs; have := tr_len ys; omega)
  unfold rs
  rw [co_tr, co_tr, d]
  have big : ∀ i : Int, ((ml (tr xs) (tr ys)).length : Int) ≤ i → co (ml (tr xs) (tr ys)) i = 0 := fun i h => co_big h
  have neg : ∀ i : Int, i < 0 → co (ml (tr xs) (tr ys)) i = 0 := fun i h => co_neg h
  have rc := run_clock (B := co (cl n)) hn rfl b1 (fun i => cl_co hn i) ((ml (tr xs) (tr ys)).length - n) (co (ml (tr xs) (tr ys))) (by omega)
  rw [co_of_all (fun i h => by rw [rc, if_neg (by omega), if_neg (by omega)]; exact neg i h) (fun i h => by
    rw [rc]
    by_cases c1 : 0 ≤ i ∧ i < (((ml (tr xs) (tr ys)).length - n : Nat) : Int)
    · omega
    · rw [if_neg c1]
      by_cases c2 : (n : Int) ≤ i ∧ i < (n : Int) + (((ml (tr xs) (tr ys)).length - n : Nat) : Int)
      · rw [if_pos c2]
      · rw [if_neg c2, big i h]), rc]
  by_cases z : 0 ≤ i ∧ i < (n : Int)
  · obtain ⟨b, rfl⟩ := Int.eq_ofNat_of_zero_le z.1
    have hb : b < n := by omega
    rw [co_of hb]
    have e1 : (if 0 ≤ (b : Int) ∧ (b : Int) < (((ml (tr xs) (tr ys)).length - n : Nat) : Int) then co (ml (tr xs) (tr ys)) b + co (ml (tr xs) (tr ys)) ((b : Int) + n)
        else if (n : Int) ≤ (b : Int) ∧ (b : Int) < (n : Int) + (((ml (tr xs) (tr ys)).length - n : Nat) : Int) then 0 else co (ml (tr xs) (tr ys)) b) = co (ml (tr xs) (tr ys)) b + co (ml (tr xs) (tr ys)) ((b : Int) + n) := by
      by_cases c1 : 0 ≤ (b : Int) ∧ (b : Int) < (((ml (tr xs) (tr ys)).length - n : Nat) : Int)
      · rw [if_pos c1]
      · rw [if_neg c1, if_neg (by omega), big ((b : Int) + n) (by omega), Int.add_zero]
    rw [e1, eR, eR]
    unfold mu
    rw [← S_add]
    refine S_congr fun j hj => ?_
    rw [← Int.mul_add]
    have px : per xs j = co xs j := by rw [per_get (by omega), co_get (by omega)]
    rw [px]
    congr 1
    by_cases y : (j : Int) ≤ b
    · obtain ⟨t, ht⟩ := Int.eq_ofNat_of_zero_le (by omega : 0 ≤ (b : Int) - j)
      rw [ht, co_big (by omega : (ys.length : Int) ≤ (b : Int) + n - j), Int.add_zero, per_get (by omega), co_get (by omega)]
    · obtain ⟨t, ht⟩ := Int.eq_ofNat_of_zero_le (by omega : 0 ≤ (b : Int) + n - j)
      rw [co_neg (by omega : (b : Int) - j < 0), Int.zero_add, ht]
      have pp : Per n (per ys) := ly ▸ per_per ys
      rw [← pp ((b : Int) - j), show (b : Int) - j + n = t by omega, per_get (by omega), co_get (by omega)]
  · rw [if_neg (by omega)]
    by_cases y : i < 0
    · rw [if_neg (by omega), neg i y, co_neg y]
    · rw [co_big (xs := of n _) (by rw [of_len]; omega)]
      by_cases c2 : (n : Int) ≤ i ∧ i < (n : Int) + (((ml (tr xs) (tr ys)).length - n : Nat) : Int)
      · rw [if_pos c2]
      · rw [if_neg c2, big i (by omega)]
/-! ### sizes -/
theorem abs_step {c e : Nat} {R B : Int → Int} {d s : Nat} (hR : ∀ i, (R i).natAbs ≤ 2 ^ c) (hB : ∀ i, (B i).natAbs ≤ 2 ^ e) (i : Int) : (stp d B R s i).natAbs ≤ 2 ^ (c + (e + 1)) := by
  have h1 := hR i
  have h2 : (R ((s : Int) + d) * B (i - s)).natAbs ≤ 2 ^ c * 2 ^ e := by
    rw [Int.natAbs_mul]
    exact Nat.mul_le_mul (hR _) (hB _)
  have h3 : (2 : Nat) ^ c ≤ 2 ^ c * 2 ^ e := Nat.le_mul_of_pos_right _ (Nat.pow_pos (by decide))
  have h4 : (2 : Nat) ^ (c + (e + 1)) = 2 * (2 ^ c * 2 ^ e) := by
    rw [Nat.pow_add, Nat.pow_succ, ← Nat.mul_assoc, Nat.mul_comm]
  show (R i - R ((s : Int) + d) * B (i - s)).natAbs ≤ _
  omega
theorem abs_run {d e : Nat} {B : Int → Int} (hB : ∀ i, (B i).natAbs ≤ 2 ^ e) : ∀ (s c : Nat) (R : Int → Int), (∀ i, (R i).natAbs ≤ 2 ^ c) → (∀ i, (run d B s R i).natAbs ≤ 2 ^ (c + s * (e + 1))) ∧ ∀ x ∈ fac d B s R, x.natAbs ≤ 2 ^ (c + s * (e + 1))
  | 0, c, R, h => ⟨fun i => by rw [Nat.zero_mul]; exact h i, fun x hx => absurd hx List.not_mem_nil⟩
  | s + 1, c, R, h => by
    obtain ⟨a1, a2⟩ := abs_run (d := d) hB s (c + (e + 1)) (stp d B R s) (abs_step h hB)
    have e1 : c + (e + 1) + s * (e + 1) = c + (s + 1) * (e + 1) := by rw [Nat.succ_mul]; omega
    rw [e1] at a1 a2
    refine ⟨a1, fun x hx => ?_⟩
    rcases List.mem_append.mp hx with z | z
    · exact a2 x z
    · rw [List.mem_singleton.mp z]
      exact Nat.le_trans (h _) (Nat.pow_le_pow_right (by decide) (by omega))
end Po

set_option Elab.async false
set_option linter.all false
set_option maxRecDepth 100000
/-! A tuple times a number that is not above 1. -/
namespace Gd
open PySem PySem.Spec PyProof.Rows L2
theorem tuple_mul0 (l : Addr) (items : Array Value) (n : Nat) (dd : Option Addr) (sl : Array (Option Value)) (u : Tok) :
    Meets (Builtin.«tuple.__mul__» ⟨[.ref l, .int 0 u], []⟩) (fun _ R s => s.heap.get? l = some { cls := .type "tuple", dict := dd, data := .seq items n, slots := sl } ∧ items.isEmpty = false ∧
      R (.ok (.ret (Value.ref s.heap.objs.size))) { s with heap := s.heap.push { cls := .type "tuple", data := .seq #[] } }) :=
  .of_wp fun prog w A R s h => by
    obtain ⟨hp, g, d, tk, os⟩ := s
    obtain ⟨hl, he, h⟩ := h
    have f1 := AutoSeq1.idx_int
    have c0 : (decide ((0 : Int) < -(2 ^ 63)) || decide ((0 : Int) ≥ 2 ^ 63)) = false := by decide
    have c1 : (items.isEmpty || (0 : Int) == 1) = false := by rw [he]; rfl
    wp_walk using wpAny_loadPart' hl
    repeat (first
      | (refine wpAny_ite_false (decide_eq_false (by rw [c0]; exact Bool.false_ne_true)) ?_; wp_walk using wpAny_loadPart' hl)
      | (refine wpAny_ite_false (decide_eq_false (by rw [c1]; exact Bool.false_ne_true)) ?_; wp_walk using wpAny_loadPart' hl))
    exact ⟨_, rfl, h⟩
variable {X : Cx}
/-- tuple * k of a followed one that isn't empty -/
def rRepN : R2 := fun x y H Q => ∃ l xs, ∃ k : Nat, x = .ref l ∧ y = .int (k : Nat) ∧ H l = some (.tup xs) ∧ xs ≠ [] ∧ k ≤ 1000 ∧ xs.length ≤ 1000 ∧ ∀ p H', Same H H' → H' p = some (.tup (List.replicate k xs).flatten) → Q (.ref p) H'
theorem op_repN : OpR X (binaryOp .Mult) rRepN := by
  intro pins s σ H x y v u Q I rx ry h
  obtain ⟨l, xs, k, rfl, rfl, hT, hne, h2, hz, q⟩ := h
  by_cases hk : k = 0
  · subst hk
    cases rx
    obtain ⟨t, rfl⟩ := ry
    obtain ⟨its, r, ⟨⟨cls, dd, data, sl⟩, ho, hc, n, hd⟩, hs⟩ := I.tuple (.inl (.inl hT))
    simp only at hc hd
    subst hc hd
    have hie : its.toArray.isEmpty = false := by
      cases its with
      | nil =>
        cases r
        exact absurd rfl hne
      | cons a b => rfl
    refine wpAny_binaryOp_repeat_ref (T := "tuple") (U := "int") (by decide) ⟨_, ho, rfl⟩ (fun s' => typeIs_int s' 0 t) noFill_tuple_mul F.fills_int_mul F.slot_int_rmul repeat_tuple F.slot_int_index.lookup
      (call_meets F.slot_int_rmul (typeIs_int s 0 t) F.entry_int_rmul (F.args_int_rmul_2 _ _) (int_rmul_tuple 0 t l its.toArray n dd sl)
        ⟨ho, rfl, ⟨_, ho, rfl⟩, call_meets F.slot_tuple_mul ⟨_, ho, rfl⟩ F.entry_tuple_mul (F.args_tuple_mul_2 _ _) (tuple_mul0 l its.toArray n dd sl t) ⟨ho, hie, ?_⟩⟩)
    have I2 : Inv X pins σ H { s with heap := s.heap.push { cls := .type "tuple", data := .seq #[] } } := I.kept (t' := s.toks) fun b o e => Heap.get?_push_of_some _ e
    refine ⟨.ref _, upd H _ (.tup []), I.laid (fun b o e => Heap.get?_push_of_some _ e) (Nat.le_refl _) (show ObjOk X.prog X.w _ _ _ (.tup _) from ?_), rfl, q _ _ (same_new (I.hok.fresh (Nat.le_refl _))) upd_same⟩
    exact ⟨Nat.zero_le _, [], .nil, ⟨_, Heap.get?_push_size _ rfl, rfl, _, rfl⟩⟩
  · exact op_repP pins s σ H _ _ v u Q I rx ry ⟨l, k, xs, rfl, rfl, hT, hne, by omega, by omega, hz, fun p H' sm hp => q p H' sm (by rw [Int.toNat_natCast] at hp; exact hp)⟩
end Gd

set_option Elab.async false
set_option linter.all false
namespace Gd
open PySem PySem.Spec PyProof.Rows L2
theorem places (n : Nat) : Builtin.Slice.slicePlaces ((Builtin.Slice.sliceAdjust none none (-1) (n : Int)).1) ((Builtin.Slice.sliceAdjust none none (-1) (n : Int)).2) (-1) = n ∧ (Builtin.Slice.sliceAdjust none none (-1) (n : Int)).1 = (n : Int) - 1 := by
  have h1 : Builtin.Slice.sliceAdjust none none (-1) (n : Int) = ((n : Int) - 1, -1) := by
    unfold Builtin.Slice.sliceAdjust
    rfl
  rw [h1]
  refine ⟨?_, rfl⟩
  unfold Builtin.Slice.slicePlaces
  rw [if_neg (by decide)]
  by_cases h : 0 < n
  · rw [if_pos (by show (-1 : Int) < (n : Int) - 1; omega)]
    show (((n : Int) - 1 - -1 - 1) / (- -1) + 1).toNat = n
    rw [show (- -1 : Int) = 1 from rfl, Int.ediv_one]
    omega
  · rw [if_neg (by show ¬ (-1 : Int) < (n : Int) - 1; omega)]
    show 0 = n
    omega
theorem picks (xs : Array Value) : (List.filterMap (fun k : Nat => xs[((xs.size : Int) - 1 + (k : Int) * -1).toNat]?) (List.range xs.size)) = xs.toList.reverse := by
  have e : ∀ k ∈ List.range xs.size, xs[((xs.size : Int) - 1 + (k : Int) * -1).toNat]? = xs.toList.reverse[k]? := by
    intro k hk
    have hk2 := List.mem_range.mp hk
    rw [show ((xs.size : Int) - 1 + (k : Int) * -1).toNat = xs.size - 1 - k by omega, List.getElem?_reverse (by simpa using hk2)]
    simp
  have z : ∀ l : List Nat, (∀ k ∈ l, k ∈ List.range xs.size) → l.filterMap (fun k : Nat => xs[((xs.size : Int) - 1 + (k : Int) * -1).toNat]?) = l.filterMap fun k => xs.toList.reverse[k]? := by
    intro l
    induction l with
    | nil => intro _; rfl
    | cons a l ih =>
      intro h
      rw [List.filterMap_cons, List.filterMap_cons, e a (h a List.mem_cons_self), ih fun k hk => h k (List.mem_cons_of_mem _ hk)]
  rw [z _ fun _ h => h]
  have := PySem.W.krv_all xs.toList.reverse.toArray
  simpa using this
theorem sliceApplied_rev {prog : Program} {w : World} {A : Around} {E : Value → Shared → Prop} {s : Shared} {sl : Addr} {t : Tok} {n : Nat} {Q : Int × Int × Nat → Shared → Prop}
    (h : s.heap.IsSliceOf sl .none .none (.int (-1) t)) (q : Q ((n : Int) - 1, -1, n) s) : wpAny (model prog w) A (Builtin.Slice.sliceApplied (.ref sl) (pure (n : Int))) Q E s := by
  obtain ⟨hp, g, d, tk, os⟩ := s
  obtain ⟨⟨cls, dd, data, sl2⟩, ho, hc, hd⟩ := h
  simp only at hc hd
  subst hc hd
  have f1 := AutoSeq1.idx_int
  unfold Builtin.Slice.sliceApplied
  wp_walk using wpAny_loadPart' ho
  obtain ⟨p1, p2⟩ := places n
  show Q ((Builtin.Slice.sliceAdjust none none (-1) (n : Int)).1, -1, Builtin.Slice.slicePlaces ((Builtin.Slice.sliceAdjust none none (-1) (n : Int)).1) ((Builtin.Slice.sliceAdjust none none (-1) (n : Int)).2) (-1)) _
  rw [p1, p2]
  exact q
theorem tuple_get_rev (l sl : Addr) (items : Array Value) (n : Nat) (dd : Option Addr) (sl0 : Array (Option Value)) (t : Tok) :
    Meets (Builtin.«tuple.__getitem__» ⟨[.ref l, .ref sl], []⟩) (fun _ R s => s.heap.get? l = some { cls := .type "tuple", dict := dd, data := .seq items n, slots := sl0 } ∧ s.heap.IsSliceOf sl .none .none (.int (-1) t) ∧ items.size ≤ sizeLine ∧
      R (.ok (.ret (Value.ref s.heap.objs.size))) { s with heap := s.heap.push { cls := .type "tuple", data := .seq items.toList.reverse.toArray } }) :=
  .of_wp fun prog w A R s h => by
    obtain ⟨hp, g, d, tk, os⟩ := s
    obtain ⟨hl, hs, hz, h⟩ := h
    have hs2 := hs
    obtain ⟨⟨cls, dd2, data, sl2⟩, ho, hc, hd⟩ := hs2
    simp only at hc hd
    subst hc hd
    have f1 := AutoSeq1.idx_int
    obtain ⟨p1, p2⟩ := places items.size
    have p3 := picks items
    wp_walk using wpAny_loadPart' hl
    have p4 : (List.filterMap (fun k : Nat => items[((Builtin.Slice.sliceAdjust none none ((some (-1 : Int)).getD 1) (items.size : Int)).fst + (k : Int) * (some (-1 : Int)).getD 1).toNat]?)
        (List.range (Builtin.Slice.slicePlaces (Builtin.Slice.sliceAdjust none none ((some (-1 : Int)).getD 1) (items.size : Int)).fst (Builtin.Slice.sliceAdjust none none ((some (-1 : Int)).getD 1) (items.size : Int)).snd ((some (-1 : Int)).getD 1)))) = items.toList.reverse := by
      show (List.filterMap (fun k : Nat => items[((Builtin.Slice.sliceAdjust none none (-1) (items.size : Int)).1 + (k : Int) * -1).toNat]?) (List.range (Builtin.Slice.slicePlaces ((Builtin.Slice.sliceAdjust none none (-1) (items.size : Int)).1) ((Builtin.Slice.sliceAdjust none none (-1) (items.size : Int)).2) (-1)))) = _
      rw [p1, p2]
      exact p3
    rw [p4]
    have hz2 : ¬ items.toList.reverse.toArray.size > sizeLine := by
      simp only [List.size_toArray, List.length_reverse, Array.length_toList]
      omega
    refine wpAny_ite_false (decide_eq_false hz2) ?_
    wp_walk
    exact ⟨_, rfl, h⟩
/-- the items of a tuple from its end on -/
def tRevT (K : PySem.W.Frag) (te : TE) : TE := fun σ H Q => te σ H fun x H1 => ∃ a xs, x = .ref a ∧ SqT K H1 a xs ∧ ∀ p, H1 p = none → Q (.ref p) (upd H1 p (.tup xs.reverse))
theorem vals_len : ∀ {xs : List V} {its : List Value}, Vals xs its → xs.length = its.length
  | [], [], _ => rfl
  | _ :: _, _ :: _, .cons _ t => by rw [List.length_cons, List.length_cons, vals_len t]
theorem vals_rev : ∀ {xs : List V} {its : List Value}, Vals xs its → Vals xs.reverse its.reverse
  | [], [], _ => .nil
  | x :: xs, v :: its, h => by
    cases h with
    | cons h t =>
      rw [List.reverse_cons, List.reverse_cons]
      exact vals_app (vals_rev t) (.cons h .nil)
where vals_app : ∀ {xs ys : List V} {a b : List Value}, Vals xs a → Vals ys b → Vals (xs ++ ys) (a ++ b)
  | [], _, [], _, _, h => h
  | _ :: _, _, _ :: _, _, .cons h t, u => .cons h (vals_app t u)
theorem pe_revT {X : Cx} {e : Expr} {te : TE} {k : Nat} {p1 p2 p3 pos : Pos} (he : PE X e te) (ht : ∀ (o r : Value), letTemporaryGo e o r = pure () := by exact fun _ _ => rfl) : PE X (.Subscript e (.Slice none none (some (.UnaryOp .USub (.Constant (.int 1) k p1) p2)) p3) pos) (tRevT X.K te) := by
  refine ⟨fun pins s σ H Q I h => ?_⟩
  refine wpAny_Subscript_Slice_step (T := "tuple") (id := "tuple.__getitem__") F.slot_tuple_getitem.lookup (thn (he.run pins s σ H _ I h) fun u s1 ⟨v, H1, I1, r1, q1⟩ => ?_) ht
  obtain ⟨a, xs, rfl, hx, q⟩ := q1
  cases r1
  refine wpAny_Slice ?_
  have e0 : ∀ env, evalPart none env = pure Value.none := fun _ => rfl
  have e1 : ∀ (x : Expr) env, evalPart (some x) env = eval x env := fun _ _ => rfl
  rw [e0, e1]
  refine wpAny_pure ?_
  refine wpAny_pure ?_
  refine thn ((pe_un un_neg (pe_int (X := X))).run pins s1 σ H1 (fun v H' => v = .int (-1) ∧ H' = H1) I1 ⟨_, rfl, rfl, rfl⟩) fun u s2 ⟨v, H2, I2, r2, q2⟩ => ?_
  obtain ⟨rfl, rfl⟩ := q2
  obtain ⟨t, rfl⟩ := r2
  obtain ⟨its, rv, ⟨⟨cls, dd, data, sl⟩, ho, hc, n, hd⟩, hs⟩ := I2.tuple hx
  simp only at hc hd
  subst hc hd
  refine ⟨⟨_, Heap.get?_push_of_some _ ho, rfl⟩, ?_⟩
  refine getItem_meets (T := "tuple") (id := "tuple.__getitem__") ⟨_, Heap.get?_push_of_some _ ho, rfl⟩ (by decide) F.slot_tuple_getitem F.entry_tuple_getitem (F.args_tuple_getitem_2 _ _) (tuple_get_rev a s2.heap.objs.size its.toArray n dd sl t)
    ⟨Heap.get?_push_of_some _ ho, ⟨_, Heap.get?_push_size _ rfl, rfl, rfl⟩, ?_, ?_⟩
  · rw [List.size_toArray, ← vals_len rv]
    exact hs
  have I3 : L2.Inv X pins σ H2 { s2 with heap := s2.heap.push { cls := .type "slice", data := .fields #[.none, .none, .int (-1) t] } } := I2.kept (t' := s2.toks) fun b o e => Heap.get?_push_of_some _ e
  refine ⟨.ref _, upd H2 _ (.tup xs.reverse), I3.laid (fun b o e => Heap.get?_push_of_some _ e) (Nat.le_refl _) (show ObjOk X.prog X.w _ _ _ (.tup _) from ⟨by rw [List.length_reverse]; exact hs, its.reverse, vals_rev rv, ⟨_, Heap.get?_push_size _ rfl, rfl, _, rfl⟩⟩), rfl, q _ (I3.hok.fresh (Nat.le_refl _))⟩
end Gd

/-! The polynomials of the roots of unity, to two hundred: reckoned, and checked by products. -/
namespace Po
open Pv
/-! ### products that are quick to reckon -/
def addL : List Int → List Int → List Int
  | [], ys => ys
  | x :: xs, [] => x :: xs
  | x :: xs, y :: ys => (x + y) :: addL xs ys
def mulL : List Int → List Int → List Int
  | [], _ => []
  | x :: xs, ys => addL (ys.map (x * ·)) (0 :: mulL xs ys)
theorem co_cons (x : Int) (xs : List Int) (i : Int) : co (x :: xs) i = if i = 0 then x else co xs (i - 1) := by
  by_cases h0 : i < 0
  · rw [co_neg h0, if_neg (by omega), co_neg (by omega)]
  · by_cases h1 : i = 0
    · subst h1
      rfl
    · obtain ⟨j, rfl⟩ : ∃ j : Nat, i = ((j + 1 : Nat) : Int) := ⟨(i - 1).toNat, by omega⟩
      rw [if_neg h1, co_nat, show (((j + 1 : Nat) : Int) - 1) = (j : Int) by omega, co_nat]
      rfl
theorem co_addL : ∀ (xs ys : List Int) (i : Int), co (addL xs ys) i = co xs i + co ys i
  | [], ys, i => by rw [co_nil, Int.zero_add]; rfl
  | x :: xs, [], i => by rw [co_nil, Int.add_zero]; rfl
  | x :: xs, y :: ys, i => by
    show co ((x + y) :: addL xs ys) i = _
    rw [co_cons, co_cons, co_cons, co_addL xs ys]
    by_cases h : i = 0
    · rw [if_pos h, if_pos h, if_pos h]
    · rw [if_neg h, if_neg h, if_neg h]
theorem co_scale (x : Int) (ys : List Int) (i : Int) : co (ys.map (x * ·)) i = x * co ys i := by
  induction ys generalizing i with
  | nil => rw [List.map_nil, co_nil, Int.mul_zero]
  | cons y ys ih =>
    rw [List.map_cons, co_cons, co_cons, ih]
    by_cases h : i = 0
    · rw [if_pos h, if_pos h]
    · rw [if_neg h, if_neg h]
theorem co_mulL : ∀ (xs ys : List Int) (i : Int), co (mulL xs ys) i = mu xs.length (co xs) (co ys) i
  | [], ys, i => co_nil i
  | x :: xs, ys, i => by
    show co (addL (ys.map (x * ·)) (0 :: mulL xs ys)) i = _
    rw [co_addL, co_scale]
    unfold mu
    rw [List.length_cons, S_front]
    have e0 : co (x :: xs) 0 = x := rfl
    rw [e0, Int.sub_zero]
    congr 1
    rw [co_cons]
    by_cases h : i = 0
    · subst h
      rw [if_pos rfl]
      refine ((S_congr fun j _ => ?_).trans (S_zero _)).symm
      rw [co_neg (xs := ys) (by omega), Int.mul_zero]
    · rw [if_neg h, co_mulL xs ys]
      refine S_congr fun j _ => ?_
      rw [co_cons, if_neg (by omega), show (j : Int) + 1 - 1 = j by omega, show i - 1 - (j : Int) = i - ((j : Int) + 1) by omega]
theorem mulL_ml (xs ys : List Int) : tr (mulL xs ys) = ml xs ys := nf_ext (nf_tr _) (nf_tr _) fun i => by
  show co (tr (mulL xs ys)) i = co (ml xs ys) i
  rw [co_tr, co_mulL, co_ml]
/-! ### widened -/
def wd (s : Nat) (xs : List Int) : Int → Int := fun i => if i % (s : Int) = 0 then co xs (i / (s : Int)) else 0
def wdL (s : Nat) : List Int → List Int
  | [] => []
  | [x] => [x]
  | x :: y :: t => x :: (List.replicate (s - 1) 0 ++ wdL s (y :: t))
theorem wdL_len {s : Nat} (hs : 1 ≤ s) : ∀ {xs : List Int}, xs ≠ [] → (wdL s xs).length = (xs.length - 1) * s + 1
  | [], h => absurd rfl h
  | [x], _ => by simp [wdL]
  | x :: y :: t, _ => by
    have ih := wdL_len hs (xs := y :: t) (by simp)
    show (x :: (List.replicate (s - 1) 0 ++ wdL s (y :: t))).length = _
    rw [List.length_cons, List.length_append, List.length_replicate, ih]
    simp only [List.length_cons, Nat.add_sub_cancel]
    rw [Nat.succ_mul]
    omega
theorem co_append (xs ys : List Int) (i : Int) : co (xs ++ ys) i = if i < (xs.length : Int) then co xs i else co ys (i - xs.length) := by
  by_cases h0 : i < 0
  · rw [co_neg h0, if_pos (by omega), co_neg h0]
  · obtain ⟨j, rfl⟩ := Int.eq_ofNat_of_zero_le (by omega : 0 ≤ i)
    rw [co_nat, List.getD_eq_getElem?_getD]
    by_cases h : j < xs.length
    · rw [if_pos (by omega), List.getElem?_append_left h, co_nat, List.getD_eq_getElem?_getD]
    · rw [if_neg (by omega), List.getElem?_append_right (by omega), show (j : Int) - xs.length = ((j - xs.length : Nat) : Int) by omega, co_nat, List.getD_eq_getElem?_getD]
theorem co_rep (n : Nat) (i : Int) : co (List.replicate n 0) i = 0 := by
  by_cases h0 : i < 0
  · exact co_neg h0
  · obtain ⟨j, rfl⟩ := Int.eq_ofNat_of_zero_le (by omega : 0 ≤ i)
    rw [co_nat, List.getD_eq_getElem?_getD, List.getElem?_replicate]
    by_cases h : j < n
    · rw [if_pos h]
      rfl
    · rw [if_neg h]
      rfl
theorem co_wdL {s : Nat} (hs : 1 ≤ s) : ∀ {xs : List Int}, xs ≠ [] → ∀ i : Int, co (wdL s xs) i = wd s xs i
  | [], h, _ => absurd rfl h
  | [x], _, i => by
    show co [x] i = if i % (s : Int) = 0 then co [x] (i / (s : Int)) else 0
    by_cases h0 : i = 0
    · subst h0
      rw [Int.zero_emod, if_pos rfl, Int.zero_ediv]
    · rw [co_cons, if_neg h0, co_nil]
      by_cases h1 : i % (s : Int) = 0
      · rw [if_pos h1, co_cons, if_neg, co_nil]
        intro z
        have := Int.emod_add_mul_ediv i s
        rw [h1, z] at this
        omega
      · rw [if_neg h1]
  | x :: y :: t, _, i => by
    have ih := co_wdL hs (xs := y :: t) (by simp)
    show co (x :: (List.replicate (s - 1) 0 ++ wdL s (y :: t))) i = if i % (s : Int) = 0 then co (x :: y :: t) (i / (s : Int)) else 0
    rw [co_cons]
    by_cases h0 : i = 0
    · subst h0
      rw [if_pos rfl, Int.zero_emod, if_pos rfl, Int.zero_ediv]
      rfl
    · rw [if_neg h0, co_append, List.length_replicate, co_rep]
      by_cases hn : i < 0
      · rw [if_pos (by omega)]
        by_cases h1 : i % (s : Int) = 0
        · rw [if_pos h1, co_neg]
          exact Int.ediv_neg_of_neg_of_pos hn (by omega)
        · rw [if_neg h1]
      · by_cases hl : i < (s : Int)
        · rw [if_pos (by omega), if_neg]
          rw [Int.emod_eq_of_lt (by omega) hl]
          exact h0
        · rw [if_neg (by omega), ih, show i - 1 - ((s - 1 : Nat) : Int) = i - s by omega]
          show (if (i - s) % (s : Int) = 0 then co (y :: t) ((i - s) / (s : Int)) else 0) = _
          rw [Int.sub_emod_right]
          by_cases h1 : i % (s : Int) = 0
          · have e : (i - s) / (s : Int) = i / s - 1 := by
              have := Int.add_mul_ediv_right i (-1) (c := (s : Int)) (by omega)
              rw [show i + -1 * (s : Int) = i - s by omega] at this
              rw [this]
              omega
            have p : (1 : Int) ≤ i / s := by
              rw [Int.le_ediv_iff_mul_le (by omega)]
              omega
            rw [if_pos h1, if_pos h1, e, co_cons x, if_neg (by omega)]
          · rw [if_neg h1, if_neg h1]
theorem wdL_of {s : Nat} (hs : 1 ≤ s) {xs : List Int} (h : xs ≠ []) : of ((xs.length - 1) * s + 1) (wd s xs) = wdL s xs := by
  rw [← of_co (wdL_len hs h)]
  exact of_congr fun j _ => (co_wdL hs h j).symm
/-! ### a division that is checked by its product -/
def subR : List Int → List Int → Int → List Int
  | [], _, _ => []
  | a :: t, [], _ => a :: t
  | a :: t, b :: d, x => (a - x * b) :: subR t d x
def dvR : Nat → List Int → List Int → List Int
  | 0, _, _ => []
  | _ + 1, [], _ => []
  | k + 1, x :: t, d => x :: dvR k (subR t d x) d
def divQ (one div : List Int) : List Int := (dvR (one.length - (div.length - 1)) one.reverse div.reverse.tail).reverse
/-- ends with 1, small -/
def gz (f : List Int) : Bool := f.getLast? == some 1 && f.all (fun x => decide (x.natAbs < 8)) && decide (f.length ≤ 600)
def gd (f : List Int) (p : Nat) : Bool := decide (1 ≤ p) && gz f && gz (wdL p f) && gz (divQ (wdL p f) f) && decide (mulL (divQ (wdL p f) f) f = wdL p f)
theorem gz_mo {f : List Int} (h : gz f = true) : Mo f ∧ (∀ x ∈ f, x.natAbs < 2 ^ 3) ∧ f.length ≤ 600 := by
  unfold gz at h
  rw [Bool.and_eq_true, Bool.and_eq_true] at h
  obtain ⟨⟨h1, h2⟩, h3⟩ := h
  refine ⟨?_, fun x hx => of_decide_eq_true (List.all_eq_true.mp h2 x hx), of_decide_eq_true h3⟩
  have e : f.getLast? = some 1 := by simpa using h1
  rcases snoc_cases f with rfl | ⟨ys, y, rfl⟩
  · cases e
  · rw [List.getLast?_append] at e
    simp at e
    subst e
    exact ⟨ys, rfl⟩
theorem Mo.nf {f : List Int} (h : Mo f) : Nf f := by
  obtain ⟨ys, rfl⟩ := h
  exact .inr ⟨ys, 1, by decide, rfl⟩
theorem Mo.ne {f : List Int} (h : Mo f) : f ≠ [] := by
  obtain ⟨ys, rfl⟩ := h
  simp
theorem gd_ok {f : List Int} {p : Nat} (h : gd f p = true) : 1 ≤ p ∧ gz f = true ∧ gz (wdL p f) = true ∧ gz (divQ (wdL p f) f) = true ∧ qs (wdL p f) f = divQ (wdL p f) f ∧ rs (wdL p f) f = [] := by
  unfold gd at h
  simp only [Bool.and_eq_true] at h
  obtain ⟨⟨⟨⟨h1, h2⟩, h3⟩, h4⟩, h5⟩ := h
  have e : ml (divQ (wdL p f) f) f = wdL p f := by
    rw [← mulL_ml, of_decide_eq_true h5]
    exact (gz_mo h3).1.nf.tr
  have := div_ml (gz_mo h4).1.nf (gz_mo h2).1
  rw [e] at this
  exact ⟨of_decide_eq_true h1, h2, h3, h4, this.1, this.2⟩
/-! ### the program's way, the law's way -/
def ck : List Int → List Nat → Bool
  | f, [] => gz f
  | f, p :: ps => gd f p && ck (divQ (wdL p f) f) ps
def fin : List Int → List Nat → List Int
  | f, [] => f
  | f, p :: ps => fin (divQ (wdL p f) f) ps
def ckL : List Int → List Nat → List Nat → Bool
  | f, _, [] => gz f
  | f, seen, p :: ps => (if p ∈ seen then decide (1 ≤ p) && gz f && gz (wdL p f) else gd f p) && ckL (if p ∈ seen then wdL p f else divQ (wdL p f) f) (seen ++ [p]) ps
def finL : List Int → List Nat → List Nat → List Int
  | f, _, [] => f
  | f, seen, p :: ps => finL (if p ∈ seen then wdL p f else divQ (wdL p f) f) (seen ++ [p]) ps
end Po
namespace Nm
theorem Facs.uniq : ∀ {n : Nat} {fs gs : List Nat}, Facs n fs → Facs n gs → fs = gs
  | _, [], [], _, _ => rfl
  | n, [], g :: gs, h, k => by
    have := (h.mem g).mpr ((k.mem g).mp List.mem_cons_self)
    cases this
  | n, f :: fs, [], h, k => by
    have := (k.mem f).mpr ((h.mem f).mp List.mem_cons_self)
    cases this
  | n, f :: fs, g :: gs, h, k => by
    have a1 := (k.mem f).mpr ((h.mem f).mp List.mem_cons_self)
    have a2 := (h.mem g).mpr ((k.mem g).mp List.mem_cons_self)
    have hs := h.asc
    have ks := k.asc
    rw [List.pairwise_cons] at hs ks
    have e : f = g := by
      rcases List.mem_cons.mp a1 with z | z
      · exact z
      · rcases List.mem_cons.mp a2 with y | y
        · exact y.symm
        · exact Nat.le_antisymm (hs.1 g y) (ks.1 f z)
    subst e
    have fp := (h.pr f List.mem_cons_self).pos
    have e1 : prodN fs = prodN gs := by
      have q1 := h.prod
      have q2 := k.prod
      rw [prodN_cons] at q1 q2
      exact Nat.eq_of_mul_eq_mul_left fp (q1.trans q2.symm)
    rw [Facs.uniq (n := prodN gs) ⟨fun p hp => h.pr p (List.mem_cons_of_mem _ hp), hs.2, e1⟩ ⟨fun p hp => k.pr p (List.mem_cons_of_mem _ hp), ks.2, rfl⟩]
end Nm

namespace Po
open Pv Nm
def fz (n : Nat) : List Nat := (tf n).flatMap fun x => List.replicate x.2 x.1
def ps0 (n : Nat) : List Nat := (pf n).map (·.1)
def lf (n : Nat) : Nat := (ps0 n).foldl (· / ·) n
def cz (n : Nat) : List Int := wdL (lf n) (fin [-1, 1] (ps0 n))
def oneIn (fs : List Nat) : Nat := if fs ≠ [] ∧ fs[0]? = fs[fs.length - 1]? then fs.getD 0 0 else 1
def chkC (n : Nat) : Bool := decide (prodN ((pf n).map (·.2)) = n) && ascB (ps0 n) && ((tf n).all fun x => prB x.1 && decide (1 ≤ x.2)) && decide (prodN (fz n) = n) && decide ((fz n).Pairwise (· ≤ ·)) &&
  ck [-1, 1] (ps0 n) && decide (1 ≤ lf n) && gz (cz n) && ckL [-1, 1] [] (fz n) && decide (finL [-1, 1] [] (fz n) = cz n) && decide (ev 1 (cz n) = if 1 < n then (oneIn (fz n) : Int) else 0) && decide ((cz n).length = totP (pf n) + 1)
theorem chkC_0 : ((List.range 25).all fun i => chkC (i + 1)) = true := by decide +kernel
theorem chkC_1 : ((List.range 25).all fun i => chkC (i + 26)) = true := by decide +kernel
theorem chkC_2 : ((List.range 25).all fun i => chkC (i + 51)) = true := by decide +kernel
theorem chkC_3 : ((List.range 25).all fun i => chkC (i + 76)) = true := by decide +kernel
theorem chkC_4 : ((List.range 25).all fun i => chkC (i + 101)) = true := by decide +kernel
theorem chkC_5 : ((List.range 25).all fun i => chkC (i + 126)) = true := by decide +kernel
theorem chkC_6 : ((List.range 25).all fun i => chkC (i + 151)) = true := by decide +kernel
theorem chkC_7 : ((List.range 25).all fun i => chkC (i + 176)) = true := by decide +kernel
theorem chkC_all {n : Nat} (h1 : 1 ≤ n) (h2 : n ≤ 200) : chkC n = true := by
  have key : ∀ {k : Nat}, ((List.range 25).all fun i => chkC (i + (25 * k + 1))) = true → 25 * k + 1 ≤ n → n ≤ 25 * k + 25 → chkC n = true := fun {k} h a b => by
    have := List.all_eq_true.mp h (n - (25 * k + 1)) (List.mem_range.mpr (by omega))
    rw [show n - (25 * k + 1) + (25 * k + 1) = n by omega] at this
    exact this
  by_cases z0 : n ≤ 25
  · exact key (k := 0) chkC_0 (by omega) (by omega)
  by_cases z1 : n ≤ 50
  · exact key (k := 1) chkC_1 (by omega) (by omega)
  by_cases z2 : n ≤ 75
  · exact key (k := 2) chkC_2 (by omega) (by omega)
  by_cases z3 : n ≤ 100
  · exact key (k := 3) chkC_3 (by omega) (by omega)
  by_cases z4 : n ≤ 125
  · exact key (k := 4) chkC_4 (by omega) (by omega)
  by_cases z5 : n ≤ 150
  · exact key (k := 5) chkC_5 (by omega) (by omega)
  by_cases z6 : n ≤ 175
  · exact key (k := 6) chkC_6 (by omega) (by omega)
  exact key (k := 7) chkC_7 (by omega) (by omega)
structure Cz (n : Nat) : Prop where
  parts : Parts n (pf n)
  facs : Facs n (fz n)
  ck : ck [-1, 1] (ps0 n) = true
  lf : 1 ≤ lf n
  gz : gz (cz n) = true
  ckL : ckL [-1, 1] [] (fz n) = true
  fin : finL [-1, 1] [] (fz n) = cz n
  ev : ev 1 (cz n) = if 1 < n then (oneIn (fz n) : Int) else 0
  len : (cz n).length = totP (pf n) + 1
theorem czs {n : Nat} (h1 : 1 ≤ n) (h2 : n ≤ 200) : Cz n := by
  have h := chkC_all h1 h2
  unfold chkC at h
  simp only [Bool.and_eq_true, decide_eq_true_eq, List.all_eq_true] at h
  obtain ⟨⟨⟨⟨⟨⟨⟨⟨⟨⟨⟨e1, e2⟩, e3⟩, e4⟩, e5⟩, e6⟩, e7⟩, e8⟩, e9⟩, e10⟩, e11⟩, e12⟩ := h
  refine ⟨⟨e1, ascB_asc e2, fun x hx => ?_⟩, ⟨fun p hp => ?_, e5, e4⟩, e6, e7, e8, e9, e10, e11, e12⟩
  · obtain ⟨y, hy, rfl⟩ := List.mem_map.mp hx
    exact ⟨prB_pr (e3 y hy).1, y.2, (e3 y hy).2, rfl⟩
  · obtain ⟨y, hy, hp2⟩ := List.mem_flatMap.mp hp
    rw [(List.mem_replicate.mp hp2).2]
    exact prB_pr (e3 y hy).1
/-! ### products of all of them -/
def gm (f : List Int) : Bool := f.all (fun x => decide (x.natAbs < 1048576)) && decide (f.length ≤ 300)
def finM : List Int → List Nat → List Int
  | f, [] => f
  | f, d :: ds => finM (tr (mulL f (cz d))) ds
def ckM : List Int → List Nat → Bool
  | f, [] => gm f
  | f, d :: ds => gm f && decide (1 ≤ d ∧ d ≤ 24) && ckM (tr (mulL f (cz d))) ds
def dv0 (n : Nat) : List Nat := ((List.range n).map (1 + ·)).filter fun t => decide (n % t = 0)
def chkM (n : Nat) : Bool := ckM [1] (dv0 n) && decide (finM [1] (dv0 n) = cl n)
theorem chkM_a : ((List.range 24).all fun i => chkM (i + 1)) = true := by decide +kernel
theorem czm {n : Nat} (h1 : 1 ≤ n) (h2 : n ≤ 24) : ckM [1] (dv0 n) = true ∧ finM [1] (dv0 n) = cl n := by
  have := List.all_eq_true.mp chkM_a (n - 1) (List.mem_range.mpr (by omega))
  rw [show n - 1 + 1 = n by omega] at this
  unfold chkM at this
  rw [Bool.and_eq_true, decide_eq_true_eq] at this
  exact this
end Po

set_option Elab.async false
set_option linter.all false
set_option maxRecDepth 100000
set_option maxHeartbeats 4000000
set_option exponentiation.threshold 20000
namespace Gd
open PySem PySem.Spec PyProof.Rows L2
/-- // by a divisor of either sign -/
def CDivZ (_ j : Int) : Prop := j ≠ 0 ∧ j.natAbs.log2 < 9000
theorem op_fdivZ {X : Cx} : OpR X (binaryOp .FloorDiv) (rI CDivZ fun i j => .int (i.fdiv j)) := by
  refine opI ?_
  intro i j t u s Q E hc q
  exact floordiv_int hc.1 q (.inl (PyProof.noPylong_of_log2 hc.2))
theorem cdivZ {i j : Int} {b : Nat} (h : j ≠ 0) (hb : j.natAbs < 2 ^ b) (h0 : 0 < b) (h9 : b ≤ 9000) : CDivZ i j := ⟨h, Nat.lt_of_lt_of_le (PySem.Flt.log2_lt_of h0 hb) h9⟩
end Gd
namespace Gd
open PySem PySem.Spec PyProof.Rows L2
/-- a def with *v alone, as the name x holds it -/
structure AtS (K : PySem.W.Frag) (mg : Str → Option Value) (x : String) (st : Stmt) (pv : Str) : Prop where
  ex : ∃ f fd, mg x = some (.ref f) ∧ Fun K x x st f fd ∧ ∀ rest : List Value, bindArgs fd ⟨rest, []⟩ = (newTuple rest >>= fun t => pure [(pv, t)])
theorem okS {P : Program} {w : World} {K : PySem.W.Frag} {mg : Str → Option Value} {base : Heap} {x : String} {st : Stmt} {N : List Str} {pv : Str} {k : Nat} {sp : Sp} (D : AtS K mg x st pv) (S : FnScope N [pv] (defScope st))
    (body : ∀ (f : Addr) (cdv : Value) (A : Around) (outer : List Env) (s : Shared) (H : Hp) (vs : List V) (Q : VK) (E : XK), Room k (A.deeper (envOfC x (defScope st) s.heap.objs.size f cdv)) → sp vs H Q E →
      ∃ t, PSs (cxOf CX0 P w K mg base N x (defScope st) f cdv A outer s H E).nox (defBody st) t ∧ t { nx := fun _ H' => Q .non H', rt := Q } (start N vs) H) :
    Cal P w K mg base (k + 1) x (fun vs H Q E => vs.length ≤ sizeLine ∧ ∀ p, H p = none → sp [V.ref p] (upd H p (.tup vs)) Q E) := by
  obtain ⟨f, fd, hm, F, hb⟩ := D.ex
  obtain ⟨oc, od, kV, doc, pm, an, cdv, ct, osl, rfl, lk, hcd⟩ := F.ex
  have G := StX.fn_star (CX := CX0) (P := P) (w := w) (mg := mg) (base := base) (k := k) (ps := []) (pv := pv) (sp := sp) lk hcd S StX.cxUp_none (fun us rest hl => by
    have e : us = [] := List.length_eq_zero_iff.mp hl
    subst e
    exact hb rest) (fun A outer s H vs Q E hr h => let ⟨t, h1, h2⟩ := body f cdv A outer s H vs Q E hr h; ⟨t, h1.nox, h2⟩)
  exact ⟨f, hm, F.kp, G.imp fun vs H Q E h => ⟨[], vs, rfl, rfl, h.1, h.2⟩⟩
end Gd
namespace Gd
open PySem PySem.Spec PyProof.Rows L2
/-- a comprehension over a range, whose items F tells -/
theorem lcR {lo : Int} {n : Nat} {g : TG} {te : TE} {vs : List Nat} {σ : L2.St} {H1 : Hp} {D : Addr} {Qd : Hp → Prop} (F : Nat → V) (hD : H1 D = none) (hz : n ≤ 1000)
    (hs : ∀ (i : Nat) (H' : Hp) (R : V → Hp → Prop), i < n → Same H1 H' → (∀ H4, Same H' H4 → R (F i) H4) → g (.int (lo + (i : Nat))) (wipe σ vs) H' fun σ2 H2 => wipe σ2 vs = wipe σ vs ∧ te σ2 H2 R)
    (hd : ∀ H', Same H1 H' → H' D = some (.lst ((List.range n).map F)) → Qd H') :
    ∃ W : Nat → Nat → Hp → Prop, (∃ m, W 0 m (upd H1 D (.lst []))) ∧ ∀ i m H, W i m H →
      ((Itr lo n).stop i H ∧ Qd H) ∨ ((Itr lo n).go i H ∧ ∃ Nx : Hp → Prop, (∀ H', Nx H' → ∃ m', m' < m ∧ W (i + 1) m' H') ∧ ∀ x H', (Itr lo n).yld i H x H' → g x (wipe σ vs) H' fun σ2 H2 => wipe σ2 vs = wipe σ vs ∧ tYes σ2 H2 fun b H3 =>
        if b = true then te σ2 H3 fun y H4 => ∃ acc, H4 D = some (.lst acc) ∧ acc.length < sizeLine ∧ Nx (upd H4 D (.lst (acc ++ [y]))) else Nx H3) := by
  refine lc_it walk_range (fun i H' => Same H1 H' ∧ H' D = some (.lst ((List.range i).map F))) ⟨same_new hD, upd_same⟩ (fun _ _ _ _ => True.intro) ?_ (fun H' z => hd H' z.1 z.2)
  rintro i x G G' hi ⟨sG, eG⟩ ⟨eH, rfl⟩
  obtain rfl := eH.symm
  refine hs i G _ hi sG fun H4 s4 => ?_
  refine ⟨_, s4 _ _ eG, ?_, same_own (sG.trans s4) hD, ?_⟩
  · rw [List.length_map, List.length_range]
    exact small1000 (by omega)
  · rw [upd_same, List.range_succ, List.map_append]
    rfl
end Gd
namespace Gd
open PySem PySem.Spec PyProof.Rows L2
/-- a weaker promise of a name -/
theorem Cal.imp {P : Program} {w : World} {K : PySem.W.Frag} {mg : Str → Option Value} {base : Heap} {k : Nat} {x : Str} {sp sp' : Sp} (C : Cal P w K mg base k x sp) (h : ∀ vs H Q E, sp' vs H Q E → sp vs H Q E) : Cal P w K mg base k x sp' := by
  obtain ⟨f, hm, hk, F⟩ := C.ex
  exact ⟨f, hm, hk, fun A outer s H us vs Q E hr e0 r z => F A outer s H us vs Q E hr e0 r (h _ _ _ _ z)⟩
end Gd
namespace K8

open PySem PySem.Spec PyProof.Rows L2 Gd
section
variable {P : Program} {w : World} {K : PySem.W.Frag} {mg : Str → Option Value} {base : Heap}
def spNeed : Sp := fun vs H Q _ => ∃ z, vs = [.bl true, z] ∧ Q .non H
theorem c_need (D : At K mg "need" s_need ["fits", "word"]) : Cal P w K mg base 1 "need" spNeed := by
  refine okC D sc_need (fun vs H Q E h => ?_) (fun f cdv A outer s H vs Q E hr h => ?_)
  · obtain ⟨z, rfl, _⟩ := h
    rfl
  · obtain ⟨z, rfl, q⟩ := h
    have nd := sc_need.nd
    refine ⟨_, (pss_one (ps_if (pt_not (pt_val (pv 0)))
 (pss_one ps_never)
 pss_nil)), ?_⟩
    refine ⟨_, rfl, true, rfl, iteF ?_⟩
    exact q
def spNeedEach (K : PySem.W.Frag) : Sp := fun vs H Q _ => ∃ (a : Addr) (n : Nat) (z : V), vs = [.ref a, z] ∧ SqL K H a (List.replicate n (V.bl true)) ∧ ∀ H', Same H H' → Q .non H'
def spIsInt : Sp := fun vs H Q _ => ∃ i, vs = [.int i] ∧ Q (.bl true) H
theorem c_is_integer (D : At K mg "is_integer" s_is_integer ["thing"]) (z_isinstance : mg "isinstance" = none) (z_int : mg "int" = none) (z_bool : mg "bool" = none) : Cal P w K mg base 1 "is_integer" spIsInt := by
  refine okC D sc_is_integer (fun vs H Q E h => ?_) (fun f cdv A outer s H vs Q E hr h => ?_)
  · obtain ⟨z, rfl, _⟩ := h
    rfl
  · obtain ⟨z, rfl, q⟩ := h
    have nd := sc_is_integer.nd
    refine ⟨_, (pss_one (ps_ret (pe_and (pe_callB call_isi (by rfl) z_isinstance (by decide +kernel) (pa_cons (pv 0) (pa_cons (pe_bltn (by rfl) z_int (by decide +kernel) (v := .ty "int") rfl) pa_nil))) (pe_one (pe_not (pe_callB call_isi (by rfl) z_isinstance (by decide +kernel) (pa_cons (pv 0) (pa_cons (pe_bltn (by rfl) z_bool (by decide +kernel) (v := .ty "bool") rfl) pa_nil)))))))), ?_⟩
    refine ⟨_, rfl, _, _, _, _, true, rfl, .ty "int", .base (.int z), kit_ty (by decide +kernel), true, rfl, iteT ?_⟩
    refine ⟨_, rfl, _, _, _, _, false, rfl, .ty "bool", .base (.int z), kit_ty (by decide +kernel), false, rfl, ?_⟩
    exact q
def spIsSize : Sp := fun vs H Q _ => ∃ i : Int, vs = [.int i] ∧ Q (.bl (decide (1 ≤ i))) H
theorem c_is_size (D : At K mg "is_size" s_is_size ["thing"]) (c_is_integer : Cal P w K mg base 1 "is_integer" spIsInt) : Cal P w K mg base 2 "is_size" spIsSize := by
  refine okC D sc_is_size (fun vs H Q E h => ?_) (fun f cdv A outer s H vs Q E hr h => ?_)
  · obtain ⟨z, rfl, _⟩ := h
    rfl
  · obtain ⟨z, rfl, q⟩ := h
    have nd := sc_is_size.nd
    refine ⟨_, (pss_one (ps_ret (pe_and (pe_k c_is_integer hr (by decide) (by rfl) (pa_cons (pv 0) pa_nil)) (pe_one (pe_cmpR op_ge (pv 0) pe_int (nomark _)))))), ?_⟩
    refine ⟨_, rfl, z, rfl, true, rfl, iteT ?_⟩
    exact ⟨_, rfl, z, 1, rfl, rfl, q⟩
def spAreInts (K : PySem.W.Frag) : Sp := fun vs H Q _ => ∃ (a : Addr) (ns : List Int), vs = [.ref a] ∧ H a = some (.tup (ns.map V.int)) ∧ ns.length ≤ 1000 ∧ ∀ H', Same H H' → Q (.bl true) H'
theorem c_are_integers (D : At K mg "are_integers" s_are_integers ["thing"]) (c_is_integer : Cal P w K mg base 1 "is_integer" spIsInt) (z_isinstance : mg "isinstance" = none) (z_tuple : mg "tuple" = none) (z_all : mg "all" = none) :
    Cal P w K mg base 2 "are_integers" (spAreInts K) := by
  refine okC D sc_are_integers (fun vs H Q E h => ?_) (fun f cdv A outer s H vs Q E hr h => ?_)
  · obtain ⟨a, ns, rfl, _⟩ := h
    rfl
  · obtain ⟨a, ns, rfl, ha, hz, q⟩ := h
    have nd := sc_are_integers.nd
    refine ⟨_, (pss_one (ps_ret (pe_and (pe_callB call_isi (by rfl) z_isinstance (by decide +kernel) (pa_cons (pv 0) (pa_cons (pe_bltn (by rfl) z_tuple (by decide +kernel) (v := .ty "tuple") rfl) pa_nil))) (pe_one (pe_callB (cr_all rfl) (by rfl) z_all (by decide +kernel) (pa_cons (pe_lc (own := [("each", 1)]) rfl nd (pi_tup (pv 0)) (blkOk_by (N := N_are_integers) (sc := defScope s_are_integers) (by decide +kernel)) (fun _ _ _ _ _ => pg_name (i := 1) nd rfl (Or.inl rfl)) (fun _ _ _ _ _ => pts_nil) (fun _ _ _ _ _ => (pe_k c_is_integer hr (by decide) (by rfl) (pa_cons (pv 1) pa_nil)))) pa_nil)))))), ?_⟩
    refine ⟨_, rfl, _, _, _, _, true, rfl, .ty "tuple", .base (.tup ha), kit_ty (by decide +kernel), true, rfl, iteT ?_⟩
    refine ⟨_, rfl, a, rfl, ⟨_, .inl (.inl ha)⟩, fun D hD => lcM (walk_tup (xs := ns.map V.int)) (fun _ => .bl true) hD ?_ (fun H' sm => .inl (.inl (sm _ _ ha))) ?_ ?_⟩
    · rw [List.length_map]
      exact small1000 hz
    · intro x H' R hx sm h1
      obtain ⟨i, _, rfl⟩ := List.mem_map.mp hx
      refine ⟨rfl, _, rfl, i, rfl, h1 H' (Same.refl _)⟩
    · intro H' sm hd
      have e : (ns.map V.int).map (fun _ => V.bl true) = (List.replicate ns.length true).map V.bl := by
        rw [List.map_map, List.map_replicate]
        exact List.map_eq_replicate_iff.mpr fun _ _ => rfl
      rw [e] at hd
      refine ⟨D, _, rfl, .inl (.inl hd), ?_⟩
      rw [List.all_eq_true.mpr fun b hb => by rw [List.eq_of_mem_replicate hb]; rfl]
      exact q H' sm
end


open PySem PySem.Spec PyProof.Rows L2 Gd Qu
def QAt (H : Hp) (a : Addr) (q : Int × Int) : Prop := H a = some (.tup [.int q.1, .int q.2])
theorem QAt.same {H H' : Hp} {a : Addr} {q : Int × Int} (s : Same H H') (h : QAt H a q) : QAt H' a q := s _ _ h
theorem QAt.sq {K : PySem.W.Frag} {H : Hp} {a : Addr} {q : Int × Int} (h : QAt H a q) : SqT K H a [.int q.1, .int q.2] := .inl (.inl h)
theorem gq_lt {a b : Int} {n : Nat} (hb : b ≠ 0) (h : b.natAbs < 2 ^ n) : (gq a b).natAbs < 2 ^ n := by
  have : gq a b ≤ (b.natAbs : Int) := Int.le_of_dvd (by omega) (Int.dvd_natAbs.mpr (gq_r a b))
  have := gq_pos (a := a) hb
  omega
section
variable {P : Program} {w : World} {K : PySem.W.Frag} {mg : Str → Option Value} {base : Heap}
def spIsQ : Sp := fun vs H Q _ => ∃ (a : Addr) (q : Int × Int), vs = [.ref a] ∧ QAt H a q ∧ IsQ q ∧ ∀ H', Same H H' → Q (.bl true) H'
def spLow : Sp := fun vs H Q _ => ∃ t b : Int, vs = [.int t, .int b] ∧ b ≠ 0 ∧ t.natAbs < 2 ^ 8000 ∧ b.natAbs < 2 ^ 8000 ∧ ∀ p, H p = none → Q (.ref p) (upd H p (.tup [.int (cut t b).1, .int (cut t b).2]))
end


open PySem PySem.Spec PyProof.Rows L2 Gd Qu
/-- both numbers below 2 ^ n -/
structure Sz (n : Nat) (q : Int × Int) : Prop where
  t : q.1.natAbs < 2 ^ n
  b : q.2.natAbs < 2 ^ n
theorem lt_pow {x a b : Nat} (h : x < 2 ^ a) (hab : a ≤ b) : x < 2 ^ b := Nat.lt_of_lt_of_le h (Nat.pow_le_pow_right (by decide) hab)
theorem Sz.mono {a b : Nat} {q : Int × Int} (h : Sz a q) (hab : a ≤ b) : Sz b q := ⟨lt_pow h.t hab, lt_pow h.b hab⟩
theorem mul_lt {x y : Int} {a b : Nat} (hx : x.natAbs < 2 ^ a) (hy : y.natAbs < 2 ^ b) : (x * y).natAbs < 2 ^ (a + b) := wide_lt hx hy
theorem add_lt {x y : Int} {a : Nat} (hx : x.natAbs < 2 ^ a) (hy : y.natAbs < 2 ^ a) : (x + y).natAbs < 2 ^ (a + 1) := by
  rw [Nat.pow_succ]
  omega
theorem sub_lt {x y : Int} {a : Nat} (hx : x.natAbs < 2 ^ a) (hy : y.natAbs < 2 ^ a) : (x - y).natAbs < 2 ^ (a + 1) := by
  rw [Nat.pow_succ]
  omega
theorem cut_sz {a b : Int} {n : Nat} (h : b ≠ 0) (ha : a.natAbs < 2 ^ n) (hb : b.natAbs < 2 ^ n) : Sz n (cut a b) :=
  ⟨Nat.lt_of_le_of_lt (cut_le1 h) ha, Nat.lt_of_le_of_lt (cut_le2 h) hb⟩
theorem plus_sz {r q : Int × Int} {a b : Nat} (hr : Sz a r) (hq : Sz b q) (ir : IsQ r) (iq : IsQ q) : Sz (a + b + 1) (plusQ r q) := by
  refine cut_sz (Int.mul_ne_zero ir.ne iq.ne) (add_lt (mul_lt hr.t hq.b) ?_) (lt_pow (mul_lt hr.b hq.b) (Nat.le_succ _))
  rw [Nat.add_comm a b]
  exact mul_lt hq.t hr.b
theorem prod_sz {r q : Int × Int} {a b : Nat} (hr : Sz a r) (hq : Sz b q) (ir : IsQ r) (iq : IsQ q) : Sz (a + b) (prodQ r q) :=
  cut_sz (Int.mul_ne_zero ir.ne iq.ne) (mul_lt hr.t hq.t) (mul_lt hr.b hq.b)
theorem sz01 : Sz 1 (0, 1) := ⟨by decide, by decide⟩
theorem sz11 : Sz 1 (1, 1) := ⟨by decide, by decide⟩
section
variable {P : Program} {w : World} {K : PySem.W.Frag} {mg : Str → Option Value} {base : Heap}
/-- refs to quotients -/
def QsAt (H : Hp) (as : List Addr) (qs : List (Int × Int)) : Prop := as.length = qs.length ∧ ∀ (i : Nat) (a : Addr) (q : Int × Int), as[i]? = some a → qs[i]? = some q → QAt H a q
theorem QsAt.same {H H' : Hp} {as : List Addr} {qs : List (Int × Int)} (s : Same H H') (h : QsAt H as qs) : QsAt H' as qs := ⟨h.1, fun i a q e1 e2 => (h.2 i a q e1 e2).same s⟩
def spFoldQ (op : Int × Int → Int × Int → Int × Int) (z : Int × Int) : Sp := fun vs H Q _ => ∃ (as : List Addr) (qs : List (Int × Int)), vs = as.map V.ref ∧ QsAt H as qs ∧ (∀ q ∈ qs, IsQ q ∧ Sz 700 q) ∧ qs.length ≤ 6 ∧
  ∀ p H', Same H H' → QAt H' p (qs.foldl op z) → Q (.ref p) H'
theorem fold_step {α β : Type} (op : β → α → β) (z : β) {l : List α} {i : Nat} {x : α} (h : l[i]? = some x) : (l.take (i + 1)).foldl op z = op ((l.take i).foldl op z) x := by
  rw [List.take_add_one, h, List.foldl_append]
  rfl
end


open PySem PySem.Spec PyProof.Rows L2 Gd Qu
section
variable {P : Program} {w : World} {K : PySem.W.Frag} {mg : Str → Option Value} {base : Heap}
/-- two quotients in, one out -/
def spTwoQ (op : Int × Int → Int × Int → Int × Int) (ok : Int × Int → Prop) : Sp := fun vs H Q _ => ∃ (a b : Addr) (x y : Int × Int), vs = [.ref a, .ref b] ∧ QAt H a x ∧ QAt H b y ∧ IsQ x ∧ IsQ y ∧ ok y ∧ Sz 700 x ∧ Sz 700 y ∧
  ∀ p H', Same H H' → QAt H' p (op x y) → Q (.ref p) H'
def spQuot : Sp := fun vs H Q _ => ∃ t b : Int, vs = [.int t, .int b] ∧ b ≠ 0 ∧ t.natAbs < 2 ^ 8000 ∧ b.natAbs < 2 ^ 8000 ∧ ∀ p H', Same H H' → QAt H' p (cut t b) → Q (.ref p) H'
end


open PySem PySem.Spec PyProof.Rows L2 Gd Qu Nm
theorem modN (a b : Nat) : (a : Int) % (b : Int) = ((a % b : Nat) : Int) := rfl
theorem divN (a b : Nat) : (a : Int) / (b : Int) = ((a / b : Nat) : Int) := rfl
theorem mod0 {n t : Nat} : V.int ((n : Int) % (t : Int)) = V.int 0 ↔ t ∣ n := by
  rw [modN]
  constructor
  · intro h
    have := V.int.inj h
    exact Nat.dvd_of_mod_eq_zero (by omega)
  · intro h
    rw [Nat.mod_eq_zero_of_dvd h]
    rfl
def cp (x : Nat × Nat) : Int × Int := ((x.1 : Int), (x.2 : Int))
section
variable {P : Program} {w : World} {K : PySem.W.Frag} {mg : Str → Option Value} {base : Heap}
def spLeast : Sp := fun vs H Q _ => ∃ n : Nat, vs = [.int n] ∧ 2 ≤ n ∧ n ≤ 1000000 ∧ ∀ l : Nat, Least n l → Q (.int l) H
theorem c_least_prime (D : At K mg "least_prime" s_least_prime ["number"]) : Cal P w K mg base 1 "least_prime" spLeast := by
  refine okC D sc_least_prime (fun vs H Q E h => ?_) (fun f cdv A outer s H vs Q E hr h => ?_)
  · obtain ⟨n, rfl, _⟩ := h
    rfl
  · obtain ⟨n, rfl, hn, hm, k⟩ := h
    have nd := sc_least_prime.nd
    refine ⟨_, (pss_cons (ps_set (i := 1) nd rfl (.inl rfl) pe_int)
 (pss_cons (ps_while PassesOwn.never (pt_cmpR op_le (pe_op op_mul (pv 1) (pv 1)) (pv 0) (nomark _))
 (pss_cons (ps_if (pt_cmpR op_eq (pe_op op_mod (pv 0) (pv 1)) pe_int (nomark _))
 (pss_one (ps_ret (pv 1)))
 pss_nil)
 (pss_one (ps_aug (i := 1) nd rfl (.inl rfl) pe_int ip_add))))
 (pss_one (ps_ret (pv 0))))), ?_⟩
    refine ⟨fun m σ H' => ∃ t : Nat, σ = [some (.int n), some (.int t)] ∧ H = H' ∧ 2 ≤ t ∧ t ≤ n + 1 ∧ (∀ d, 2 ≤ d → d < t → ¬ d ∣ n) ∧ m = n + 2 - t, ⟨n, 2, rfl, rfl, by decide, by omega, fun d h1 h2 => by omega, by omega⟩, ?_⟩
    rintro m σ _ ⟨t, rfl, rfl, ht, htn, hd, rfl⟩
    refine ⟨_, rfl, _, rfl, _, _, rfl, rfl, .inl ⟨by omega, by omega⟩, _, rfl, _, _, rfl, rfl, _, rfl, ?_⟩
    refine ite2 (fun c => ?_) (fun c => ?_)
    · have c1 : (t : Int) * t ≤ n := of_decide_eq_true c
      have c2 : t * t ≤ n := by exact_mod_cast c1
      have c3 : t ≤ n := Nat.le_trans (Nat.le_mul_of_pos_left t (by omega)) c2
      refine ⟨fun σ' H' => ∃ m', m' < n + 2 - t ∧ ∃ t : Nat, σ' = [some (.int n), some (.int t)] ∧ H = H' ∧ 2 ≤ t ∧ t ≤ n + 1 ∧ (∀ d, 2 ≤ d → d < t → ¬ d ∣ n) ∧ m' = n + 2 - t, fun _ _ z => z, ?_⟩
      refine ⟨_, rfl, _, rfl, _, _, rfl, rfl, (by show (0 : Int) < t; omega), rfl, _, rfl, ite2 (fun e => ?_) (fun e => ?_)⟩
      · have e1 := mod0.mp (of_decide_eq_true e)
        exact ⟨_, rfl, k t (least_at ht hd e1)⟩
      · have e1 : ¬ t ∣ n := fun z => e (decide_eq_true (mod0.mpr z))
        refine ⟨_, rfl, _, _, rfl, rfl, n + 2 - (t + 1), by omega, t + 1, rfl, rfl, by omega, by omega, fun d h1 h2 h3 => ?_, rfl⟩
        by_cases ed : d = t
        · subst ed
          exact e1 h3
        · exact hd d h1 (by omega) h3
    · have c1 : ¬ (t : Int) * t ≤ n := fun z => c (decide_eq_true z)
      have c2 : n < t * t := by
        refine Nat.lt_of_not_le fun z => c1 ?_
        exact_mod_cast z
      exact ⟨_, rfl, k n (least_self hn hd c2)⟩
end


open PySem PySem.Spec PyProof.Rows L2 Gd Qu Nm
/-- between two turns of the outer loop: what is found, what is left -/
structure Half (n : Nat) (ps : List (Nat × Nat)) (left : Nat) : Prop where
  prod : prodN (ps.map (·.2)) * left = n
  asc : (ps.map (·.1)).Pairwise (· < ·)
  pw : ∀ x ∈ ps, Pr x.1 ∧ ∃ e, 1 ≤ e ∧ x.2 = x.1 ^ e
  more : ∀ x ∈ ps, ∀ p, Pr p → p ∣ left → x.1 < p
  pos : 1 ≤ left
theorem prodN_snoc (l : List Nat) (a : Nat) : prodN (l ++ [a]) = prodN l * a := by
  rw [prodN_append]
  show prodN l * (a * 1) = _
  rw [Nat.mul_one]
theorem Half.step {n left l e rest : Nat} {ps : List (Nat × Nat)} (h : Half n ps left) (hl : Least left l) (he : 1 ≤ e) (hs : rest * l ^ e = left) (hn : ¬ l ∣ rest) (hp : 1 ≤ rest) : Half n (ps ++ [(l, l ^ e)]) rest := by
  have dl : ∀ p, p ∣ rest → p ∣ left := fun p z => Nat.dvd_trans z ⟨l ^ e, hs.symm⟩
  refine ⟨?_, ?_, ?_, ?_, hp⟩
  · rw [List.map_append, List.map_singleton, prodN_snoc, ← h.prod, ← hs]
    ac_rfl
  · rw [List.map_append, List.map_singleton]
    refine List.pairwise_append.mpr ⟨h.asc, List.pairwise_singleton _ _, fun a ha b hb => ?_⟩
    obtain ⟨x, hx, rfl⟩ := List.mem_map.mp ha
    obtain rfl := List.mem_singleton.mp hb
    exact h.more x hx _ hl.pr hl.dvd
  · intro x hx
    rcases List.mem_append.mp hx with hx | hx
    · exact h.pw x hx
    · obtain rfl := List.mem_singleton.mp hx
      exact ⟨hl.pr, e, he, rfl⟩
  · intro x hx p hpr hd
    rcases List.mem_append.mp hx with hx | hx
    · exact h.more x hx p hpr (dl p hd)
    · obtain rfl := List.mem_singleton.mp hx
      have h1 := hl.least p hpr.1 (dl p hd)
      by_cases e1 : l = p
      · subst e1
        exact absurd hd hn
      · exact Nat.lt_of_le_of_ne h1 e1
theorem Half.len {n left : Nat} {ps : List (Nat × Nat)} (h : Half n ps left) : ps.length ≤ n := by
  have key : ∀ l : List (Nat × Nat), (∀ x ∈ l, Pr x.1 ∧ ∃ e, 1 ≤ e ∧ x.2 = x.1 ^ e) → l.length + 1 ≤ prodN (l.map (·.2)) := by
    intro l
    induction l with
    | nil => intro _; exact Nat.le_refl _
    | cons x l ih =>
      intro hx
      have h1 := ih fun y hy => hx y (List.mem_cons_of_mem _ hy)
      obtain ⟨h2, e, he, h3⟩ := hx x List.mem_cons_self
      have h4 : 2 ≤ x.2 := by
        rw [h3]
        exact Nat.le_trans h2.1 (Nat.le_self_pow (by omega) _)
      have h5 : 2 * (l.length + 1) ≤ x.2 * prodN (l.map (·.2)) := Nat.mul_le_mul h4 h1
      show l.length + 1 + 1 ≤ x.2 * prodN (l.map (·.2))
      omega
  have h1 := key ps h.pw
  have h2 : prodN (ps.map (·.2)) * 1 ≤ n := by
    rw [← h.prod]
    exact Nat.mul_le_mul_left _ h.pos
  omega
section
variable {P : Program} {w : World} {K : PySem.W.Frag} {mg : Str → Option Value} {base : Heap}
def spParts : Sp := fun vs H Q _ => ∃ n : Nat, vs = [.int n] ∧ 1 ≤ n ∧ n ≤ 10000 ∧ ∀ (a : Addr) (as : List Addr) (ps : List (Nat × Nat)) (H' : Hp), Parts n ps → ps.length ≤ n → Same H H' → H' a = some (.tup (as.map V.ref)) → QsAt H' as (ps.map cp) → Q (.ref a) H'
/-- the outer loop's word -/
def WOut (H : Hp) (n : Nat) (m : Nat) (σ : L2.St) (H' : Hp) : Prop := ∃ (l : Addr) (as : List Addr) (ps : List (Nat × Nat)) (left : Nat) (y3 y4 : Option V), σ = [some (.int n), some (.ref l), some (.int left), y3, y4] ∧
  Same H H' ∧ H l = none ∧ H' l = some (.lst (as.map V.ref)) ∧ QsAt H' as (ps.map cp) ∧ Half n ps left ∧ left = m
/-- the inner loop's word: l the least prime of left -/
def WIn (H1 : Hp) (n left l : Nat) (a : Addr) (m : Nat) (σ : L2.St) (H' : Hp) : Prop := ∃ (e rest : Nat), σ = [some (.int n), some (.ref a), some (.int rest), some (.int l), some (.int ((l ^ e : Nat) : Int))] ∧ H1 = H' ∧ rest * l ^ e = left ∧ 1 ≤ rest ∧ rest = m
theorem c_prime_parts (D : At K mg "prime_parts" s_prime_parts ["number"]) (c_least_prime : Cal P w K mg base 1 "least_prime" spLeast) (z_tuple : mg "tuple" = none) : Cal P w K mg base 2 "prime_parts" spParts := by
  refine okC D sc_prime_parts (fun vs H Q E h => ?_) (fun f cdv A outer s H vs Q E hr h => ?_)
  · obtain ⟨n, rfl, _⟩ := h
    rfl
  · obtain ⟨n, rfl, hn, hm, k⟩ := h
    have nd := sc_prime_parts.nd
    refine ⟨_, (pss_cons (ps_set (i := 1) nd rfl (.inl rfl) (pe_lst pa_nil))
 (pss_cons (ps_set (i := 2) nd rfl (.inl rfl) (pv 0))
 (pss_cons (ps_while PassesOwn.never (pt_cmpR op_gt (pv 2) pe_int (nomark _))
 (pss_cons (ps_set (i := 3) nd rfl (.inl rfl) (pe_k c_least_prime hr (by decide) (by rfl) (pa_cons (pv 2) pa_nil)))
 (pss_cons (ps_set (i := 4) nd rfl (.inl rfl) pe_int)
 (pss_cons (ps_while PassesOwn.never (pt_cmpR op_eq (pe_op op_mod (pv 2) (pv 3)) pe_int (nomark _))
 (pss_cons (ps_set (i := 2) nd rfl (.inl rfl) (pe_op op_fdiv (pv 2) (pv 3)))
 (pss_one (ps_set (i := 4) nd rfl (.inl rfl) (pe_op op_mul (pv 4) (pv 3))))))
 (pss_one (ps_expr (pe_bm PySem.F.plainAttrs_list PySem.F.slot_list_append PySem.F.type_list_append mt_append (pv 1) (pa_cons (pe_tup (pa_cons (pv 3) (pa_cons (pv 4) pa_nil))) pa_nil))))))))
 (pss_one (ps_ret (pe_tupleOf (by rfl) z_tuple (pv 1))))))), ?_⟩
    refine ⟨Nat.zero_le _, fun l hl => ⟨_, rfl, WOut H n, ⟨n, l, [], [], n, none, none, rfl, same_new hl, hl, upd_same, ⟨rfl, fun i a q e => by simp at e⟩, ⟨by show 1 * n = n; exact Nat.one_mul n, List.Pairwise.nil, fun x hx => absurd hx List.not_mem_nil, fun x hx => absurd hx List.not_mem_nil, hn⟩, rfl⟩, ?_⟩⟩
    clear hl l
    rintro m σ H1 ⟨l, as, ps, left, y3, y4, rfl, s1, hl, h1, hqs, hf, rfl⟩
    refine ⟨_, rfl, _, _, rfl, rfl, _, rfl, ite2 (fun c => ?_) (fun c => ?_)⟩
    · -- a turn
      have c1 : (1 : Int) < (left : Int) := of_decide_eq_true c
      have c2 : 2 ≤ left := by omega
      have lele : left ≤ n := by
        have hp : 1 ≤ prodN (ps.map (·.2)) := by
          refine prod_pos fun a ha => ?_
          obtain ⟨x, hx, rfl⟩ := List.mem_map.mp ha
          obtain ⟨q1, e, _, q2⟩ := hf.pw x hx
          rw [q2]
          exact Nat.pow_pos q1.pos
        rw [← hf.prod]
        exact Nat.le_mul_of_pos_left _ hp
      refine ⟨fun σ' H' => ∃ m', m' < left ∧ WOut H n m' σ' H', fun _ _ z => z, ?_⟩
      refine ⟨_, rfl, left, rfl, c2, by omega, fun p hp => ?_⟩
      have hp2 := hp.two
      have hppos : (0 : Int) < (p : Int) := by omega
      refine ⟨WIn H1 n left p l, ⟨left, 0, left, rfl, rfl, by rw [Nat.pow_zero, Nat.mul_one], by omega, rfl⟩, ?_⟩
      rintro m σ _ ⟨e, rest, rfl, rfl, hre, hrp, rfl⟩
      have ple : p ^ e ≤ left := by
        rw [← hre]
        exact Nat.le_mul_of_pos_left _ hrp
      have plel : p ≤ left := Nat.le_of_dvd (by omega) hp.dvd
      refine ⟨_, rfl, _, rfl, _, _, rfl, rfl, hppos, rfl, _, rfl, ite2 (fun d => ?_) (fun d => ?_)⟩
      · -- it divides once more
        have d1 := mod0.mp (of_decide_eq_true d)
        obtain ⟨r, hr2⟩ := d1
        have hdiv : rest / p = r := by
          rw [hr2]
          exact Nat.mul_div_cancel_left _ (by omega)
        refine ⟨fun σ' H' => ∃ m', m' < rest ∧ WIn H1 n left p l m' σ' H', fun _ _ z => z, ?_⟩
        refine ⟨_, rfl, _, rfl, _, _, rfl, rfl, ⟨hppos, by omega⟩, _, rfl, _, rfl, _, _, rfl, rfl, .inl ⟨by omega, by omega⟩, ?_⟩
        have r0 : 1 ≤ r := by
          cases r with
          | zero => rw [Nat.mul_zero] at hr2; omega
          | succ r => omega
        refine ⟨r, ?_, e + 1, r, ?_, rfl, ?_, r0, rfl⟩
        · rw [hr2]
          have : 2 * r ≤ p * r := Nat.mul_le_mul_right r hp2
          omega
        · rw [Nat.pow_succ, ← hdiv]
          rfl
        · rw [← hre, hr2, Nat.pow_succ]
          ac_rfl
      · -- it divides no more
        have d1 : ¬ p ∣ rest := fun z => d (decide_eq_true (mod0.mpr z))
        have he : 1 ≤ e := by
          cases e with
          | zero =>
            rw [Nat.pow_zero, Nat.mul_one] at hre
            rw [hre] at d1
            exact absurd hp.dvd d1
          | succ e => omega
        have hf' := hf.step hp he hre d1 hrp
        have hlen : as.length ≤ n := by
          have a1 := hf.len
          have a2 := hqs.1
          rw [List.length_map] at a2
          omega
        refine ⟨_, rfl, .inl ⟨rfl, _, .inl (.inl h1)⟩, _, rfl, _, rfl, (by show 2 ≤ sizeLine; decide), fun T hT => ⟨l, as.map V.ref, _, rfl, rfl, ?_, ?_, ?_⟩⟩
        · show upd H1 T _ l = _
          rw [upd_ne (ne_of_none h1 hT)]
          exact h1
        · rw [List.length_map]
          exact Nat.lt_of_le_of_lt hlen (Nat.lt_of_le_of_lt hm (by decide))
        · have sT : Same H1 (upd H1 T (.tup [V.int p, V.int ((p ^ e : Nat) : Int)])) := same_new hT
          have nlT : T ≠ l := (ne_of_none h1 hT).symm
          refine ⟨rest, ?_, l, as ++ [T], ps ++ [(p, p ^ e)], rest, _, _, rfl, same_own (s1.trans sT) hl, hl, ?_, ?_, hf', rfl⟩
          · rw [← hre]
            have : rest * 2 ≤ rest * p ^ e := Nat.mul_le_mul_left rest (Nat.le_trans hp2 (Nat.le_self_pow (by omega) _))
            omega
          · rw [upd_same, List.map_append]
            rfl
          · refine ⟨by rw [List.length_append, List.map_append, List.length_append, hqs.1]; rfl, fun i a q e1 e2 => ?_⟩
            rw [List.map_append] at e2
            by_cases hi : i < as.length
            · rw [List.getElem?_append_left hi] at e1
              rw [List.getElem?_append_left (by rw [← hqs.1]; exact hi)] at e2
              have q0 := hqs.2 i a q e1 e2
              have na : a ≠ l := fun z => by
                rw [z] at q0
                have := q0.symm.trans h1
                cases this
              show upd (upd H1 T _) l _ a = _
              rw [upd_ne na]
              exact sT _ _ q0
            · rw [List.getElem?_append_right (by omega)] at e1
              rw [List.getElem?_append_right (by rw [← hqs.1]; omega), ← hqs.1] at e2
              have i0 : i - as.length = 0 := by
                cases h : i - as.length with
                | zero => rfl
                | succ j =>
                  rw [h] at e1
                  simp at e1
              rw [i0] at e1 e2
              obtain rfl : T = a := by simpa using e1
              obtain rfl : cp (p, p ^ e) = q := by simpa using e2
              show upd (upd H1 T _) l _ T = _
              rw [upd_ne nlT, upd_same]
              rfl
    · -- none is left
      have c1 : ¬ (1 : Int) < (left : Int) := fun z => c (decide_eq_true z)
      have c2 : left = 1 := by
        have := hf.pos
        omega
      subst c2
      refine ⟨_, rfl, .inl ⟨l, _, rfl, .inl (.inl h1), fun a ha => ?_⟩⟩
      exact k a as ps _ ⟨by rw [← hf.prod, Nat.mul_one], hf.asc, hf.pw⟩ hf.len (s1.trans (same_new ha)) upd_same (hqs.same (same_new ha))
end


open PySem PySem.Spec PyProof.Rows L2 Gd Qu Nm
theorem List.map_idx {α β γ : Type} {as : List α} {ps : List β} {f : α → γ} {g : β → γ} (hl : as.length = ps.length) (h : ∀ (i : Nat) a p, as[i]? = some a → ps[i]? = some p → f a = g p) : as.map f = ps.map g := by
  refine List.ext_getElem? fun i => ?_
  rw [List.getElem?_map, List.getElem?_map]
  cases ha : as[i]? with
  | none =>
    have : ps[i]? = none := List.getElem?_eq_none_iff.mpr (by rw [← hl]; exact List.getElem?_eq_none_iff.mp ha)
    rw [this]
    rfl
  | some a =>
    obtain ⟨hi, _⟩ := List.getElem?_eq_some_iff.mp ha
    have hp : ps[i]? = some ps[i] := List.getElem?_eq_getElem (by rw [← hl]; exact hi)
    rw [hp]
    exact congrArg some (h i a _ ha hp)
section
variable {P : Program} {w : World} {K : PySem.W.Frag} {mg : Str → Option Value} {base : Heap}
def spNum : Sp := fun vs H Q _ => ∃ n : Nat, vs = [.int n] ∧ 1 ≤ n ∧ n ≤ 10000 ∧ Q .non H
theorem c_need_number (D : At K mg "need_number" s_need_number ["number"]) (c_need : Cal P w K mg base 1 "need" spNeed) (c_is_size : Cal P w K mg base 2 "is_size" spIsSize) {tm : Tok} (m_MOST_FACTORED : mg "MOST_FACTORED" = some (.int 10000 tm)) :
    Cal P w K mg base 3 "need_number" spNum := by
  refine okC D sc_need_number (fun vs H Q E h => ?_) (fun f cdv A outer s H vs Q E hr h => ?_)
  · obtain ⟨n, rfl, _⟩ := h
    rfl
  · obtain ⟨n, rfl, h1, h2, k⟩ := h
    have nd := sc_need_number.nd
    refine ⟨_, (pss_one (ps_expr (pe_k c_need hr (by decide) (by rfl) (pa_cons (pe_and (pe_k c_is_size hr (by decide) (by rfl) (pa_cons (pv 0) pa_nil)) (pe_one (pe_cmpR op_le (pv 0) (pe_glob (v := .int 10000) rfl m_MOST_FACTORED ⟨_, rfl⟩) (nomark _)))) (pa_cons pe_str pa_nil))))), ?_⟩
    refine ⟨_, rfl, n, rfl, true, ?_, iteT ⟨_, rfl, _, _, rfl, rfl, V.str "number", ?_, k⟩⟩
    · rw [decide_eq_true (show (1 : Int) ≤ n by omega)]
    · show [V.bl (decide ((n : Int) ≤ 10000)), V.str "number"] = _
      rw [decide_eq_true (show (n : Int) ≤ 10000 by omega)]
def spIsPrime : Sp := fun vs H Q _ => ∃ n : Nat, vs = [.int n] ∧ 1 ≤ n ∧ n ≤ 10000 ∧ ∀ b : Bool, (b = true ↔ 2 ≤ n ∧ Least n n) → Q (.bl b) H
def spIsPP : Sp := fun vs H Q _ => ∃ n : Nat, vs = [.int n] ∧ 1 ≤ n ∧ n ≤ 10000 ∧ ∀ (b : Bool) (H' : Hp), Same H H' → (∀ ps, Parts n ps → (b = true ↔ ps.length = 1)) → Q (.bl b) H'
theorem parts1 : Parts 1 [] := ⟨rfl, List.Pairwise.nil, fun _ h => absurd h List.not_mem_nil⟩
def spPrimes : Sp := fun vs H Q _ => ∃ n : Nat, vs = [.int n] ∧ 1 ≤ n ∧ n ≤ 10000 ∧ ∀ (a : Addr) (ps : List (Nat × Nat)) (H' : Hp), Parts n ps → Same H H' → H' a = some (.tup (ps.map fun x => V.int x.1)) → Q (.ref a) H'
/-- what a comprehension that unpacks pairs gives -/
theorem at_pairs {as : List Addr} {ps : List (Nat × Nat)} {H : Hp} (hq : QsAt H as (ps.map cp)) {x : V} (hx : x ∈ as.map V.ref) : ∃ (a : Addr) (p : Nat × Nat), x = V.ref a ∧ p ∈ ps ∧ QAt H a (cp p) := by
  obtain ⟨a, ha, rfl⟩ := List.mem_map.mp hx
  obtain ⟨i, hi, rfl⟩ := List.mem_iff_getElem.mp ha
  have hl := hq.1
  rw [List.length_map] at hl
  have hi2 : i < ps.length := by omega
  refine ⟨_, ps[i], rfl, List.getElem_mem _, hq.2 i _ _ (List.getElem?_eq_getElem hi) ?_⟩
  rw [List.getElem?_map, List.getElem?_eq_getElem hi2]
  rfl
/-- the first, the second of the pair at an address, as the heap has it -/
def fstAt (H : Hp) (x : V) : V := match x with
  | .ref a => match H a with
    | some (.tup (v :: _)) => v
    | _ => .non
  | _ => .non
def sndAt (H : Hp) (x : V) : V := match x with
  | .ref a => match H a with
    | some (.tup (_ :: v :: _)) => v
    | _ => .non
  | _ => .non
theorem fstAt_of {H : Hp} {a : Addr} {q : Int × Int} (h : QAt H a q) : fstAt H (.ref a) = .int q.1 := by
  unfold fstAt
  have e : H a = _ := h
  simp only [e]
theorem sndAt_of {H : Hp} {a : Addr} {q : Int × Int} (h : QAt H a q) : sndAt H (.ref a) = .int q.2 := by
  unfold sndAt
  have e : H a = _ := h
  simp only [e]
theorem map_fst {as : List Addr} {ps : List (Nat × Nat)} {H : Hp} (hq : QsAt H as (ps.map cp)) : (as.map V.ref).map (fstAt H) = ps.map fun x => V.int x.1 := by
  rw [List.map_map]
  refine List.map_idx (by have := hq.1; rw [List.length_map] at this; exact this) fun i a p e1 e2 => ?_
  exact fstAt_of (hq.2 i a (cp p) e1 (by rw [List.getElem?_map, e2]; rfl))
theorem map_snd {as : List Addr} {ps : List (Nat × Nat)} {H : Hp} (hq : QsAt H as (ps.map cp)) : (as.map V.ref).map (sndAt H) = ps.map fun x => V.int x.2 := by
  rw [List.map_map]
  refine List.map_idx (by have := hq.1; rw [List.length_map] at this; exact this) fun i a p e1 e2 => ?_
  exact sndAt_of (hq.2 i a (cp p) e1 (by rw [List.getElem?_map, e2]; rfl))
end


open PySem PySem.Spec PyProof.Rows L2 Gd Qu Nm
/-- the divisors, by going through -/
def dvs (n : Nat) : List Nat := ((List.range n).map (1 + ·)).filter fun t => decide (n % t = 0)
theorem dvs_asc (n : Nat) : (dvs n).Pairwise (· < ·) := by
  refine List.Pairwise.filter _ (List.pairwise_map.mpr ?_)
  exact List.pairwise_lt_range.imp fun h => by omega
theorem dvs_mem {n : Nat} (hn : 1 ≤ n) (d : Nat) : d ∈ dvs n ↔ d ∣ n := by
  unfold dvs
  rw [List.mem_filter, List.mem_map]
  constructor
  · rintro ⟨_, h⟩
    exact Nat.dvd_of_mod_eq_zero (of_decide_eq_true h)
  · intro h
    have h1 := Nat.le_of_dvd hn h
    have h2 : 1 ≤ d := Nat.pos_of_dvd_of_pos h hn
    exact ⟨⟨d - 1, List.mem_range.mpr (by omega), by omega⟩, decide_eq_true (Nat.mod_eq_zero_of_dvd h)⟩
theorem filterMap_if {α β : Type} (l : List α) (f : α → β) (p : α → Bool) (g : β → Option β) (h : ∀ a ∈ l, g (f a) = if p a = true then some (f a) else none) : (l.map f).filterMap g = (l.filter p).map f := by
  induction l with
  | nil => rfl
  | cons a l ih =>
    have h1 := h a List.mem_cons_self
    have h2 := ih fun b hb => h b (List.mem_cons_of_mem _ hb)
    rw [List.map_cons]
    cases hp : p a with
    | true =>
      rw [if_pos hp] at h1
      rw [List.filterMap_cons_some h1, List.filter_cons_of_pos hp, h2]
      rfl
    | false =>
      rw [if_neg (by rw [hp]; exact Bool.false_ne_true)] at h1
      rw [List.filterMap_cons_none h1, List.filter_cons_of_neg (by rw [hp]; exact Bool.false_ne_true), h2]
theorem rgG_eq (n : Nat) : rgG 1 n = ((List.range n).map (1 + ·)).map fun t => V.int (t : Nat) := by
  unfold rgG
  rw [List.map_map]
  refine List.map_congr_left fun i _ => ?_
  show V.int (1 + (i : Int)) = V.int ((1 + i : Nat) : Int)
  congr 1
section
variable {P : Program} {w : World} {K : PySem.W.Frag} {mg : Str → Option Value} {base : Heap}
def spDvs : Sp := fun vs H Q _ => ∃ n : Nat, vs = [.int n] ∧ 1 ≤ n ∧ n ≤ 10000 ∧ ∀ (a : Addr) (H' : Hp), Same H H' → H' a = some (.tup ((dvs n).map fun t => V.int (t : Nat))) → Q (.ref a) H'
def dvF (n : Nat) (x : V) : Option V := match x with
  | .int i => if i = 0 then none else if (n : Int) % i = 0 then some (.int i) else none
  | _ => none
def spTot : Sp := fun vs H Q _ => ∃ n : Nat, vs = [.int n] ∧ 1 ≤ n ∧ n ≤ 10000 ∧ ∀ (ps : List (Nat × Nat)) (H' : Hp), Parts n ps → Same H H' → Q (.int (totP ps : Nat)) H'
theorem parts_tot_le {n : Nat} {ps : List (Nat × Nat)} (h : Parts n ps) : ∀ i, totP (ps.take i) ≤ n := by
  intro i
  have key : ∀ (l : List (Nat × Nat)), (∀ x ∈ l, x ∈ ps) → totP l ≤ prodN (l.map (·.2)) := by
    intro l
    induction l with
    | nil => intro _; exact Nat.le_refl _
    | cons x l ih =>
      intro hx
      have e : totP (x :: l) = (x.2 - x.2 / x.1) * totP l := by
        show l.foldl _ (1 * (x.2 - x.2 / x.1)) = _
        rw [totP_go, Nat.one_mul]
      rw [e]
      exact Nat.mul_le_mul (Nat.sub_le _ _) (ih fun y hy => hx y (List.mem_cons_of_mem _ hy))
  have h1 := key (ps.take i) fun x hx => List.mem_of_mem_take hx
  have h2 : prodN ((ps.take i).map (·.2)) * prodN ((ps.drop i).map (·.2)) = n := by
    rw [← prodN_append, ← List.map_append, List.take_append_drop, h.prod]
  have h3 : 1 ≤ prodN ((ps.drop i).map (·.2)) := by
    refine prod_pos fun a ha => ?_
    obtain ⟨x, hx, rfl⟩ := List.mem_map.mp ha
    obtain ⟨q1, e, _, q2⟩ := h.pw x (List.mem_of_mem_drop hx)
    rw [q2]
    exact Nat.pow_pos q1.pos
  calc totP (ps.take i) ≤ prodN ((ps.take i).map (·.2)) := h1
    _ ≤ prodN ((ps.take i).map (·.2)) * prodN ((ps.drop i).map (·.2)) := Nat.le_mul_of_pos_right _ h3
    _ = n := h2
theorem parts_le {n : Nat} {ps : List (Nat × Nat)} (hn : 1 ≤ n) (h : Parts n ps) : ∀ x ∈ ps, 2 ≤ x.1 ∧ x.1 ≤ n ∧ 1 ≤ x.2 ∧ x.2 ≤ n := by
  intro x hx
  obtain ⟨q1, e, he, q2⟩ := h.pw x hx
  have d1 := ((h.mem x.1).mp (List.mem_map.mpr ⟨x, hx, rfl⟩)).2
  have d2 : x.2 ∣ n := h.prod ▸ dvd_prod (List.mem_map.mpr ⟨x, hx, rfl⟩)
  exact ⟨q1.1, Nat.le_of_dvd hn d1, by rw [q2]; exact Nat.pow_pos q1.pos, Nat.le_of_dvd hn d2⟩
theorem c_totient_of (D : At K mg "totient_of" s_totient_of ["number"]) (c_need_number : Cal P w K mg base 3 "need_number" spNum) (c_prime_parts : Cal P w K mg base 2 "prime_parts" spParts) :
    Cal P w K mg base 4 "totient_of" spTot := by
  refine okC D sc_totient_of (fun vs H Q E h => ?_) (fun f cdv A outer s H vs Q E hr h => ?_)
  · obtain ⟨n, rfl, _⟩ := h
    rfl
  · obtain ⟨n, rfl, h1, h2, k⟩ := h
    have nd := sc_totient_of.nd
    refine ⟨_, (pss_cons (ps_expr (pe_k c_need_number hr (by decide) (by rfl) (pa_cons (pv 0) pa_nil)))
 (pss_cons (ps_set (i := 1) nd rfl (.inl rfl) pe_int)
 (pss_cons (ps_for PassesOwn.never rfl (pi_tup (pe_k c_prime_parts hr (by decide) (by rfl) (pa_cons (pv 0) pa_nil))) (pg_tup rfl (pgs_cons (pg_name (i := 2) nd rfl (.inl rfl)) (pgs_cons (pg_name (i := 3) nd rfl (.inl rfl)) pgs_nil)))
 (pss_one (ps_set (i := 1) nd rfl (.inl rfl) (pe_op op_mul (pv 1) (pe_op op_sub (pv 3) (pe_op op_fdiv (pv 3) (pv 2)))))))
 (pss_one (ps_ret (pv 1)))))), ?_⟩
    refine ⟨_, rfl, n, rfl, h1, h2, _, rfl, n, rfl, h1, h2, fun a as ps H1 hp hl s1 ha hq => ⟨a, rfl, ⟨_, .inl (.inl ha)⟩, for_it (walk_tup (xs := as.map V.ref))
      (fun i σ H' => ∃ y2 y3 : Option V, σ = [some (.int n), some (.int (totP (ps.take i) : Nat)), y2, y3] ∧ H1 = H') ⟨none, none, rfl, rfl⟩ (fun i σ H' _ ⟨_, _, _, e⟩ => e ▸ .inl (.inl ha)) ?_ ?_⟩⟩
    · have hlen := hq.1
      rw [List.length_map] at hlen
      rintro i x σ H2 H' hi ⟨y2, y3, rfl, rfl⟩ ⟨eH, hx⟩
      obtain rfl := eH.symm
      rw [List.length_map] at hi
      have hi2 : i < ps.length := by omega
      rw [List.getElem?_map, List.getElem?_eq_getElem hi] at hx
      obtain rfl : V.ref as[i] = x := Option.some.inj hx
      have hqi : QAt H1 as[i] (cp ps[i]) := hq.2 i _ _ (List.getElem?_eq_getElem hi) (by rw [List.getElem?_map, List.getElem?_eq_getElem hi2]; rfl)
      obtain ⟨b1, b2, b3, b4⟩ := parts_le h1 hp ps[i] (List.getElem_mem _)
      have b5 := parts_tot_le hp i
      refine ⟨_, _, rfl, hqi.sq, rfl, _, _, rfl, _, _, rfl, rfl, ?_⟩
      refine ⟨_, rfl, _, rfl, _, rfl, _, rfl, _, _, rfl, rfl, ⟨?_, ?_⟩, _, _, rfl, rfl, _, _, rfl, rfl, .inl ⟨?_, ?_⟩, ?_⟩
      · show (0 : Int) < (ps[i].1 : Int)
        omega
      · show (ps[i].1 : Int) < 1073741824
        omega
      · omega
      · omega
      · refine ⟨some (.int ps[i].1), some (.int ps[i].2), ?_, rfl⟩
        have e1 : totP (ps.take (i + 1)) = totP (ps.take i) * (ps[i].2 - ps[i].2 / ps[i].1) := by
          unfold totP
          rw [fold_step _ _ (List.getElem?_eq_getElem hi2)]
        have e2 : ((ps[i].2 - ps[i].2 / ps[i].1 : Nat) : Int) = (ps[i].2 : Int) - (ps[i].2 : Int) / (ps[i].1 : Int) := by
          have := Nat.div_le_self ps[i].2 ps[i].1
          rw [divN]
          omega
        have e3 : ((totP (ps.take i) : Nat) : Int) * ((ps[i].2 : Int) - (ps[i].2 : Int) / (ps[i].1 : Int)) = ((totP (ps.take (i + 1)) : Nat) : Int) := by
          rw [e1, ← e2]
          exact (Int.natCast_mul _ _).symm
        show [some (V.int n), some (V.int (((totP (ps.take i) : Nat) : Int) * ((ps[i].2 : Int) - (ps[i].2 : Int) / (ps[i].1 : Int)))), _, _] = _
        rw [e3]
        rfl
    · rintro σ H2 ⟨y2, y3, rfl, rfl⟩
      have hlen := hq.1
      rw [List.length_map] at hlen
      refine ⟨_, rfl, ?_⟩
      have := k ps H1 hp s1
      rw [List.length_map, List.take_of_length_le (by omega)]
      exact this
def spPow : Sp := fun vs H Q _ => ∃ n : Nat, vs = [.int n] ∧ 1 ≤ n ∧ n ≤ 10000 ∧ ∀ (a : Addr) (ps : List (Nat × Nat)) (zs : List Int) (H' : Hp), Parts n ps → zs.Perm (ps.map fun x => (x.2 : Int)) → zs.Pairwise (· ≤ ·) → Same H H' → H' a = some (.tup (zs.map V.int)) → Q (.ref a) H'
end


open PySem PySem.Spec PyProof.Rows L2 Gd Qu Nm
def fdK (c : Addr) (sp ov tn : Int) : List (Key × V) := [(Sum.inr "cells", .ref c), (Sum.inr "next", .int sp), (Sum.inr "rest", .int ov), (Sum.inr "turn", .int tn)]
theorem fd_cells {c : Addr} {sp ov tn : Int} : valV (fdK c sp ov tn) (Sum.inr "cells") = some (.ref c) := by
  unfold fdK
  exact valV_pos rfl
theorem k1 : ¬ (Sum.inr "cells" : Key) = (Sum.inr "next" : Key) := by decide +kernel
theorem k2 : ¬ (Sum.inr "cells" : Key) = (Sum.inr "rest" : Key) := by decide +kernel
theorem k3 : ¬ (Sum.inr "cells" : Key) = (Sum.inr "turn" : Key) := by decide +kernel
theorem k4 : ¬ (Sum.inr "next" : Key) = (Sum.inr "rest" : Key) := by decide +kernel
theorem k5 : ¬ (Sum.inr "next" : Key) = (Sum.inr "turn" : Key) := by decide +kernel
theorem k6 : ¬ (Sum.inr "rest" : Key) = (Sum.inr "turn" : Key) := by decide +kernel
theorem k7 : ¬ (Sum.inr "turn" : Key) = (Sum.inr "rest" : Key) := by decide +kernel
theorem k8 : ¬ (Sum.inr "turn" : Key) = (Sum.inr "next" : Key) := by decide +kernel
theorem k9 : ¬ (Sum.inr "rest" : Key) = (Sum.inr "next" : Key) := by decide +kernel
theorem fd_spot {c : Addr} {sp ov tn : Int} : valV (fdK c sp ov tn) (Sum.inr "next") = some (.int sp) := by
  unfold fdK
  rw [valV_neg k1, valV_pos rfl]
theorem fd_over {c : Addr} {sp ov tn : Int} : valV (fdK c sp ov tn) (Sum.inr "rest") = some (.int ov) := by
  unfold fdK
  rw [valV_neg k2, valV_neg k4, valV_pos rfl]
theorem fd_turn {c : Addr} {sp ov tn : Int} : valV (fdK c sp ov tn) (Sum.inr "turn") = some (.int tn) := by
  unfold fdK
  rw [valV_neg k3, valV_neg k5, valV_neg k6, valV_pos rfl]
theorem ne_cells_spot : ¬ ("cells" : Str) = ("next" : Str) := by decide +kernel
theorem ne_over_spot : ¬ ("rest" : Str) = ("next" : Str) := by decide +kernel
theorem ne_turn_spot : ¬ ("turn" : Str) = ("next" : Str) := by decide +kernel
theorem ne_cells_over : ¬ ("cells" : Str) = ("rest" : Str) := by decide +kernel
theorem ne_spot_over : ¬ ("next" : Str) = ("rest" : Str) := by decide +kernel
theorem ne_turn_over : ¬ ("turn" : Str) = ("rest" : Str) := by decide +kernel
theorem ne_cells_turn : ¬ ("cells" : Str) = ("turn" : Str) := by decide +kernel
theorem ne_spot_turn : ¬ ("next" : Str) = ("turn" : Str) := by decide +kernel
theorem ne_over_turn : ¬ ("rest" : Str) = ("turn" : Str) := by decide +kernel
theorem put_spot {c : Addr} {sp ov tn z : Int} : putK (fdK c sp ov tn) (Sum.inr "next") (.int z) = fdK c z ov tn := by
  unfold putK fdK
  rw [if_pos (by simp)]
  simp [ne_cells_spot, ne_over_spot, ne_turn_spot]
theorem put_over {c : Addr} {sp ov tn z : Int} : putK (fdK c sp ov tn) (Sum.inr "rest") (.int z) = fdK c sp z tn := by
  unfold putK fdK
  rw [if_pos (by simp)]
  simp [ne_cells_over, ne_spot_over, ne_turn_over]
theorem put_turn {c : Addr} {sp ov tn z : Int} : putK (fdK c sp ov tn) (Sum.inr "turn") (.int z) = fdK c sp ov z := by
  unfold putK fdK
  rw [if_pos (by simp)]
  simp [ne_cells_turn, ne_spot_turn, ne_over_turn]
theorem merge_fd {c : Addr} {x y z : Int} : mergeK [] [((Sum.inr "cells" : Key), V.ref c), (Sum.inr "next", .int x), (Sum.inr "rest", .int y), (Sum.inr "turn", .int z)] = fdK c x y z := by
  unfold mergeK fdK putK
  simp [ne_cells_spot, ne_cells_over, ne_spot_over, ne_cells_turn, ne_spot_turn, ne_over_turn]
/-- a feed at d, of the cells at c, after at most B draws -/
structure FeedAt (H : Hp) (d c : Addr) (cells : List Int) (B : Nat) : Prop where
  ex : ∃ sp ov tn : Int, H d = some (.dK (fdK c sp ov tn)) ∧ 0 ≤ sp ∧ sp ≤ B ∧ 0 ≤ ov ∧ 0 ≤ tn ∧ tn ≤ B
  cl : H c = some (.lst (cells.map V.int))
  few : cells.length ≤ 63
theorem FeedAt.ne {H : Hp} {d c : Addr} {cells : List Int} {B : Nat} (F : FeedAt H d c cells B) : d ≠ c := by
  obtain ⟨sp, ov, tn, h, _⟩ := F.ex
  exact ne_of h F.cl (by intro z; cases z)
theorem FeedAt.same {H H' : Hp} {d c : Addr} {cells : List Int} {B : Nat} (s : Same H H') (F : FeedAt H d c cells B) : FeedAt H' d c cells B := by
  obtain ⟨sp, ov, tn, h, r⟩ := F.ex
  exact ⟨⟨sp, ov, tn, s _ _ h, r⟩, s _ _ F.cl, F.few⟩
theorem FeedAt.mono {H : Hp} {d c : Addr} {cells : List Int} {B B' : Nat} (F : FeedAt H d c cells B) (h : B ≤ B') : FeedAt H d c cells B' := by
  obtain ⟨sp, ov, tn, h1, h2, h3, h4, h5, h6⟩ := F.ex
  exact ⟨⟨sp, ov, tn, h1, h2, by omega, h4, h5, by omega⟩, F.cl, F.few⟩
def spDraw : Sp := fun vs H Q _ => ∃ (d c : Addr) (cells : List Int) (B l : Nat), vs = [.ref d, .int l] ∧ FeedAt H d c cells B ∧ B ≤ 1000000 ∧ 1 ≤ l ∧ l ≤ 1000000 ∧
  ∀ (r : Nat) (H' : Hp), r < l → FeedAt H' d c cells (B + 1) → Kp d H H' → Q (.int r) H'
theorem g_cells {H : Hp} {d c : Addr} {sp ov tn : Int} (h : H d = some (.dK (fdK c sp ov tn))) : DGet H d (.str "cells") (some (.ref c)) := by
  have e := DGet.k (k := (Sum.inr "cells" : Key)) h
  rw [fd_cells] at e
  exact e
theorem g_spot {H : Hp} {d c : Addr} {sp ov tn : Int} (h : H d = some (.dK (fdK c sp ov tn))) : DGet H d (.str "next") (some (.int sp)) := by
  have e := DGet.k (k := (Sum.inr "next" : Key)) h
  rw [fd_spot] at e
  exact e
theorem g_over {H : Hp} {d c : Addr} {sp ov tn : Int} (h : H d = some (.dK (fdK c sp ov tn))) : DGet H d (.str "rest") (some (.int ov)) := by
  have e := DGet.k (k := (Sum.inr "rest" : Key)) h
  rw [fd_over] at e
  exact e
theorem g_turn {H : Hp} {d c : Addr} {sp ov tn : Int} (h : H d = some (.dK (fdK c sp ov tn))) : DGet H d (.str "turn") (some (.int tn)) := by
  have e := DGet.k (k := (Sum.inr "turn" : Key)) h
  rw [fd_turn] at e
  exact e
theorem p_spot {H : Hp} {d c : Addr} {sp ov tn z : Int} (h : H d = some (.dK (fdK c sp ov tn))) : DPut H d (.str "next") (.int z) (upd H d (.dK (fdK c z ov tn))) := by
  have e := DPut.k (k := (Sum.inr "next" : Key)) (v := .int z) h (by show 4 < sizeLine; decide)
  rw [put_spot] at e
  exact e
theorem p_over {H : Hp} {d c : Addr} {sp ov tn z : Int} (h : H d = some (.dK (fdK c sp ov tn))) : DPut H d (.str "rest") (.int z) (upd H d (.dK (fdK c sp z tn))) := by
  have e := DPut.k (k := (Sum.inr "rest" : Key)) (v := .int z) h (by show 4 < sizeLine; decide)
  rw [put_over] at e
  exact e
theorem p_turn {H : Hp} {d c : Addr} {sp ov tn z : Int} (h : H d = some (.dK (fdK c sp ov tn))) : DPut H d (.str "turn") (.int z) (upd H d (.dK (fdK c sp ov z))) := by
  have e := DPut.k (k := (Sum.inr "turn" : Key)) (v := .int z) h (by show 4 < sizeLine; decide)
  rw [put_turn] at e
  exact e
section
variable {P : Program} {w : World} {K : PySem.W.Frag} {mg : Str → Option Value} {base : Heap}
def spFeed (K : PySem.W.Frag) : Sp := fun vs H Q _ => ∃ (a : Addr) (ns : List Int), vs = [.ref a] ∧ SqL K H a (ns.map V.int) ∧ ns.length ≤ 63 ∧ ∀ (d c : Addr) (cells : List Int) (H' : Hp), FeedAt H' d c cells 0 → Same H H' → Q (.ref d) H'
end


open PySem PySem.Spec PyProof.Rows L2 Gd Qu Nm
theorem dpInts {K : PySem.W.Frag} {H : Hp} : ∀ ns : List Int, DpAll K H (ns.map V.int) (ns.map PyData.int)
  | [] => .nil
  | n :: ns => .cons (.int n) (dpInts ns)
theorem canInts : ∀ ns : List Int, PyData.canLayAll0 (ns.map PyData.int) = true
  | [] => by simp [PyData.canLayAll0]
  | n :: ns => by simp [PyData.canLayAll0, PyData.canLay0, canInts ns]
theorem depthInts : ∀ ns : List Int, PyData.depthAll (ns.map PyData.int) ≤ 1
  | [] => by simp [PyData.depthAll]
  | n :: ns => by
    have := depthInts ns
    simp [PyData.depthAll, PyData.depth]
    omega
theorem shapedInts (ns : List Int) : SeqAt.shaped (.list (ns.map PyData.int)) = true := by
  unfold SeqAt.shaped
  rw [Bool.and_eq_true]
  refine ⟨?_, decide_eq_true ?_⟩
  · simp [PyData.canLay0, canInts]
  · have := depthInts ns
    simp [PyData.depth]
    omega
section
variable {P : Program} {w : World} {K : PySem.W.Frag} {mg : Str → Option Value} {base : Heap}
end


open PySem PySem.Spec PyProof.Rows L2 Gd Qu Nm
section
variable {P : Program} {w : World} {K : PySem.W.Frag} {mg : Str → Option Value} {base : Heap}
def spSame (K : PySem.W.Frag) : Sp := fun vs H Q _ => ∃ (a b : Addr) (dt : PyData), vs = [.ref a, .ref b] ∧ Dp K H (.ref a) dt ∧ Dp K H (.ref b) dt ∧ OkD dt 16000000 ∧ Q (.bl true) H
def spGcd : Sp := fun vs H Q _ => ∃ a b : Int, vs = [.int a, .int b] ∧ Q (.int ((Nat.gcd a.natAbs b.natAbs : Nat) : Int)) H
end


open PySem PySem.Spec PyProof.Rows L2 Gd Qu Nm
theorem FeedAt.neQ {H : Hp} {d c p : Addr} {cells : List Int} {B : Nat} {q : Int × Int} (F : FeedAt H d c cells B) (h : QAt H p q) : p ≠ d := by
  obtain ⟨sp, ov, tn, e, _⟩ := F.ex
  exact ne_of h e (by intro z; cases z)
theorem FeedAt.neL {H : Hp} {d c p : Addr} {cells : List Int} {B : Nat} {xs : List V} (F : FeedAt H d c cells B) (h : H p = some (.lst xs)) : p ≠ d := by
  obtain ⟨sp, ov, tn, e, _⟩ := F.ex
  exact ne_of h e (by intro z; cases z)
theorem FeedAt.neT {H : Hp} {d c p : Addr} {cells : List Int} {B : Nat} {xs : List V} (F : FeedAt H d c cells B) (h : H p = some (.tup xs)) : p ≠ d := by
  obtain ⟨sp, ov, tn, e, _⟩ := F.ex
  exact ne_of h e (by intro z; cases z)
section
variable {P : Program} {w : World} {K : PySem.W.Frag} {mg : Str → Option Value} {base : Heap}
def spAny : Sp := fun vs H Q _ => ∃ (d c a : Addr) (cells : List Int) (B : Nat) (xs : List V), vs = [.ref d, .ref a] ∧ FeedAt H d c cells B ∧ B ≤ 100000 ∧ H a = some (.lst xs) ∧ 1 ≤ xs.length ∧ xs.length ≤ 1000 ∧
  ∀ (x : V) (H' : Hp), x ∈ xs → FeedAt H' d c cells (B + 1) → Kp d H H' → Q x H'
def spFrac : Sp := fun vs H Q _ => ∃ (d c : Addr) (cells : List Int) (B : Nat), vs = [.ref d] ∧ FeedAt H d c cells B ∧ B ≤ 100000 ∧
  ∀ (q : Int × Int) (p : Addr) (H' : Hp), IsQ q → Sz 150 q → FeedAt H' d c cells (B + 3) → Kp d H H' → QAt H' p q → Q (.ref p) H'
theorem ten40 : (10 : Int) ^ (40 : Int).toNat = 10000000000000000000000000000000000000000 := by decide
theorem ten30 : (10 : Int) ^ (30 : Int).toNat = 1000000000000000000000000000000 := by decide
theorem two150 : (2 : Nat) ^ 150 = 1427247692705959881058285969449495136382746624 := by decide
end


open PySem PySem.Spec PyProof.Rows L2 Gd Qu Nm
structure HalfF (n : Nat) (fs : List Nat) (rest step : Nat) : Prop where
  prod : prodN fs * rest = n
  asc : fs.Pairwise (· ≤ ·)
  pr : ∀ p ∈ fs, Pr p
  le : ∀ p ∈ fs, p ≤ step
  nod : ∀ d, 2 ≤ d → d < step → ¬ d ∣ rest
  pos : 1 ≤ rest
theorem fs_len {n rest : Nat} {fs : List Nat} (h : prodN fs * rest = n) (hp : ∀ p ∈ fs, Pr p) (hr : 1 ≤ rest) : fs.length ≤ n := by
  have key : ∀ l : List Nat, (∀ p ∈ l, Pr p) → l.length + 1 ≤ prodN l := by
    intro l
    induction l with
    | nil => intro _; exact Nat.le_refl _
    | cons x l ih =>
      intro hx
      have h1 := ih fun y hy => hx y (List.mem_cons_of_mem _ hy)
      have h2 := (hx x List.mem_cons_self).1
      have h5 : 2 * (l.length + 1) ≤ x * prodN l := Nat.mul_le_mul h2 h1
      show l.length + 1 + 1 ≤ x * prodN l
      omega
  have h1 := key fs hp
  have h2 : prodN fs * 1 ≤ n := by
    rw [← h]
    exact Nat.mul_le_mul_left _ hr
  omega
theorem HalfF.more {n rest r step : Nat} {fs : List Nat} (h : HalfF n fs rest step) (hs : 2 ≤ step) (e : rest = step * r) : HalfF n (fs ++ [step]) r step := by
  have hp : Pr step := (least_at hs h.nod ⟨r, e⟩).pr
  have r0 : 1 ≤ r := by
    have := h.pos
    cases r with
    | zero => rw [Nat.mul_zero] at e; omega
    | succ r => omega
  refine ⟨?_, List.pairwise_append.mpr ⟨h.asc, List.pairwise_singleton _ _, fun a ha b hb => ?_⟩, fun p hp' => ?_, fun p hp' => ?_, fun d h1 h2 h3 => h.nod d h1 h2 (Nat.dvd_trans h3 ⟨step, by rw [e, Nat.mul_comm]⟩), r0⟩
  · rw [prodN_snoc, ← h.prod, e]
    ac_rfl
  · rw [List.mem_singleton.mp hb]
    exact h.le a ha
  · rcases List.mem_append.mp hp' with z | z
    · exact h.pr p z
    · rw [List.mem_singleton.mp z]
      exact hp
  · rcases List.mem_append.mp hp' with z | z
    · exact h.le p z
    · rw [List.mem_singleton.mp z]
      exact Nat.le_refl _
theorem HalfF.done {n rest step : Nat} {fs : List Nat} (h : HalfF n fs rest step) (hlt : rest < step * step) (hs : ∀ p ∈ fs, p < step) : Facs n (fs ++ if 1 < rest then [rest] else []) := by
  have hpos := h.pos
  by_cases c : 1 < rest
  · rw [if_pos c]
    have hp : Pr rest := (least_self c h.nod hlt).pr
    have hge : step ≤ rest := Nat.le_of_not_lt fun z => h.nod rest c z (Nat.dvd_refl _)
    refine ⟨fun p hp' => ?_, List.pairwise_append.mpr ⟨h.asc, List.pairwise_singleton _ _, fun a ha b hb => ?_⟩, ?_⟩
    · rcases List.mem_append.mp hp' with z | z
      · exact h.pr p z
      · rw [List.mem_singleton.mp z]
        exact hp
    · rw [List.mem_singleton.mp hb]
      exact Nat.le_trans (Nat.le_of_lt (hs a ha)) hge
    · rw [prodN_snoc]
      exact h.prod
  · rw [if_neg c, List.append_nil]
    refine ⟨h.pr, h.asc, ?_⟩
    have e : rest = 1 := by omega
    have := h.prod
    rw [e, Nat.mul_one] at this
    exact this
/-- ints of naturals -/
def nV (fs : List Nat) : List V := fs.map fun (p : Nat) => V.int (p : Int)
theorem nV_ints (fs : List Nat) : nV fs = (fs.map fun (p : Nat) => (p : Int)).map V.int := by
  unfold nV
  rw [List.map_map]
  rfl
section
variable {P : Program} {w : World} {K : PySem.W.Frag} {mg : Str → Option Value} {base : Heap}
def spFacs : Sp := fun vs H Q _ => ∃ n : Nat, vs = [.int n] ∧ 1 ≤ n ∧ n ≤ 10000 ∧ ∀ (a : Addr) (fs : List Nat) (H' : Hp), Facs n fs → fs.length ≤ n → Same H H' → H' a = some (.lst (nV fs)) → Q (.ref a) H'
def FOut (H : Hp) (n : Nat) (m : Nat) (σ : L2.St) (H' : Hp) : Prop := ∃ (l : Addr) (fs : List Nat) (rest step : Nat), σ = [some (.int n), some (.ref l), some (.int rest), some (.int step)] ∧
  Same H H' ∧ H l = none ∧ H' l = some (.lst (nV fs)) ∧ HalfF n fs rest step ∧ (∀ p ∈ fs, p < step) ∧ 2 ≤ step ∧ step ≤ n + 1 ∧ m = n + 2 - step
def FIn (H : Hp) (n step : Nat) (l : Addr) (m : Nat) (σ : L2.St) (H' : Hp) : Prop := ∃ (fs : List Nat) (rest : Nat), σ = [some (.int n), some (.ref l), some (.int rest), some (.int step)] ∧
  Same H H' ∧ H' l = some (.lst (nV fs)) ∧ HalfF n fs rest step ∧ rest = m
end


open PySem PySem.Spec PyProof.Rows L2 Gd Qu Nm
theorem prodN_take {fs : List Nat} {i : Nat} {p : Nat} (h : fs[i]? = some p) : prodN (fs.take (i + 1)) = prodN (fs.take i) * p := by
  rw [List.take_add_one, h, Option.toList, prodN_snoc]
theorem nV_get {fs : List Nat} {i : Nat} {x : V} (h : (nV fs)[i]? = some x) : ∃ p, fs[i]? = some p ∧ x = V.int (p : Nat) := by
  unfold nV at h
  rw [List.getElem?_map] at h
  cases e : fs[i]? with
  | none => rw [e] at h; cases h
  | some p =>
    rw [e] at h
    exact ⟨p, rfl, (Option.some.inj h).symm⟩
theorem nV_len (fs : List Nat) : (nV fs).length = fs.length := by
  unfold nV
  rw [List.length_map]
/-- from ints back: a strictly ascending list of ints whose members are those of naturals -/
theorem ks_nat {ks : List Int} {ds : List Nat} (asc : ks.Pairwise (· < ·)) (dasc : ds.Pairwise (· < ·)) (h : ∀ k : Int, k ∈ ks ↔ ∃ d ∈ ds, k = (d : Int)) : ks = ds.map fun (d : Nat) => (d : Int) := by
  refine asc_ext (r := fun a b : Int => a < b) (fun a => Int.lt_irrefl a) (fun _ _ _ => Int.lt_trans) asc (List.pairwise_map.mpr (dasc.imp fun h => by omega)) fun k => ?_
  rw [h k, List.mem_map]
  constructor
  · rintro ⟨d, hd, e⟩
    exact ⟨d, hd, e.symm⟩
  · rintro ⟨d, hd, e⟩
    exact ⟨d, hd, e.symm⟩
/-- .. as naturals -/
theorem ks_ex {ks : List Int} {S : Nat → Prop} (asc : ks.Pairwise (· < ·)) (h : ∀ k : Int, k ∈ ks ↔ ∃ d : Nat, S d ∧ k = (d : Int)) : ∃ ds : List Nat, ks = ds.map (fun (d : Nat) => (d : Int)) ∧ ds.Pairwise (· < ·) ∧ ∀ d, d ∈ ds ↔ S d := by
  refine ⟨ks.map Int.toNat, ?_, ?_, fun d => ?_⟩
  · rw [List.map_map]
    symm
    refine (List.map_congr_left fun k hk => ?_).trans (List.map_id _)
    obtain ⟨d, _, rfl⟩ := (h k).mp hk
    rfl
  · rw [List.pairwise_map]
    refine List.Pairwise.imp_of_mem ?_ asc
    intro a b ha hb hab
    obtain ⟨x, _, rfl⟩ := (h a).mp ha
    obtain ⟨y, _, rfl⟩ := (h b).mp hb
    show ((x : Int)).toNat < ((y : Int)).toNat
    omega
  · rw [List.mem_map]
    constructor
    · rintro ⟨k, hk, rfl⟩
      obtain ⟨x, hx, rfl⟩ := (h k).mp hk
      exact hx
    · intro hd
      exact ⟨d, (h _).mpr ⟨d, hd, rfl⟩, rfl⟩
section
variable {P : Program} {w : World} {K : PySem.W.Frag} {mg : Str → Option Value} {base : Heap}
end


open PySem PySem.Spec PyProof.Rows L2 Gd Qu Nm
theorem nV_dp {K : PySem.W.Frag} {H : Hp} : ∀ fs : List Nat, DpAll K H (nV fs) (fs.map fun (p : Nat) => PyData.int (p : Int))
  | [] => .nil
  | p :: fs => .cons (.int _) (nV_dp fs)
theorem okA_nats {b : Nat} {fs : List Nat} (h : ∀ p ∈ fs, p < 2 ^ b) (h0 : 0 < b) (hb : b ≤ 1920) : OkA (fs.map fun (p : Nat) => PyData.int (p : Int)) 0 (1923 * fs.length) := by
  have e : (fs.map fun (p : Nat) => PyData.int (p : Int)) = (fs.map fun (p : Nat) => (p : Int)).map PyData.int := by rw [List.map_map]; rfl
  rw [e]
  have := okA_ints h0 hb (ns := fs.map fun (p : Nat) => (p : Int)) fun i hi => by
    obtain ⟨p, hp, rfl⟩ := List.mem_map.mp hi
    rw [Int.natAbs_natCast]
    exact h p hp
  rw [List.length_map] at this
  exact this
theorem facs1 {fs : List Nat} (g : Facs 1 fs) : fs = [] := by
  cases fs with
  | nil => rfl
  | cons a fs =>
    have h := g.prod
    have h1 := (g.pr a List.mem_cons_self).1
    have h2 : 0 < prodN fs := prod_pos fun b hb => (g.pr b (List.mem_cons_of_mem _ hb)).pos
    have h3 : 2 * 1 ≤ a * prodN fs := Nat.mul_le_mul h1 h2
    have h4 : a * prodN fs = 1 := h
    omega
theorem isP {n : Nat} {fs : List Nat} (h1 : 1 ≤ n) (g : Facs n fs) {b : Bool} (hb : b = true ↔ 2 ≤ n ∧ Least n n) : b = decide (fs.length = 1) := by
  have key : (2 ≤ n ∧ Least n n) ↔ fs.length = 1 := by
    by_cases e : n = 1
    · subst e
      have e2 := facs1 g
      subst e2
      constructor
      · rintro ⟨z, _⟩
        omega
      · intro z
        exact absurd z (by decide)
    · obtain ⟨l, hl⟩ := least_ex (n := n) (by omega)
      constructor
      · rintro ⟨_, z⟩
        exact (g.one hl).mp (hl.uniq z)
      · intro z
        have := (g.one hl).mpr z
        exact ⟨by omega, this ▸ hl⟩
  cases b with
  | true => exact (decide_eq_true (key.mp (hb.mp rfl))).symm
  | false => exact (decide_eq_false fun z => Bool.false_ne_true (hb.mpr (key.mpr z))).symm
section
variable {P : Program} {w : World} {K : PySem.W.Frag} {mg : Str → Option Value} {base : Heap}
def cntF (n : Nat) (x : V) : Option V := match x with
  | .int i => if Nat.gcd i.natAbs n = 1 then some (.int i) else none
  | _ => none
end


open PySem PySem.Spec PyProof.Rows L2 Gd Pv
/-- a tuple of whole numbers -/
def TAt (H : Hp) (a : Addr) (xs : List Int) : Prop := H a = some (.tup (xs.map V.int))
theorem TAt.same {H H' : Hp} {a : Addr} {xs : List Int} (s : Same H H') (h : TAt H a xs) : TAt H' a xs := s _ _ h
theorem TAt.sq {K : PySem.W.Frag} {H : Hp} {a : Addr} {xs : List Int} (h : TAt H a xs) : SqT K H a (xs.map V.int) := .inl (.inl h)
section
variable {P : Program} {w : World} {K : PySem.W.Frag} {mg : Str → Option Value} {base : Heap}
def spIsNum : Sp := fun vs H Q _ => ∃ i : Int, vs = [.int i] ∧ Q (.bl (decide (0 ≤ i))) H
/-- a voice: at least one weight -/
def spIsVoice : Sp := fun vs H Q _ => ∃ (a : Addr) (xs : List Int), vs = [.ref a] ∧ TAt H a xs ∧ 0 < xs.length ∧ xs.length ≤ 1000 ∧ ∀ H', Same H H' → Q (.bl true) H'
def spIsVoiceOf : Sp := fun vs H Q _ => ∃ (a : Addr) (n : Nat) (xs : List Int), vs = [.int n, .ref a] ∧ TAt H a xs ∧ xs.length = n ∧ 0 < n ∧ n ≤ 1000 ∧ ∀ H', Same H H' → Q (.bl true) H'
def spIsBeat : Sp := fun vs H Q _ => ∃ n b : Nat, vs = [.int n, .int b] ∧ b < n ∧ Q (.bl true) H
end


open PySem PySem.Spec PyProof.Rows L2 Gd Pv
/-- all below two to the b -/
def Bd (b : Nat) (xs : List Int) : Prop := ∀ x ∈ xs, x.natAbs < 2 ^ b
/-- the weights while the row j is added, k beats in -/
def part (n : Nat) (W F G : Int → Int) (j k : Nat) : Int → Int := fun b => W b + if (b - j) % n < (k : Int) then F j * G (b - j) else 0
theorem part_zero {n : Nat} (hn : 0 < n) (W F G : Int → Int) (j : Nat) : of n (part n W F G j 0) = of n W := of_congr fun b _ => by
  unfold part
  have := Int.emod_nonneg ((b : Int) - j) (show (n : Int) ≠ 0 by omega)
  rw [if_neg (by omega), Int.add_zero]
theorem part_all {n : Nat} (hn : 0 < n) (W F G : Int → Int) (j : Nat) : of n (part n W F G j n) = of n (fun b => W b + F j * G (b - j)) := of_congr fun b _ => by
  unfold part
  have := Int.emod_lt_of_pos ((b : Int) - j) (show (0 : Int) < n by omega)
  rw [if_pos this]
theorem part_step {n : Nat} {W F G : Int → Int} {j k : Nat} (g : Per n G) (hj : j < n) (hk : k < n) :
    (of n (part n W F G j k)).set ((j + k) % n) (part n W F G j k (((j + k) % n : Nat) : Int) + F j * G k) = of n (part n W F G j (k + 1)) := by
  have hn : 0 < n := by omega
  have hb : (j + k) % n < n := Nat.mod_lt _ hn
  refine List.ext_getElem (by rw [List.length_set, of_len, of_len]) fun b h1 h2 => ?_
  rw [of_len] at h2
  have e2 := of_get (F := part n W F G j (k + 1)) h2
  rw [List.getElem?_eq_getElem (by rw [of_len]; exact h2)] at e2
  rw [Option.some.inj e2, List.getElem_set]
  have ib := beat_iff hj hk h2
  by_cases e : (j + k) % n = b
  · rw [if_pos e, e]
    have em : ((b : Int) - j) % n = k := ib.mpr e.symm
    have eg : G ((b : Int) - j) = G k := by rw [← g.mod hn ((b : Int) - j), em]
    unfold part
    rw [em, if_neg (by omega), if_pos (by omega), eg, Int.add_zero]
  · rw [if_neg e]
    have e1 := of_get (F := part n W F G j k) h2
    rw [List.getElem?_eq_getElem (by rw [of_len]; exact h2)] at e1
    rw [Option.some.inj e1]
    have nm : ¬ ((b : Int) - j) % n = k := fun z => e (ib.mp z).symm
    unfold part
    by_cases c : ((b : Int) - j) % n < (k : Int)
    · rw [if_pos c, if_pos (by omega)]
    · rw [if_neg c, if_neg (by omega)]
/-- what the first j rows make -/
def rows (F G : Int → Int) (j : Nat) : Int → Int := fun b => S j fun i => F i * G (b - i)
theorem rows_succ (F G : Int → Int) (j : Nat) (b : Int) : rows F G j b + F j * G (b - j) = rows F G (j + 1) b := rfl
theorem rows_all (n : Nat) (F G : Int → Int) : rows F G n = conv n F G := rfl
section
variable {P : Program} {w : World} {K : PySem.W.Frag} {mg : Str → Option Value} {base : Heap}
def spProd : Sp := fun vs H Q _ => ∃ (a b : Addr) (xs ys : List Int) (n : Nat) (c d : Nat), vs = [.ref a, .ref b] ∧ TAt H a xs ∧ TAt H b ys ∧ xs.length = n ∧ ys.length = n ∧ 0 < n ∧ n ≤ 1000 ∧ Bd c xs ∧ Bd d ys ∧ 0 < c ∧ 0 < d ∧ c + d ≤ 100000 ∧
  ∀ (p : Addr) (H' : Hp), Same H H' → TAt H' p (of n (conv n (per xs) (per ys))) → Q (.ref p) H'
end


open PySem PySem.Spec PyProof.Rows L2 Gd Pv
theorem zeros (n : Nat) (F G : Int → Int) : List.replicate n (0 : Int) = of n (rows F G 0) := by
  refine List.ext_getElem (by rw [List.length_replicate, of_len]) fun i h1 h2 => ?_
  rw [of_len] at h2
  have z := of_get (F := rows F G 0) h2
  rw [List.getElem?_eq_getElem (by rw [of_len]; exact h2)] at z
  rw [Option.some.inj z, List.getElem_replicate]
  rfl
section
variable {P : Program} {w : World} {K : PySem.W.Frag} {mg : Str → Option Value} {base : Heap}
end


open PySem PySem.Spec PyProof.Rows L2 Gd Pv
/-- len, told ahead: inside a comprehension its frame is not to be guessed -/
def rLenS (K : PySem.W.Frag) : List V → Hp → VK → Prop := fun xs H Q => ∃ p ys, xs = [V.ref p] ∧ (SqL K H p ys ∨ SqT K H p ys) ∧ Q (.int (ys.length : Nat)) H
theorem of_V (n : Nat) (F : Int → Int) : (List.range n).map (fun j => V.int (F (j : Nat))) = (of n F).map V.int := by
  unfold of
  rw [List.map_map]
  rfl
theorem at_per {xs : List Int} {n : Nat} (hl : xs.length = n) (hn : 0 < n) (i : Int) : atI (xs.map V.int) (i % (n : Int)) = some (.int (per xs i)) := by
  subst hl
  have h1 := Int.emod_nonneg i (show (xs.length : Int) ≠ 0 by omega)
  have h2 := Int.emod_lt_of_pos i (show (0 : Int) < (xs.length : Int) by omega)
  obtain ⟨k, hk⟩ : ∃ k : Nat, i % (xs.length : Int) = k := ⟨_, (Int.toNat_of_nonneg h1).symm⟩
  have hkl : k < xs.length := by omega
  have e : per xs i = xs[k] := by
    rw [← (per_per xs).mod hn i, hk]
    exact per_get hkl
  rw [hk, e]
  exact atI_nat (j := k) (by rw [List.getElem?_map, List.getElem?_eq_getElem hkl]; rfl)
section
variable {P : Program} {w : World} {K : PySem.W.Frag} {mg : Str → Option Value} {base : Heap}
def spTurn : Sp := fun vs H Q _ => ∃ (a : Addr) (xs : List Int) (n : Nat) (k : Int), vs = [.ref a, .int k] ∧ TAt H a xs ∧ xs.length = n ∧ 0 < n ∧ n ≤ 1000 ∧ ∀ (p : Addr) (H' : Hp), Same H H' → TAt H' p (of n fun b => per xs (b - k)) → Q (.ref p) H'
def spMirror : Sp := fun vs H Q _ => ∃ (a : Addr) (xs : List Int) (n : Nat), vs = [.ref a] ∧ TAt H a xs ∧ xs.length = n ∧ 0 < n ∧ n ≤ 1000 ∧ ∀ (p : Addr) (H' : Hp), Same H H' → TAt H' p (of n fun b => per xs (-b)) → Q (.ref p) H'
end


open PySem PySem.Spec PyProof.Rows L2 Gd Pv
/-- 1 at the told beats -/
def ind (n : Nat) (ss : List Int) : Int → Int := fun b => if b % (n : Int) ∈ ss then 1 else 0
theorem per_ind (n : Nat) (ss : List Int) : Per n (ind n ss) := fun i => by
  unfold ind
  rw [Int.add_emod_right]
theorem ind_at {n j : Nat} (h : j < n) (ss : List Int) : ind n ss j = if (j : Int) ∈ ss then 1 else 0 := by
  unfold ind
  rw [Int.emod_eq_of_lt (by omega) (by omega)]
theorem sameT {K : PySem.W.Frag} {H H' : Hp} {a : Addr} {xs : List V} (e : Same H H') (h : SqT K H a xs) : SqT K H' a xs := by
  rcases h with z | z
  · rcases z with z | ⟨o, z⟩
    · exact .inl (.inl (e a _ z))
    · exact .inl (.inr ⟨o, e a _ z⟩)
  · exact .inr z
theorem inV_ints (i : Int) (ss : List Int) : inV (.int i) (ss.map V.int) = decide (i ∈ ss) := by
  unfold inV
  rw [List.any_map]
  induction ss with
  | nil => rfl
  | cons x xs ih =>
    rw [List.any_cons, ih]
    have e : ((fun y => eqV y (V.int i)) ∘ V.int) x = (x == i) := rfl
    rw [e]
    by_cases h : x = i
    · subst h
      simp
    · have h2 : ¬ i = x := fun z => h z.symm
      simp [h, h2]
theorem flat_ints (ss : List Int) : (ss.map V.int).all flatV = true := by
  rw [List.all_map]
  exact List.all_eq_true.mpr fun _ _ => rfl
theorem sum_S (xs : List Int) : xs.sum = S xs.length (per xs) := by
  have key : ∀ m, m ≤ xs.length → (xs.take m).sum = S m (per xs) := by
    intro m
    induction m with
    | zero =>
      intro _
      rfl
    | succ m ih =>
      intro hm
      have h1 : m < xs.length := hm
      rw [sum_take (List.getElem?_eq_getElem h1), ih (by omega), ← per_get h1]
      rfl
  have e := key xs.length (Nat.le_refl _)
  rw [List.take_length] at e
  exact e
section
variable {P : Program} {w : World} {K : PySem.W.Frag} {mg : Str → Option Value} {base : Heap}
def spStrokes (K : PySem.W.Frag) : Sp := fun vs H Q _ => ∃ (s : Addr) (ss : List Int) (n : Nat), vs = [.int n, .ref s] ∧ (SqL K H s (ss.map V.int) ∨ SqT K H s (ss.map V.int)) ∧ n ≤ 1000 ∧ ∀ (p : Addr) (H' : Hp), Same H H' → TAt H' p (of n (ind n ss)) → Q (.ref p) H'
def spOnes : Sp := fun vs H Q _ => ∃ n : Nat, vs = [.int n] ∧ 0 < n ∧ n ≤ 1000 ∧ ∀ (p : Addr) (H' : Hp), Same H H' → TAt H' p (of n fun _ => 1) → Q (.ref p) H'
def spTotal : Sp := fun vs H Q _ => ∃ (a : Addr) (xs : List Int), vs = [.ref a] ∧ TAt H a xs ∧ 0 < xs.length ∧ xs.length ≤ 1000 ∧ ∀ H', Same H H' → Q (.int (S xs.length (per xs))) H'
end


open PySem PySem.Spec PyProof.Rows L2 Gd Pv RZ
theorem map_of {n : Nat} {xs : List Int} (hl : xs.length = n) (f : Int → Int) : xs.map f = of n fun b => f (per xs b) := by
  subst hl
  refine List.ext_getElem (by rw [List.length_map, of_len]) fun i h1 h2 => ?_
  rw [of_len] at h2
  have z := of_get (F := fun b => f (per xs b)) h2
  rw [List.getElem?_eq_getElem (by rw [of_len]; exact h2)] at z
  rw [Option.some.inj z, List.getElem_map, per_get h2]
section
variable {P : Program} {w : World} {K : PySem.W.Frag} {mg : Str → Option Value} {base : Heap}
def spMult : Sp := fun vs H Q _ => ∃ (a : Addr) (xs : List Int) (n : Nat) (k : Int) (c : Nat), vs = [.ref a, .int k] ∧ TAt H a xs ∧ xs.length = n ∧ 0 < n ∧ n ≤ 1000 ∧ Bd c xs ∧ k.natAbs < 2 ^ c ∧ 0 < c ∧ c ≤ 100000 ∧ ∀ (p : Addr) (H' : Hp), Same H H' → TAt H' p (of n fun b => per xs b * k) → Q (.ref p) H'
def spAdded : Sp := fun vs H Q _ => ∃ (a b : Addr) (xs ys : List Int) (n : Nat), vs = [.ref a, .ref b] ∧ TAt H a xs ∧ TAt H b ys ∧ xs.length = n ∧ ys.length = n ∧ 0 < n ∧ n ≤ 1000 ∧ ∀ (p : Addr) (H' : Hp), Same H H' → TAt H' p (of n fun i => per xs i + per ys i) → Q (.ref p) H'
end


open PySem PySem.Spec PyProof.Rows L2 Gd Pv RZ
theorem cut1 (ss : List Int) : cutV (ss.map V.int) (some 1) none = (ss.drop 1).map V.int := by
  unfold cutV
  rw [show (1 : Int) = ((1 : Nat) : Int) from rfl, HT.sIx_nat, HT.sIx_none]
  cases ss with
  | nil => rfl
  | cons x r =>
    rw [List.length_map, show min 1 (x :: r).length = 1 by rw [List.length_cons]; omega, ← List.map_drop]
    refine List.take_of_length_le ?_
    rw [List.length_map, List.length_drop]
    exact Nat.le_refl _
theorem two {ss : List Int} {i : Nat} {x y : V} (hp : ss.Pairwise (· < ·)) (e1 : (ss.map V.int)[i]? = some x) (e2 : ((ss.drop 1).map V.int)[i]? = some y) : x = .int (ss.getD i 0) ∧ ∃ u, y = .int u ∧ ss.getD i 0 < u := by
  rw [List.getElem?_map] at e1 e2
  rw [List.getElem?_drop] at e2
  cases h1 : ss[i]? with
  | none => rw [h1] at e1; cases e1
  | some a =>
    cases h2 : ss[1 + i]? with
    | none => rw [h2] at e2; cases e2
    | some b =>
      rw [h1] at e1
      rw [h2] at e2
      obtain ⟨k1, q1⟩ := List.getElem?_eq_some_iff.mp h1
      obtain ⟨k2, q2⟩ := List.getElem?_eq_some_iff.mp h2
      have lt := List.pairwise_iff_getElem.mp hp i (1 + i) k1 k2 (by omega)
      rw [q1, q2] at lt
      have ed : ss.getD i 0 = a := by rw [List.getD_eq_getElem?_getD, h1]; rfl
      rw [ed]
      exact ⟨(Option.some.inj e1).symm, b, (Option.some.inj e2).symm, lt⟩
section
variable {P : Program} {w : World} {K : PySem.W.Frag} {mg : Str → Option Value} {base : Heap}
def spIntSet : Sp := fun vs H Q _ => ∃ (a : Addr) (ss : List Int), vs = [.ref a] ∧ TAt H a ss ∧ ss.Pairwise (· < ·) ∧ ss.length ≤ 1000 ∧ ∀ H', Same H H' → Q (.bl true) H'
end


open PySem PySem.Spec PyProof.Rows L2 Gd Pv RZ
/-- beats of a clock, ascending -/
structure Beats (n : Nat) (ss : List Int) : Prop where
  asc : ss.Pairwise (· < ·)
  lo : ∀ s ∈ ss, 0 ≤ s
  hi : ∀ s ∈ ss, s < (n : Int)
theorem asc_len : ∀ {ss : List Int} {l : Int} {m : Nat}, ss.Pairwise (· < ·) → (∀ s ∈ ss, l ≤ s) → (∀ s ∈ ss, s < l + (m : Int)) → ss.length ≤ m
  | [], _, _, _, _, _ => Nat.zero_le _
  | x :: r, l, m, hp, hl, hh => by
    have hx1 := hl x List.mem_cons_self
    have hx2 := hh x List.mem_cons_self
    rw [List.pairwise_cons] at hp
    have ih := asc_len (l := x + 1) (m := (l + (m : Int) - (x + 1)).toNat) hp.2 (fun s hs => by have := hp.1 s hs; omega) (fun s hs => by
      have h1 := hh s (List.mem_cons_of_mem _ hs)
      have h2 := hp.1 s hs
      omega)
    rw [List.length_cons]
    omega
theorem Beats.len {n : Nat} {ss : List Int} (h : Beats n ss) : ss.length ≤ n := asc_len (l := 0) h.asc h.lo fun s hs => by
  have := h.hi s hs
  omega
section
variable {P : Program} {w : World} {K : PySem.W.Frag} {mg : Str → Option Value} {base : Heap}
def spIsBeats : Sp := fun vs H Q _ => ∃ (a : Addr) (ss : List Int) (n : Nat), vs = [.int n, .ref a] ∧ TAt H a ss ∧ Beats n ss ∧ 0 < n ∧ n ≤ 1000 ∧ ∀ H', Same H H' → Q (.bl true) H'
/-- the first i of the told beats are struck -/
theorem ind_step {n i : Nat} {ss : List Int} {s : Nat} (hi : ss[i]? = some (s : Int)) (hs : s < n) : (of n (ind n (ss.take i))).set s 1 = of n (ind n (ss.take (i + 1))) := by
  refine List.ext_getElem (by rw [List.length_set, of_len, of_len]) fun b h1 h2 => ?_
  rw [of_len] at h2
  have e2 := of_get (F := ind n (ss.take (i + 1))) h2
  rw [List.getElem?_eq_getElem (by rw [of_len]; exact h2)] at e2
  rw [Option.some.inj e2, List.getElem_set, ind_at h2, List.take_add_one, hi]
  by_cases e : s = b
  · subst e
    rw [if_pos rfl, if_pos (by simp)]
  · rw [if_neg e]
    have e1 := of_get (F := ind n (ss.take i)) h2
    rw [List.getElem?_eq_getElem (by rw [of_len]; exact h2)] at e1
    rw [Option.some.inj e1, ind_at h2]
    have nb : ¬ (b : Int) = (s : Int) := by omega
    simp [nb]
def spVoiceOf : Sp := fun vs H Q _ => ∃ (a : Addr) (ss : List Int) (n : Nat), vs = [.int n, .ref a] ∧ TAt H a ss ∧ Beats n ss ∧ 0 < n ∧ n ≤ 1000 ∧ ∀ (p : Addr) (H' : Hp), Same H H' → TAt H' p (of n (ind n ss)) → Q (.ref p) H'
end


open PySem PySem.Spec PyProof.Rows L2 Gd Pv RZ
/-- the voice of beat 0, then one product after the other -/
def pw (n : Nat) (F : Int → Int) : Nat → Int → Int
  | 0 => ind n [0]
  | m + 1 => conv n (pw n F m) F
theorem per_pw {n : Nat} {xs : List Int} (hl : xs.length = n) : ∀ m, Per n (pw n (per xs) m)
  | 0 => per_ind n [0]
  | _ + 1 => per_conv (hl ▸ per_per xs)
theorem bd_of {n b : Nat} {F : Int → Int} (h : ∀ j : Nat, j < n → (F j).natAbs < 2 ^ b) : Bd b (of n F) := by
  intro x hx
  unfold of at hx
  obtain ⟨j, hj, rfl⟩ := List.mem_map.mp hx
  exact h j (List.mem_range.mp hj)
theorem abs_conv {n b c : Nat} {F G : Int → Int} (hn : n ≤ 1000) (h : ∀ i, (F i).natAbs ≤ 2 ^ b) (g : ∀ i, (G i).natAbs ≤ 2 ^ c) (i : Int) : (conv n F G i).natAbs < 2 ^ (b + c + 10) := by
  have e := conv_abs (n := n) h g i
  rw [← Nat.pow_add] at e
  have p : 0 < 2 ^ (b + c) := Nat.pow_pos (by decide)
  have e2 : n * 2 ^ (b + c) ≤ 1000 * 2 ^ (b + c) := Nat.mul_le_mul_right _ hn
  rw [Nat.pow_add 2 (b + c) 10, show (2 : Nat) ^ 10 = 1024 from rfl]
  omega
theorem Bd.per {b : Nat} {xs : List Int} (h : Bd b xs) (i : Int) : (per xs i).natAbs ≤ 2 ^ b := per_abs (fun x hx => Nat.le_of_lt (h x hx)) i
theorem abs_ind (n : Nat) (ss : List Int) (i : Int) : (ind n ss i).natAbs < 2 ^ 1 := by
  unfold ind
  split <;> decide
theorem bd_pw {n c : Nat} {xs : List Int} (hl : xs.length = n) (hb : Bd c xs) (hn : n ≤ 1000) (m : Nat) : Bd (m * (c + 10) + 1) (of n (pw n (per xs) m)) := by
  refine bd_of fun j hj => ?_
  have key : ∀ (m : Nat) (i : Int), (pw n (per xs) m i).natAbs < 2 ^ (m * (c + 10) + 1) := by
    intro m
    induction m with
    | zero =>
      intro i
      rw [Nat.zero_mul]
      exact abs_ind n [0] i
    | succ m ih =>
      intro i
      have e := abs_conv hn (fun i => Nat.le_of_lt (ih i)) hb.per i
      rw [show m * (c + 10) + 1 + c + 10 = (m + 1) * (c + 10) + 1 by rw [Nat.succ_mul]; omega] at e
      exact e
  exact key m j
section
variable {P : Program} {w : World} {K : PySem.W.Frag} {mg : Str → Option Value} {base : Heap}
def spPower : Sp := fun vs H Q _ => ∃ (a : Addr) (xs : List Int) (n m c : Nat), vs = [.ref a, .int (m : Nat)] ∧ TAt H a xs ∧ xs.length = n ∧ 0 < n ∧ n ≤ 1000 ∧ m ≤ 1000 ∧ Bd c xs ∧ 0 < c ∧ m * (c + 10) + c ≤ 90000 ∧
  ∀ (p : Addr) (H' : Hp), Same H H' → TAt H' p (of n (pw n (per xs) m)) → Q (.ref p) H'
end


open PySem PySem.Spec PyProof.Rows L2 Gd Pv RZ
/-- the beats at which F isn't 0 -/
def bts (n : Nat) (F : Int → Int) : List Int := ((List.range n).filter fun j => decide (F (j : Nat) ≠ 0)).map fun (j : Nat) => (j : Int)
theorem bts_succ (n : Nat) (F : Int → Int) : bts (n + 1) F = bts n F ++ (if F n = 0 then [] else [(n : Int)]) := by
  unfold bts
  rw [List.range_succ, List.filter_append, List.map_append]
  by_cases h : F n = 0
  · rw [if_pos h]
    simp [h]
  · rw [if_neg h]
    simp [h]
theorem bts_len (n : Nat) (F : Int → Int) : (bts n F).length ≤ n := by
  unfold bts
  rw [List.length_map]
  exact Nat.le_trans (List.length_filter_le _ _) (by rw [List.length_range]; exact Nat.le_refl _)
section
variable {P : Program} {w : World} {K : PySem.W.Frag} {mg : Str → Option Value} {base : Heap}
def spBeatsOf : Sp := fun vs H Q _ => ∃ (a : Addr) (xs : List Int) (n : Nat), vs = [.ref a] ∧ TAt H a xs ∧ xs.length = n ∧ 0 < n ∧ n ≤ 1000 ∧ ∀ (p : Addr) (H' : Hp), Same H H' → TAt H' p (bts n (per xs)) → Q (.ref p) H'
def spSize : Sp := fun vs H Q _ => ∃ (d c : Addr) (cells : List Int) (B : Nat), vs = [.ref d] ∧ FeedAt H d c cells B ∧ B ≤ 100000 ∧ ∀ (n : Nat) (H' : Hp), 1 ≤ n → n ≤ 40 → FeedAt H' d c cells (B + 2) → Kp d H H' → Q (.int (n : Nat)) H'
end


open PySem PySem.Spec PyProof.Rows L2 Gd Pv RZ
/-- a comprehension over a range whose items draw from the feed -/
theorem lcDraw {lo : Int} {n m B : Nat} {d c : Addr} {cells : List Int} {g : TG} {te : TE} {vs : List Nat} {σ : L2.St} {H1 : Hp} {R : Addr} {Qd : Hp → Prop} (hR : H1 R = none) (F : FeedAt H1 d c cells B) (hn : n ≤ 1000)
    (hs : ∀ (i : Nat) (H' : Hp) (Y : V → Hp → Prop), i < n → FeedAt H' d c cells (B + m * i) → Kp d H1 H' → (∀ (z : Int) (H4 : Hp), z.natAbs < 2 ^ 137 → FeedAt H4 d c cells (B + m * i + m) → Kp d H' H4 → Y (.int z) H4) →
      g (.int (lo + (i : Nat))) (wipe σ vs) H' fun σ2 H2 => wipe σ2 vs = wipe σ vs ∧ te σ2 H2 Y)
    (hd : ∀ (xs : List Int) (H' : Hp), xs.length = n → Bd 137 xs → FeedAt H' d c cells (B + m * n) → Kp d H1 H' → H' R = some (.lst (xs.map V.int)) → Qd H') :
    ∃ W : Nat → Nat → Hp → Prop, (∃ m, W 0 m (upd H1 R (.lst []))) ∧ ∀ i m H, W i m H →
      ((Itr lo n).stop i H ∧ Qd H) ∨ ((Itr lo n).go i H ∧ ∃ Nx : Hp → Prop, (∀ H', Nx H' → ∃ m', m' < m ∧ W (i + 1) m' H') ∧ ∀ x H', (Itr lo n).yld i H x H' → g x (wipe σ vs) H' fun σ2 H2 => wipe σ2 vs = wipe σ vs ∧ tYes σ2 H2 fun b H3 =>
        if b = true then te σ2 H3 fun y H4 => ∃ acc, H4 R = some (.lst acc) ∧ acc.length < sizeLine ∧ Nx (upd H4 R (.lst (acc ++ [y]))) else Nx H3) := by
  refine lc_it walk_range (fun i H' => ∃ xs : List Int, xs.length = i ∧ Bd 137 xs ∧ FeedAt H' d c cells (B + m * i) ∧ Kp d H1 H' ∧ H' R = some (.lst (xs.map V.int)))
    ⟨[], rfl, fun x hx => absurd hx List.not_mem_nil, F.same (same_new hR), (same_new hR).kp, upd_same⟩ (fun _ _ _ _ => True.intro) ?_ (fun H' ⟨xs, h1, h2, h3, h4, h5⟩ => hd xs H' h1 h2 h3 h4 h5)
  rintro i x G G' hi ⟨xs, rfl, hb, FG, kG, eG⟩ ⟨eH, rfl⟩
  obtain rfl := eH.symm
  have nRd : R ≠ d := FG.neL eG
  refine hs xs.length G _ hi FG kG fun z H4 hz F4 k4 => ?_
  have e4 := k4 R _ nRd eG
  have nRc : c ≠ R := fun y => by
    have q1 := F.cl
    rw [y, hR] at q1
    cases q1
  refine ⟨_, e4, ?_, xs ++ [z], by rw [List.length_append]; rfl, ?_, ?_, ?_, ?_⟩
  · rw [List.length_map]
    exact small1000 (by omega)
  · intro y hy
    rcases List.mem_append.mp hy with y1 | y1
    · exact hb y y1
    · rw [List.mem_singleton.mp y1]
      exact hz
  · obtain ⟨sp, ov, tn, q1, q2⟩ := F4.ex
    have F5 : FeedAt (upd H4 R (.lst (xs.map V.int ++ [V.int z]))) d c cells (B + m * xs.length + m) := ⟨⟨sp, ov, tn, by rw [upd_ne nRd.symm]; exact q1, q2⟩, by rw [upd_ne nRc]; exact F4.cl, F4.few⟩
    rw [Nat.mul_succ, ← Nat.add_assoc]
    exact F5
  · intro b o hb' ho
    rw [upd_ne (ne_of_none ho hR)]
    exact k4 b o hb' (kG b o hb' ho)
  · rw [upd_same, List.map_append]
    rfl
def rgOk (n t : Nat) : Bool := Builtin.Range.small 0 (n : Int) (t : Int) && (decide (Builtin.Range.rangeSize 0 (n : Int) (t : Int) = ((Builtin.Range.rangeSize 0 (n : Int) (t : Int)).toNat : Int)) && decide ((Builtin.Range.rangeSize 0 (n : Int) (t : Int)).toNat ≤ 40))
theorem rg_all : ((List.range 41).all fun n => (List.range 41).all fun t => t == 0 || rgOk n t) = true := by decide +kernel
theorem rg_ok {n t : Nat} (hn : n ≤ 40) (h1 : 1 ≤ t) (h2 : t ≤ n) : ∃ m : Nat, RgC 0 (n : Int) (t : Int) m ∧ m ≤ 40 := by
  have a := List.all_eq_true.mp rg_all n (List.mem_range.mpr (by omega))
  have b := List.all_eq_true.mp a t (List.mem_range.mpr (by omega))
  rw [Bool.or_eq_true] at b
  rcases b with b | b
  · have := eq_of_beq b
    omega
  · unfold rgOk at b
    rw [Bool.and_eq_true, Bool.and_eq_true] at b
    exact ⟨_, ⟨by omega, by omega, b.1, of_decide_eq_true b.2.1⟩, of_decide_eq_true b.2.2⟩
/-- the divisors among what is walked -/
def dvO (n : Nat) (x : V) : Option V := match x with
  | .int t => if (n : Int) % t = 0 then some (.int t) else none
  | _ => none
theorem rep_flat (z : Int) : ∀ m : Nat, (List.replicate m [V.int z]).flatten = (List.replicate m z).map V.int
  | 0 => rfl
  | m + 1 => by
    rw [List.replicate_succ, List.flatten_cons, rep_flat z m]
    rfl
theorem ten9 : (10 : Int) ^ (9 : Int).toNat = 1000000000 := by decide
theorem two137 : (2 : Nat) ^ 137 = 174224571863520493293247799005065324265472 := by decide
section
variable {P : Program} {w : World} {K : PySem.W.Frag} {mg : Str → Option Value} {base : Heap}
def spTune : Sp := fun vs H Q _ => ∃ (d c : Addr) (cells : List Int) (B n : Nat), vs = [.ref d, .int (n : Nat)] ∧ FeedAt H d c cells B ∧ B ≤ 50000 ∧ 1 ≤ n ∧ n ≤ 40 ∧
  ∀ (xs : List Int) (p : Addr) (H' : Hp), xs.length = n → Bd 137 xs → FeedAt H' d c cells (B + 100) → Kp d H H' → TAt H' p xs → Q (.ref p) H'
end


open PySem PySem.Spec PyProof.Rows L2 Gd Pv RZ
section
variable {P : Program} {w : World} {K : PySem.W.Frag} {mg : Str → Option Value} {base : Heap}
def spSameW (K : PySem.W.Frag) : Sp := fun vs H Q _ => ∃ (a b : Addr) (d : PyData) (ds : List PyData) (n : Nat), vs = [.ref a, .ref b] ∧ Dp K H (.ref a) (.list (d :: ds)) ∧ Dp K H (.ref b) (.list (d :: ds)) ∧ OkW (d :: ds) 10 n ∧ n ≤ 15999000 ∧ Q (.bl true) H
end


open PySem PySem.Spec PyProof.Rows L2 Gd Pv RZ
/-- a tuple of whole numbers as data -/
def dT (xs : List Int) : PyData := .tuple (xs.map PyData.int)
theorem dpT {K : PySem.W.Frag} {H : Hp} {a : Addr} {xs : List Int} (h : TAt H a xs) : Dp K H (.ref a) (dT xs) := .tup h.sq (dpInts xs)
theorem okT {xs : List Int} {b n : Nat} (h : Bd b xs) (hb : b ≤ 14000) (hl : xs.length ≤ n) : OkW [dT xs] 2 (4303 * n + 5) := by
  have e := okW_tup (okW_ints h hb)
  exact ⟨e.wi, e.dp, Nat.le_trans e.co (by have := Nat.mul_le_mul_left 4303 hl; omega)⟩
theorem _root_.Gd.OkW.mono {ds : List PyData} {k j n : Nat} (h : OkW ds k n) (hk : k ≤ j) : OkW ds j n := ⟨h.wi, Nat.le_trans h.dp hk, h.co⟩
theorem Bd.mono {b c : Nat} {xs : List Int} (h : Bd b xs) (hc : b ≤ c) : Bd c xs := fun x hx => Nat.lt_of_lt_of_le (h x hx) (Nat.pow_le_pow_right (by decide) hc)
theorem pw_one {n : Nat} {xs : List Int} (hl : xs.length = n) (hn : 0 < n) : of n (pw n (per xs) 1) = xs := by
  have e : of n (pw n (per xs) 1) = of n (per xs) := of_congr fun b _ => by
    show conv n (ind n [0]) (per xs) b = _
    have pX : Per n (per xs) := hl ▸ per_per xs
    rw [conv_comm (per_ind n [0]) pX, conv_one 0 hn pX (fun j hj => by rw [ind_at hj]; simp) (per_ind n [0])]
    congr 1
  rw [e, ← hl, of_per]
theorem pw_two {n : Nat} {xs : List Int} (hl : xs.length = n) (hn : 0 < n) : of n (pw n (per xs) 2) = of n (conv n (per xs) (per xs)) := of_congr fun b _ => by
  show conv n (pw n (per xs) 1) (per xs) b = _
  refine conv_congr (fun i => ?_) (fun _ => rfl) _
  have e := per_of (per_pw hl 1) hn i
  rw [← e, pw_one hl hn]
section
variable {P : Program} {w : World} {K : PySem.W.Frag} {mg : Str → Option Value} {base : Heap}
def spPowR : Sp := fun vs H Q _ => ∃ (d c a : Addr) (cells xs : List Int) (B n : Nat), vs = [.ref d, .ref a] ∧ FeedAt H d c cells B ∧ B ≤ 50000 ∧ TAt H a xs ∧ xs.length = n ∧ 0 < n ∧ n ≤ 40 ∧ Bd 137 xs ∧ ∀ H', FeedAt H' d c cells (B + 2) → Kp d H H' → Q (.bl true) H'
end


open PySem PySem.Spec PyProof.Rows L2 Gd Pv RZ
section
variable {P : Program} {w : World} {K : PySem.W.Frag} {mg : Str → Option Value} {base : Heap}
def spProdR : Sp := fun vs H Q _ => ∃ (d c r a1 a2 a3 : Addr) (cells xs ys zs : List Int) (B n : Nat) (k : Int), vs = [.ref d, .ref r, .int k] ∧ FeedAt H d c cells B ∧ B ≤ 50000 ∧ H r = some (.lst [V.ref a1, .ref a2, .ref a3]) ∧
  TAt H a1 xs ∧ TAt H a2 ys ∧ TAt H a3 zs ∧ xs.length = n ∧ ys.length = n ∧ zs.length = n ∧ 0 < n ∧ n ≤ 40 ∧ Bd 137 xs ∧ Bd 137 ys ∧ Bd 137 zs ∧ ∀ H', FeedAt H' d c cells (B + 1) → Kp d H H' → Q (.bl true) H'
theorem TAt.own {H : Hp} {a l : Addr} {xs : List Int} {us : List V} {v : HO} (h : TAt H a xs) (e : H l = some (.lst us)) : TAt (upd H l v) a xs := by
  have hne : a ≠ l := fun z => by
    subst z
    have h2 : H a = some (.tup (xs.map V.int)) := h
    rw [e] at h2
    cases h2
  show upd H l v a = _
  unfold upd
  rw [if_neg hne]
  exact h
theorem zval {zs : List Int} {v : V} {n i : Nat} (lz : zs.length = n) (hi : i < n) (ez : (zs.map V.int)[i]? = some v) : v = .int (per zs i) := by
  rw [List.getElem?_map, List.getElem?_eq_getElem (by omega)] at ez
  rw [per_get (by omega)]
  exact (Option.some.inj ez).symm
end


open PySem PySem.Spec PyProof.Rows L2 Gd Pv RZ
inductive TD where
  | i (x : Int)
  | t (xs : List Int)
def TD.data : TD → PyData
  | .i x => .int x
  | .t xs => dT xs
def OneAt (H : Hp) : V → TD → Prop
  | v, .i x => v = .int x
  | v, .t xs => ∃ a, v = .ref a ∧ TAt H a xs
def AllAt (H : Hp) : List V → List TD → Prop
  | [], [] => True
  | v :: vs, d :: ds => OneAt H v d ∧ AllAt H vs ds
  | _, _ => False
theorem OneAt.same {H H' : Hp} (s : Same H H') : ∀ {v : V} {d : TD}, OneAt H v d → OneAt H' v d
  | _, .i _, h => h
  | _, .t _, ⟨a, e, h⟩ => ⟨a, e, h.same s⟩
theorem AllAt.same {H H' : Hp} (s : Same H H') : ∀ {vs : List V} {ds : List TD}, AllAt H vs ds → AllAt H' vs ds
  | [], [], h => h
  | _ :: _, _ :: _, ⟨h, t⟩ => ⟨h.same s, t.same s⟩
  | [], _ :: _, h => h.elim
  | _ :: _, [], h => h.elim
theorem OneAt.own {H : Hp} {l : Addr} {us : List V} {o : HO} (e : H l = some (.lst us)) : ∀ {v : V} {d : TD}, OneAt H v d → OneAt (upd H l o) v d
  | _, .i _, h => h
  | _, .t _, ⟨a, e1, h⟩ => ⟨a, e1, h.own e⟩
theorem AllAt.own {H : Hp} {l : Addr} {us : List V} {o : HO} (e : H l = some (.lst us)) : ∀ {vs : List V} {ds : List TD}, AllAt H vs ds → AllAt (upd H l o) vs ds
  | [], [], h => h
  | _ :: _, _ :: _, ⟨h, t⟩ => ⟨h.own e, t.own e⟩
  | [], _ :: _, h => h.elim
  | _ :: _, [], h => h.elim
theorem AllAt.append {H : Hp} : ∀ {vs us : List V} {ds es : List TD}, AllAt H vs ds → AllAt H us es → AllAt H (vs ++ us) (ds ++ es)
  | [], _, [], _, _, h => h
  | _ :: _, _, _ :: _, _, ⟨h, t⟩, u => ⟨h, t.append u⟩
  | [], _, _ :: _, _, h, _ => h.elim
  | _ :: _, _, [], _, h, _ => h.elim
theorem AllAt.len {H : Hp} : ∀ {vs : List V} {ds : List TD}, AllAt H vs ds → vs.length = ds.length
  | [], [], _ => rfl
  | _ :: _, _ :: _, ⟨_, t⟩ => by rw [List.length_cons, List.length_cons, t.len]
  | [], _ :: _, h => h.elim
  | _ :: _, [], h => h.elim
theorem OneAt.dp {K : PySem.W.Frag} {H : Hp} : ∀ {v : V} {d : TD}, OneAt H v d → Dp K H v d.data
  | _, .i _, rfl => .int _
  | _, .t _, ⟨_, rfl, h⟩ => dpT h
theorem AllAt.dp {K : PySem.W.Frag} {H : Hp} : ∀ {vs : List V} {ds : List TD}, AllAt H vs ds → DpAll K H vs (ds.map TD.data)
  | [], [], _ => .nil
  | _ :: _, _ :: _, ⟨h, t⟩ => .cons h.dp t.dp
  | [], _ :: _, h => h.elim
  | _ :: _, [], h => h.elim
/-- small enough to be told -/
def TD.Ok : TD → Prop
  | .i x => x.natAbs < 2 ^ 14000
  | .t xs => Bd 14000 xs ∧ xs.length ≤ 40
theorem okTD {d : TD} (h : d.Ok) : OkW [d.data] 2 172125 := by
  cases d with
  | i x => exact ⟨(okW_int (k := 2) (Nat.lt_of_lt_of_le h ten_two)).wi, (okW_int (k := 2) (Nat.lt_of_lt_of_le h ten_two)).dp, Nat.le_trans (okW_int (k := 2) (Nat.lt_of_lt_of_le h ten_two)).co (by decide)⟩
  | t xs => exact okT h.1 (by decide) h.2
theorem okTDs : ∀ {ds : List TD}, (∀ d ∈ ds, d.Ok) → OkW (ds.map TD.data) 2 (172125 * ds.length)
  | [], _ => okW_nil 2
  | d :: ds, h => by
    have e := okW_cons (okTD (h d List.mem_cons_self)) (okTDs fun x hx => h x (List.mem_cons_of_mem _ hx))
    rw [List.length_cons, Nat.mul_succ, Nat.add_comm]
    exact e
theorem TD.ok_t {xs : List Int} {b : Nat} (h : Bd b xs) (hb : b ≤ 14000) (hl : xs.length ≤ 40) : (TD.t xs).Ok := ⟨h.mono hb, hl⟩
theorem bts_ind {n : Nat} {ss : List Int} (h : Beats n ss) : bts n (ind n ss) = ss := by
  have asc : ∀ F : Int → Int, ∀ m : Nat, (bts m F).Pairwise (· < ·) ∧ ∀ x ∈ bts m F, x < (m : Int) := by
    intro F m
    induction m with
    | zero => exact ⟨List.Pairwise.nil, fun x hx => absurd hx List.not_mem_nil⟩
    | succ m ih =>
      rw [bts_succ]
      by_cases e : F m = 0
      · rw [if_pos e, List.append_nil]
        exact ⟨ih.1, fun x hx => by have := ih.2 x hx; omega⟩
      · rw [if_neg e]
        refine ⟨List.pairwise_append.mpr ⟨ih.1, List.pairwise_singleton _ _, fun x hx y hy => ?_⟩, fun x hx => ?_⟩
        · rw [List.mem_singleton] at hy
          subst hy
          exact ih.2 x hx
        · rcases List.mem_append.mp hx with z | z
          · have := ih.2 x z
            omega
          · rw [List.mem_singleton] at z
            omega
  have mem : ∀ x : Int, x ∈ bts n (ind n ss) ↔ x ∈ ss := by
    intro x
    unfold bts
    rw [List.mem_map]
    constructor
    · rintro ⟨j, hj, rfl⟩
      obtain ⟨h1, h2⟩ := List.mem_filter.mp hj
      have h3 := List.mem_range.mp h1
      have h4 := of_decide_eq_true h2
      rw [ind_at h3] at h4
      by_cases z : (j : Int) ∈ ss
      · exact z
      · rw [if_neg z] at h4
        exact absurd rfl h4
    · intro hx
      obtain ⟨j, rfl⟩ := Int.eq_ofNat_of_zero_le (h.lo x hx)
      have hj := h.hi _ hx
      refine ⟨j, List.mem_filter.mpr ⟨List.mem_range.mpr (by omega), ?_⟩, rfl⟩
      rw [ind_at (by omega), if_pos hx]
      decide
  have uniq : ∀ {as bs : List Int}, as.Pairwise (· < ·) → bs.Pairwise (· < ·) → (∀ x, x ∈ as ↔ x ∈ bs) → as = bs := by
    intro as
    induction as with
    | nil =>
      intro bs _ _ hm
      cases bs with
      | nil => rfl
      | cons b bs => exact absurd ((hm b).mpr List.mem_cons_self) List.not_mem_nil
    | cons a as ih =>
      intro bs pa pb hm
      cases bs with
      | nil => exact absurd ((hm a).mp List.mem_cons_self) List.not_mem_nil
      | cons b bs =>
        rw [List.pairwise_cons] at pa pb
        have e : a = b := by
          rcases List.mem_cons.mp ((hm a).mp List.mem_cons_self) with z | z
          · exact z
          · rcases List.mem_cons.mp ((hm b).mpr List.mem_cons_self) with y | y
            · exact y.symm
            · have := pb.1 a z
              have := pa.1 b y
              omega
        subst e
        refine congrArg _ (ih pa.2 pb.2 fun x => ⟨fun hx => ?_, fun hx => ?_⟩)
        · rcases List.mem_cons.mp ((hm x).mp (List.mem_cons_of_mem _ hx)) with z | z
          · subst z
            have := pa.1 x hx
            omega
          · exact z
        · rcases List.mem_cons.mp ((hm x).mpr (List.mem_cons_of_mem _ hx)) with z | z
          · subst z
            have := pb.1 x hx
            omega
          · exact z
  exact uniq (asc _ n).1 h.asc mem
theorem bts_per (n : Nat) (hn : 0 < n) {F : Int → Int} (f : Per n F) : bts n (per (of n F)) = bts n F := by
  unfold bts
  congr 1
  refine List.filter_congr fun j _ => ?_
  rw [per_of f hn]
theorem turn_back {n : Nat} {xs : List Int} (hl : xs.length = n) (hn : 0 < n) (k : Int) : of n (fun b => per (of n fun b => per xs (b - k)) (b - -k)) = xs := by
  have p : Per n (per xs) := hl ▸ per_per xs
  have e : of n (fun b => per (of n fun b => per xs (b - k)) (b - -k)) = of n (per xs) := of_congr fun j _ => by
    rw [per_of (p.turn k) hn]
    congr 1
    omega
  rw [e, ← hl, of_per]
theorem mirror_back {n : Nat} {xs : List Int} (hl : xs.length = n) (hn : 0 < n) : of n (fun b => per (of n fun b => per xs (-b)) (-b)) = xs := by
  have p : Per n (per xs) := hl ▸ per_per xs
  have e : of n (fun b => per (of n fun b => per xs (-b)) (-b)) = of n (per xs) := of_congr fun j _ => by
    rw [per_of p.mir hn]
    congr 1
    omega
  rw [e, ← hl, of_per]
theorem turn_all {n : Nat} {xs : List Int} (hl : xs.length = n) : of n (fun b => per xs (b - (n : Int))) = xs := by
  have p : Per n (per xs) := hl ▸ per_per xs
  have e : of n (fun b => per xs (b - (n : Int))) = of n (per xs) := of_congr fun j _ => by
    have := p ((j : Int) - n)
    rw [← this]
    congr 1
    omega
  rw [e, ← hl, of_per]


open PySem PySem.Spec PyProof.Rows L2 Gd Pv RZ Po
theorem shT (xs : List Int) : SeqAt.shaped (dT xs) = true := by
  unfold SeqAt.shaped dT
  have h1 := canInts xs
  have h2 := depthInts xs
  simp only [PyData.canLay0, PyData.depth, h1, Bool.true_and]
  exact decide_eq_true (by omega)
theorem shL (xs : List Int) : SeqAt.shaped (.list (xs.map PyData.int)) = true := by
  unfold SeqAt.shaped
  have h1 := canInts xs
  have h2 := depthInts xs
  simp only [PyData.canLay0, PyData.depth, h1, Bool.true_and]
  exact decide_eq_true (by omega)
theorem eqT_nil (xs : List Int) : PyData.eqv (dT xs) (dT []) = decide (xs = []) := by
  cases xs with
  | nil => rfl
  | cons x xs => rfl
theorem eqL_nil (xs : List Int) : PyData.eqv (.list (xs.map PyData.int)) (.list []) = decide (xs = []) := by
  cases xs with
  | nil => rfl
  | cons x xs => rfl
theorem eqT_one (y z : Int) : PyData.eqv (dT [y]) (dT [z]) = decide (y = z) := by
  show (decide (y = z) && true) = _
  rw [Bool.and_true]
theorem sIx_m1 (n d : Nat) : HT.sIx n d (some (-1)) = n - 1 := by
  unfold HT.sIx
  simp
  omega
/-- the last one of a tuple, as a tuple -/
theorem cut_last {xs : List Int} {y : Int} : cutV ((xs ++ [y]).map V.int) (some (-1)) none = [V.int y] := by
  unfold cutV
  rw [sIx_m1, HT.sIx_none, List.map_append, List.length_append, List.length_map]
  simp
section
variable {P : Program} {w : World} {K : PySem.W.Frag} {mg : Str → Option Value} {base : Heap}
theorem last_full {H : Hp} {a : Addr} {xs : List Int} (ha : TAt H a xs) (h : HT.sIx (xs.map V.int).length 0 (some (-1)) = 0 ∧ HT.sIx (xs.map V.int).length (xs.map V.int).length none = (xs.map V.int).length) : TAt H a (xs.drop (xs.length - 1)) := by
  have h1 := h.1
  rw [sIx_m1, List.length_map] at h1
  rw [h1]
  exact ha
theorem last_part {H : Hp} {p : Addr} {xs : List Int} : TAt (upd H p (.tup (cutV (xs.map V.int) (some (-1)) none))) p (xs.drop (xs.length - 1)) := by
  show upd H p _ p = _
  rw [upd_same]
  congr 2
  unfold cutV
  rw [sIx_m1, HT.sIx_none, List.length_map, ← List.map_drop, List.take_of_length_le (by simp)]
def spIsPoly : Sp := fun vs H Q _ => ∃ (a : Addr) (xs : List Int), vs = [.ref a] ∧ TAt H a xs ∧ Nf xs ∧ xs.length ≤ 1000 ∧ ∀ H', Same H H' → Q (.bl true) H'
def spIsMonic : Sp := fun vs H Q _ => ∃ (a : Addr) (xs : List Int), vs = [.ref a] ∧ TAt H a xs ∧ Mo xs ∧ xs.length ≤ 1000 ∧ ∀ H', Same H H' → Q (.bl true) H'
theorem c_is_polynomial (D : At K mg "is_polynomial" s_is_polynomial ["thing"]) (c_are_integers : Cal P w K mg base 2 "are_integers" (spAreInts K)) : Cal P w K mg base 3 "is_polynomial" spIsPoly := by
  refine okC D sc_is_polynomial (fun vs H Q E h => ?_) (fun f cdv A outer s H vs Q E hr h => ?_)
  · obtain ⟨a, xs, rfl, _⟩ := h
    rfl
  · obtain ⟨a, xs, rfl, ha, hx, h2, q⟩ := h
    have nd := sc_is_polynomial.nd
    have hu64 := hr.units
    refine ⟨_, (pss_one (ps_ret (pe_and (pe_k c_are_integers hr (by decide) (by rfl) (pa_cons (pv 0) pa_nil)) (pe_one (pe_cmpR (op_neD hu64) (pe_slice sl_tupA (pv 0) (po_some (pe_un un_neg pe_int)) po_none) (pe_tup (pa_cons pe_int pa_nil)) (nomark _)))))), ?_⟩
    refine ⟨_, rfl, a, xs, rfl, ha, h2, fun H1 s1 => ⟨true, rfl, iteT ?_⟩⟩
    refine ⟨_, rfl, _, rfl, _, rfl, a, _, rfl, (ha.same s1).sq, fun hc => ?_, fun hc p hp => ?_⟩
    · have eb := last_full (ha.same s1) hc
      have s2 := Same.refl H1
      refine ⟨(by show 1 ≤ sizeLine; decide), fun t ht => ?_⟩
      have st := same_new (o := .tup [V.int 0]) ht
      refine ⟨dT (xs.drop (xs.length - 1)), dT [0], dpT (eb.same st), dpT (show TAt _ t [0] from upd_same), shT _, shT _, ?_⟩
      have e : PyData.eqv (dT (xs.drop (xs.length - 1))) (dT [0]) = false := by
        rcases hx with rfl | ⟨ys, y, hy, rfl⟩
        · rfl
        · rw [List.length_append, show (ys.length + [y].length - 1) = ys.length by simp, List.drop_left, eqT_one, decide_eq_false hy]
      rw [e]
      exact q _ ((s1.trans s2).trans st)
    · have eb := last_part (H := H1) (p := p) (xs := xs)
      have s2 := same_new (o := .tup (cutV (xs.map V.int) (some (-1)) none)) hp
      refine ⟨(by show 1 ≤ sizeLine; decide), fun t ht => ?_⟩
      have st := same_new (o := .tup [V.int 0]) ht
      refine ⟨dT (xs.drop (xs.length - 1)), dT [0], dpT (eb.same st), dpT (show TAt _ t [0] from upd_same), shT _, shT _, ?_⟩
      have e : PyData.eqv (dT (xs.drop (xs.length - 1))) (dT [0]) = false := by
        rcases hx with rfl | ⟨ys, y, hy, rfl⟩
        · rfl
        · rw [List.length_append, show (ys.length + [y].length - 1) = ys.length by simp, List.drop_left, eqT_one, decide_eq_false hy]
      rw [e]
      exact q _ ((s1.trans s2).trans st)
theorem c_is_monic (D : At K mg "is_monic" s_is_monic ["thing"]) (c_are_integers : Cal P w K mg base 2 "are_integers" (spAreInts K)) : Cal P w K mg base 3 "is_monic" spIsMonic := by
  refine okC D sc_is_monic (fun vs H Q E h => ?_) (fun f cdv A outer s H vs Q E hr h => ?_)
  · obtain ⟨a, xs, rfl, _⟩ := h
    rfl
  · obtain ⟨a, xs, rfl, ha, hx, h2, q⟩ := h
    have nd := sc_is_monic.nd
    have hu64 := hr.units
    refine ⟨_, (pss_one (ps_ret (pe_and (pe_k c_are_integers hr (by decide) (by rfl) (pa_cons (pv 0) pa_nil)) (pe_one (pe_cmpR (op_eqD hu64) (pe_slice sl_tupA (pv 0) (po_some (pe_un un_neg pe_int)) po_none) (pe_tup (pa_cons pe_int pa_nil)) (nomark _)))))), ?_⟩
    refine ⟨_, rfl, a, xs, rfl, ha, h2, fun H1 s1 => ⟨true, rfl, iteT ?_⟩⟩
    refine ⟨_, rfl, _, rfl, _, rfl, a, _, rfl, (ha.same s1).sq, fun hc => ?_, fun hc p hp => ?_⟩
    · have eb := last_full (ha.same s1) hc
      have s2 := Same.refl H1
      refine ⟨(by show 1 ≤ sizeLine; decide), fun t ht => ?_⟩
      have st := same_new (o := .tup [V.int 1]) ht
      refine ⟨dT (xs.drop (xs.length - 1)), dT [1], dpT (eb.same st), dpT (show TAt _ t [1] from upd_same), shT _, shT _, ?_⟩
      have e : PyData.eqv (dT (xs.drop (xs.length - 1))) (dT [1]) = true := by
        obtain ⟨ys, rfl⟩ := hx
        rw [List.length_append, show (ys.length + [(1 : Int)].length - 1) = ys.length by simp, List.drop_left, eqT_one, decide_eq_true rfl]
      rw [e]
      exact q _ ((s1.trans s2).trans st)
    · have eb := last_part (H := H1) (p := p) (xs := xs)
      have s2 := same_new (o := .tup (cutV (xs.map V.int) (some (-1)) none)) hp
      refine ⟨(by show 1 ≤ sizeLine; decide), fun t ht => ?_⟩
      have st := same_new (o := .tup [V.int 1]) ht
      refine ⟨dT (xs.drop (xs.length - 1)), dT [1], dpT (eb.same st), dpT (show TAt _ t [1] from upd_same), shT _, shT _, ?_⟩
      have e : PyData.eqv (dT (xs.drop (xs.length - 1))) (dT [1]) = true := by
        obtain ⟨ys, rfl⟩ := hx
        rw [List.length_append, show (ys.length + [(1 : Int)].length - 1) = ys.length by simp, List.drop_left, eqT_one, decide_eq_true rfl]
      rw [e]
      exact q _ ((s1.trans s2).trans st)
end


open PySem PySem.Spec PyProof.Rows L2 Gd Pv RZ Po
/-- a list of whole numbers that is followed -/
def LAt (H : Hp) (a : Addr) (xs : List Int) : Prop := H a = some (.lst (xs.map V.int))
theorem LAt.same {H H' : Hp} {a : Addr} {xs : List Int} (s : Same H H') (h : LAt H a xs) : LAt H' a xs := s _ _ h
theorem tr_cut {xs : List Int} {m : Nat} (h : m < xs.length) (z : xs[m] = 0) : tr (xs.take (m + 1)) = tr (xs.take m) := by
  rw [List.take_succ_eq_append_getElem h, z, tr_zero]
theorem tr_stop {xs : List Int} {m : Nat} (h : m < xs.length) (z : xs[m] ≠ 0) : tr (xs.take (m + 1)) = xs.take (m + 1) := by
  rw [List.take_succ_eq_append_getElem h, tr_last z]
theorem at_nat {xs : List Int} {j : Nat} (h : j < xs.length) : atI (xs.map V.int) (j : Int) = some (.int xs[j]) := by
  unfold atI ixN
  rw [List.length_map, if_pos (by omega), if_pos (by omega)]
  show (xs.map V.int)[(j : Int).toNat]? = _
  rw [Int.toNat_natCast, List.getElem?_map, List.getElem?_eq_getElem h]
  rfl
theorem at_last {xs : List Int} {y : Int} : atI ((xs ++ [y]).map V.int) (-1) = some (.int y) := by
  unfold atI ixN
  rw [List.length_map, List.length_append, if_neg (by omega), if_pos (by simp; omega)]
  show ((xs ++ [y]).map V.int)[((-1 : Int) + ((xs.length + [y].length : Nat) : Int)).toNat]? = _
  rw [show ((-1 : Int) + ((xs.length + [y].length : Nat) : Int)).toNat = xs.length by simp; omega, List.getElem?_map]
  simp
theorem cut_take {xs : List Int} {m : Nat} : cutV (xs.map V.int) none (some (m : Int)) = (xs.take m).map V.int := by
  unfold cutV
  rw [HT.sIx_none, HT.sIx_nat, List.drop_zero, Nat.sub_zero, List.length_map, ← List.map_take, ← List.take_eq_take_min]
section
variable {P : Program} {w : World} {K : PySem.W.Frag} {mg : Str → Option Value} {base : Heap}
def spTrimT : Sp := fun vs H Q _ => ∃ (a : Addr) (xs : List Int), vs = [.ref a] ∧ TAt H a xs ∧ xs.length ≤ 1000 ∧ ∀ (p : Addr) (H' : Hp), Same H H' → TAt H' p (tr xs) → Q (.ref p) H'
theorem c_trimmedT (D : At K mg "trimmed" s_trimmed ["weights"]) (z_len : mg "len" = none) (z_tuple : mg "tuple" = none) : Cal P w K mg base 1 "trimmed" spTrimT := by
  refine okC D sc_trimmed (fun vs H Q E h => ?_) (fun f cdv A outer s H vs Q E hr h => ?_)
  · obtain ⟨a, xs, rfl, _⟩ := h
    rfl
  · obtain ⟨a, xs, rfl, ha, hz, q⟩ := h
    have nd := sc_trimmed.nd
    refine ⟨_, (pss_cons (ps_set (i := 1) nd rfl (.inl rfl) (pe_callB call_len_seq (by rfl) z_len PySem.boot_len (pa_cons (pv 0) pa_nil)))
 (pss_cons (ps_while PassesOwn.never (PW.pt (pw_and (pt_cmpR op_gt (pv 1) pe_int (nomark _)) (pw_and1 (pt_cmpR op_eq (pe_ix ix_tup (pv 0) (pe_op op_sub (pv 1) pe_int) (fun _ _ => rfl)) pe_int (nomark _)))))
 (pss_one (ps_aug (i := 1) nd rfl (.inl rfl) pe_int ip_sub)))
 (pss_one (ps_ret (pe_tupleOf (by rfl) z_tuple (pe_slice sl_tupA (pv 0) po_none (po_some (pv 1)))))))), ?_⟩
    refine ⟨_, rfl, a, _, rfl, .inr ha.sq, fun m σ H' => σ = [some (.ref a), some (.int (m : Nat))] ∧ H' = H ∧ m ≤ xs.length ∧ tr (xs.take m) = tr xs, ⟨xs.length, by rw [List.length_map]; rfl, rfl, Nat.le_refl _, by rw [List.take_length]⟩, ?_⟩
    rintro m σ H1 ⟨rfl, rfl, hm, ht⟩
    have fin : tr (xs.take m) = xs.take m → (tThen (tSl (rSlA K) (tVar 0) tNoPart (tPart (tVar 1))) (kTup K)) [some (.ref a), some (.int (m : Nat))] H1 Q := fun e => by
      refine ⟨_, rfl, _, rfl, _, rfl, a, _, rfl, ha.sq, fun hc => ?_, fun hc p hp => ?_⟩
      · refine .inr ⟨a, _, rfl, ha.sq, q a H1 (Same.refl _) ?_⟩
        have h2 := hc.2
        rw [HT.sIx_nat, List.length_map] at h2
        rw [← ht, e, List.take_of_length_le (by omega)]
        exact ha
      · refine .inr ⟨p, xs.take m |>.map V.int, rfl, .inl (.inl (by rw [upd_same, cut_take])), q p _ (same_new hp) ?_⟩
        show upd H1 p _ p = _
        rw [upd_same, cut_take, ← ht, e]
    refine ⟨_, rfl, _, _, rfl, rfl, _, rfl, ite2 (fun c => ?_) (fun c => ?_)⟩
    · have c1 : (0 : Int) < (m : Int) := of_decide_eq_true c
      obtain ⟨j, rfl⟩ : ∃ j, m = j + 1 := ⟨m - 1, by omega⟩
      have hj : j < xs.length := by omega
      have at0 : atI (xs.map V.int) (((j + 1 : Nat) : Int) - 1) = some (.int xs[j]) := by
        rw [show ((j + 1 : Nat) : Int) - 1 = (j : Int) by omega]
        exact at_nat hj
      refine ⟨_, rfl, _, rfl, _, _, rfl, rfl, a, _, _, _, rfl, rfl, .inl (.inl ha), at0, rfl, _, rfl, ite2 (fun e => ?_) (fun e => ?_)⟩
      · have e0 : xs[j] = 0 := V.int.inj (of_decide_eq_true e)
        refine ⟨fun σ' H' => ∃ m', m' < j + 1 ∧ (σ' = [some (.ref a), some (.int (m' : Nat))] ∧ H' = H1 ∧ m' ≤ xs.length ∧ tr (xs.take m') = tr xs), fun _ _ z => z, ?_⟩
        refine ⟨_, rfl, _, _, rfl, rfl, j, by omega, ?_, rfl, by omega, by rw [← tr_cut hj e0, ht]⟩
        show _ = [some (V.ref a), some (V.int (j : Nat))]
        rw [show ((j : Nat) : Int) = ((j + 1 : Nat) : Int) - 1 by omega]
        rfl
      · have e0 : xs[j] ≠ 0 := fun z => e (decide_eq_true (congrArg V.int z))
        exact fin (tr_stop hj e0)
    · have c1 : ¬ (0 : Int) < (m : Int) := fun z => c (decide_eq_true z)
      obtain rfl : m = 0 := by omega
      exact iteF (fin rfl)

def spTrimL : Sp := fun vs H Q _ => ∃ (a : Addr) (xs : List Int), vs = [.ref a] ∧ LAt H a xs ∧ xs.length ≤ 1000 ∧ ∀ (p : Addr) (H' : Hp), Same H H' → TAt H' p (tr xs) → Q (.ref p) H'
theorem c_trimmedL (D : At K mg "trimmed" s_trimmed ["weights"]) (z_len : mg "len" = none) (z_tuple : mg "tuple" = none) : Cal P w K mg base 1 "trimmed" spTrimL := by
  refine okC D sc_trimmed (fun vs H Q E h => ?_) (fun f cdv A outer s H vs Q E hr h => ?_)
  · obtain ⟨a, xs, rfl, _⟩ := h
    rfl
  · obtain ⟨a, xs, rfl, ha, hz, q⟩ := h
    have nd := sc_trimmed.nd
    refine ⟨_, (pss_cons (ps_set (i := 1) nd rfl (.inl rfl) (pe_callB call_len_seq (by rfl) z_len PySem.boot_len (pa_cons (pv 0) pa_nil)))
 (pss_cons (ps_while PassesOwn.never (PW.pt (pw_and (pt_cmpR op_gt (pv 1) pe_int (nomark _)) (pw_and1 (pt_cmpR op_eq (pe_ix ix_list (pv 0) (pe_op op_sub (pv 1) pe_int) (fun _ _ => rfl)) pe_int (nomark _)))))
 (pss_one (ps_aug (i := 1) nd rfl (.inl rfl) pe_int ip_sub)))
 (pss_one (ps_ret (pe_tupleOf (by rfl) z_tuple (pe_slice sl_list (pv 0) po_none (po_some (pv 1)))))))), ?_⟩
    refine ⟨_, rfl, a, _, rfl, .inl (.inl (.inl ha)), fun m σ H' => σ = [some (.ref a), some (.int (m : Nat))] ∧ H' = H ∧ m ≤ xs.length ∧ tr (xs.take m) = tr xs, ⟨xs.length, by rw [List.length_map]; rfl, rfl, Nat.le_refl _, by rw [List.take_length]⟩, ?_⟩
    rintro m σ H1 ⟨rfl, rfl, hm, ht⟩
    have fin : tr (xs.take m) = xs.take m → (tThen (tSl (rSlL K) (tVar 0) tNoPart (tPart (tVar 1))) (kTup K)) [some (.ref a), some (.int (m : Nat))] H1 Q := fun e => by
      refine ⟨_, rfl, _, rfl, _, rfl, a, _, rfl, .inl (.inl ha), fun p hp => ?_⟩
      refine .inl ⟨p, xs.take m |>.map V.int, rfl, .inl (.inl (by rw [upd_same, cut_take])), fun t h2 => q t _ ((same_new hp).trans (same_new h2)) ?_⟩
      show upd _ t _ t = _
      rw [upd_same, ← ht, e]
    refine ⟨_, rfl, _, _, rfl, rfl, _, rfl, ite2 (fun c => ?_) (fun c => ?_)⟩
    · have c1 : (0 : Int) < (m : Int) := of_decide_eq_true c
      obtain ⟨j, rfl⟩ : ∃ j, m = j + 1 := ⟨m - 1, by omega⟩
      have hj : j < xs.length := by omega
      have at0 : atI (xs.map V.int) (((j + 1 : Nat) : Int) - 1) = some (.int xs[j]) := by
        rw [show ((j + 1 : Nat) : Int) - 1 = (j : Int) by omega]
        exact at_nat hj
      refine ⟨_, rfl, _, rfl, _, _, rfl, rfl, a, _, _, _, rfl, rfl, .inl (.inl ha), at0, rfl, _, rfl, ite2 (fun e => ?_) (fun e => ?_)⟩
      · have e0 : xs[j] = 0 := V.int.inj (of_decide_eq_true e)
        refine ⟨fun σ' H' => ∃ m', m' < j + 1 ∧ (σ' = [some (.ref a), some (.int (m' : Nat))] ∧ H' = H1 ∧ m' ≤ xs.length ∧ tr (xs.take m') = tr xs), fun _ _ z => z, ?_⟩
        refine ⟨_, rfl, _, _, rfl, rfl, j, by omega, ?_, rfl, by omega, by rw [← tr_cut hj e0, ht]⟩
        show _ = [some (V.ref a), some (V.int (j : Nat))]
        rw [show ((j : Nat) : Int) = ((j + 1 : Nat) : Int) - 1 by omega]
        rfl
      · have e0 : xs[j] ≠ 0 := fun z => e (decide_eq_true (congrArg V.int z))
        exact fin (tr_stop hj e0)
    · have c1 : ¬ (0 : Int) < (m : Int) := fun z => c (decide_eq_true z)
      obtain rfl : m = 0 := by omega
      exact iteF (fin rfl)

/-- of a tuple or a list -/
def spBare (K : PySem.W.Frag) : Sp := fun vs H Q _ => ∃ (a : Addr) (xs : List Int), vs = [.ref a] ∧ (SqL K H a (xs.map V.int) ∨ SqT K H a (xs.map V.int)) ∧ xs.length ≤ 1000 ∧ ∀ (p : Addr) (H' : Hp), Same H H' → TAt H' p (tr xs) → Q (.ref p) H'
end


open PySem PySem.Spec PyProof.Rows L2 Gd Pv RZ Po
theorem at_of {n j : Nat} {F : Int → Int} {i : Int} (h : j < n) (e : i = (j : Int)) : atI ((of n F).map V.int) i = some (.int (F j)) := by
  subst e
  rw [at_nat (xs := of n F) (j := j) (by rw [of_len]; exact h)]
  have z := of_get (F := F) h
  rw [List.getElem?_eq_getElem (by rw [of_len]; exact h)] at z
  rw [Option.some.inj z]
theorem at_co {xs : List Int} {j : Nat} {i : Int} (h : j < xs.length) (e : i = (j : Int)) : atI (xs.map V.int) i = some (.int (co xs j)) := by
  subst e
  rw [at_nat h, co_get h]
theorem ix_of {n j : Nat} {F : Int → Int} {i : Int} (h : j < n) (e : i = (j : Int)) : ixN ((of n F).map V.int).length i = some j := by
  subst e
  rw [List.length_map, of_len]
  unfold ixN
  rw [if_pos (by omega), if_pos (by omega)]
  rfl
theorem of_set {n j : Nat} {F : Int → Int} {v : Int} : (of n F).set j v = of n fun i => if i = (j : Int) then v else F i := by
  refine List.ext_getElem (by rw [List.length_set, of_len, of_len]) fun i h1 h2 => ?_
  rw [of_len] at h2
  have z := of_get (F := fun i => if i = (j : Int) then v else F i) h2
  rw [List.getElem?_eq_getElem (by rw [of_len]; exact h2)] at z
  have y := of_get (F := F) h2
  rw [List.getElem?_eq_getElem (by rw [of_len]; exact h2)] at y
  rw [Option.some.inj z, List.getElem_set, Option.some.inj y]
  by_cases e : j = i
  · subst e
    rw [if_pos rfl, if_pos rfl]
  · rw [if_neg e, if_neg (by omega)]
/-- c times G, put from j on, k of them -/
def ptl (W : Int → Int) (c : Int) (G : Int → Int) (j k : Nat) : Int → Int := fun b => W b + if 0 ≤ b - j ∧ b - j < (k : Int) then c * G (b - j) else 0
theorem ptl_zero (n : Nat) (W : Int → Int) (c : Int) (G : Int → Int) (j : Nat) : of n (ptl W c G j 0) = of n W := of_congr fun b _ => by
  show W b + (if 0 ≤ (b : Int) - j ∧ (b : Int) - j < ((0 : Nat) : Int) then _ else 0) = _
  rw [if_neg (by omega), Int.add_zero]
theorem ptl_at (W : Int → Int) (c : Int) (G : Int → Int) (j k : Nat) : ptl W c G j k ((j : Int) + k) = W ((j : Int) + k) := by
  show W _ + (if 0 ≤ (j : Int) + k - j ∧ (j : Int) + k - j < (k : Int) then _ else 0) = _
  rw [if_neg (by omega), Int.add_zero]
theorem ptl_all {m : Nat} (n : Nat) (W : Int → Int) (c : Int) {G : Int → Int} (j : Nat) (g0 : ∀ i, i < 0 → G i = 0) (g1 : ∀ i, (m : Int) ≤ i → G i = 0) : of n (ptl W c G j m) = of n fun b => W b + c * G (b - j) := of_congr fun b _ => by
  show W b + (if 0 ≤ (b : Int) - j ∧ (b : Int) - j < (m : Int) then _ else 0) = _
  by_cases z : 0 ≤ (b : Int) - j ∧ (b : Int) - j < (m : Int)
  · rw [if_pos z]
  · rw [if_neg z]
    by_cases y : (b : Int) - j < 0
    · rw [g0 _ y, Int.mul_zero]
    · rw [g1 _ (by omega), Int.mul_zero]
theorem ptl_step {n : Nat} {W : Int → Int} {c : Int} {G : Int → Int} {j k : Nat} : (of n (ptl W c G j k)).set (j + k) (W ((j : Int) + k) + c * G k) = of n (ptl W c G j (k + 1)) := by
  rw [of_set]
  refine of_congr fun b _ => ?_
  show (if (b : Int) = ((j + k : Nat) : Int) then _ else W b + (if 0 ≤ (b : Int) - j ∧ (b : Int) - j < (k : Int) then c * G ((b : Int) - j) else 0)) = W b + (if 0 ≤ (b : Int) - j ∧ (b : Int) - j < ((k + 1 : Nat) : Int) then c * G ((b : Int) - j) else 0)
  by_cases e : (b : Int) = ((j + k : Nat) : Int)
  · rw [if_pos e, if_pos (by omega), e, show (((j + k : Nat) : Int) - j) = k by omega, show (((j + k : Nat) : Int)) = (j : Int) + k by omega]
  · rw [if_neg e]
    by_cases z : 0 ≤ (b : Int) - j ∧ (b : Int) - j < (k : Int)
    · rw [if_pos z, if_pos (by omega)]
    · rw [if_neg z, if_neg (by omega)]
theorem zvc {F : Int → Int} {v : V} {n i : Nat} (hi : i < n) (ez : ((of n F).map V.int)[i]? = some v) : v = .int (F i) := by
  rw [List.getElem?_map, of_get hi] at ez
  exact (Option.some.inj ez).symm
theorem co_pad {xs : List Int} {m : Nat} (h : xs.length ≤ m) : xs ++ List.replicate (m - xs.length) 0 = of m (co xs) := by
  refine List.ext_getElem (by rw [List.length_append, List.length_replicate, of_len]; omega) fun i h1 h2 => ?_
  rw [of_len] at h2
  have z := of_get (F := co xs) h2
  rw [List.getElem?_eq_getElem (by rw [of_len]; exact h2)] at z
  rw [Option.some.inj z]
  by_cases y : i < xs.length
  · rw [List.getElem_append_left y, co_get y]
  · rw [List.getElem_append_right (by omega), List.getElem_replicate, co_big (by omega)]
/-- the sum, trimmed -/
def pl (xs ys : List Int) : List Int := tr (of (xs.length + ys.length) fun i => co xs i + co ys i)
theorem pl_win {n : Nat} {xs ys : List Int} (h1 : xs.length ≤ n) (h2 : ys.length ≤ n) : tr (of n fun i => co xs i + co ys i) = pl xs ys :=
  tr_win (fun i h => by rw [co_neg h, co_neg h]; rfl) (fun i h => by rw [co_big (by omega), co_big (by omega)]; rfl) (fun i h => by rw [co_big (by omega), co_big (by omega)]; rfl)
theorem pl_nil {xs : List Int} (hx : Nf xs) : pl xs [] = xs := by
  unfold pl
  rw [show (of (xs.length + [].length) fun i => co xs i + co [] i) = of xs.length (co xs) from of_congr fun j _ => by rw [co_nil, Int.add_zero], of_co rfl, hx.tr]
section
variable {P : Program} {w : World} {K : PySem.W.Frag} {mg : Str → Option Value} {base : Heap}
def spPad : Sp := fun vs H Q _ => ∃ (a : Addr) (xs : List Int) (m : Nat), vs = [.ref a, .int (m : Nat)] ∧ TAt H a xs ∧ xs.length ≤ m ∧ m ≤ 1000 ∧ ∀ (p : Addr) (H' : Hp), Same H H' → TAt H' p (of m (co xs)) → Q (.ref p) H'
theorem c_padded (D : At K mg "padded" s_padded ["one", "many"]) (z_len : mg "len" = none) : Cal P w K mg base 1 "padded" spPad := by
  refine okC D sc_padded (fun vs H Q E h => ?_) (fun f cdv A outer s H vs Q E hr h => ?_)
  · obtain ⟨a, xs, m, rfl, _⟩ := h
    rfl
  · obtain ⟨a, xs, m, rfl, ha, h1, h2, q⟩ := h
    have nd := sc_padded.nd
    refine ⟨_, (pss_one (ps_ret (pe_op op_catA (pv 0) (pe_op op_repN (pe_tup (pa_cons pe_int pa_nil)) (pe_op op_sub (pv 1) (pe_callB call_len_seq (by rfl) z_len PySem.boot_len (pa_cons (pv 0) pa_nil))))))), ?_⟩
    refine ⟨_, rfl, (by show 1 ≤ sizeLine; decide), fun t ht => ⟨_, rfl, _, rfl, a, _, rfl, .inr (ha.same (same_new ht)).sq, _, _, rfl, rfl, t, _, m - xs.length, rfl, ?_, upd_same, by simp, by omega, (by show 1 ≤ 1000; decide), fun p H' sm hp => ?_⟩⟩
    · rw [List.length_map]
      show V.int ((m : Int) - (xs.length : Nat)) = _
      congr 1
      omega
    have s1 := (same_new (o := .tup [V.int 0]) ht).trans sm
    have ha1 := ha.same s1
    rw [rep_flat] at hp
    have hp2 : TAt H' p (List.replicate (m - xs.length) 0) := hp
    refine ⟨a, p, _, _, rfl, rfl, ha1.sq, hp2.sq, ?_, fun e => ?_, fun e1 e2 => ?_, fun e1 e2 r hr2 => ?_⟩
    · rw [List.length_map, List.length_map, List.length_replicate, sizeLine_eq]
      omega
    · have e0 : xs = [] := List.map_eq_nil_iff.mp e
      subst e0
      refine q p H' s1 ?_
      rw [← co_pad (by simp)]
      exact hp2
    · have e0 := List.map_eq_nil_iff.mp e2
      refine q a H' s1 ?_
      rw [← co_pad h1, e0, List.append_nil]
      exact ha1
    · refine q r _ (s1.trans (same_new hr2)) ?_
      show upd _ r _ r = _
      rw [upd_same, ← co_pad h1, List.map_append]
def spPlus : Sp := fun vs H Q _ => ∃ (a b : Addr) (xs ys : List Int), vs = [.ref a, .ref b] ∧ TAt H a xs ∧ TAt H b ys ∧ Nf xs ∧ Nf ys ∧ xs.length ≤ 500 ∧ ys.length ≤ 500 ∧ ∀ (p : Addr) (H' : Hp), Same H H' → TAt H' p (pl xs ys) → Q (.ref p) H'
end


open PySem PySem.Spec PyProof.Rows L2 Gd Pv RZ Po
section
variable {P : Program} {w : World} {K : PySem.W.Frag} {mg : Str → Option Value} {base : Heap}
def spTimes : Sp := fun vs H Q _ => ∃ (a b : Addr) (xs ys : List Int) (c d : Nat), vs = [.ref a, .ref b] ∧ TAt H a xs ∧ TAt H b ys ∧ Nf xs ∧ Nf ys ∧ xs.length ≤ 400 ∧ ys.length ≤ 400 ∧ Bd c xs ∧ Bd d ys ∧ 0 < c ∧ 0 < d ∧ c + d ≤ 100000 ∧
  ∀ (p : Addr) (H' : Hp), Same H H' → TAt H' p (ml xs ys) → Q (.ref p) H'
theorem Bd.co {c : Nat} {xs : List Int} (h : Bd c xs) (i : Int) : (co xs i).natAbs < 2 ^ c := by
  by_cases z : 0 ≤ i
  · obtain ⟨j, rfl⟩ := Int.eq_ofNat_of_zero_le z
    by_cases y : j < xs.length
    · rw [co_get y]
      exact h _ (List.getElem_mem _)
    · rw [co_big (by omega)]
      exact Nat.pow_pos (by decide)
  · rw [co_neg (by omega)]
    exact Nat.pow_pos (by decide)
theorem c_times (D : At K mg "times" s_times ["one", "other"]) (c_need : Cal P w K mg base 1 "need" spNeed) (c_is_polynomial : Cal P w K mg base 3 "is_polynomial" spIsPoly) (c_trimmedL : Cal P w K mg base 1 "trimmed" spTrimL)
    (z_len : mg "len" = none) (z_range : mg "range" = none) (z_enumerate : mg "enumerate" = none) : Cal P w K mg base 4 "times" spTimes := by
  refine okC D sc_times (fun vs H Q E h => ?_) (fun f cdv A outer s H vs Q E hr h => ?_)
  · obtain ⟨a, b, xs, ys, c, d, rfl, _⟩ := h
    rfl
  · obtain ⟨a, b, xs, ys, c, d, rfl, ha, hb, nx, ny, lx, ly, bx, bY, c0, d0, hcd, q⟩ := h
    have nd := sc_times.nd
    refine ⟨_, (pss_cons (ps_expr (pe_k c_need hr (by decide) (by rfl) (pa_cons (pe_k c_is_polynomial hr (by decide) (by rfl) (pa_cons (pv 0) pa_nil)) (pa_cons pe_str pa_nil))))
 (pss_cons (ps_expr (pe_k c_need hr (by decide) (by rfl) (pa_cons (pe_k c_is_polynomial hr (by decide) (by rfl) (pa_cons (pv 1) pa_nil)) (pa_cons pe_str pa_nil))))
 (pss_cons (ps_setLc (i := 2) (own := [("_", 5)]) rfl nd rfl rfl (sw_true rfl rfl rfl (by decide +kernel)) (pi_range1 (by rfl) z_range (pa_cons (pe_op op_add (pe_callB call_len_seq (by rfl) z_len PySem.boot_len (pa_cons (pv 0) pa_nil)) (pe_callB call_len_seq (by rfl) z_len PySem.boot_len (pa_cons (pv 1) pa_nil))) pa_nil)) (blkOk_by (N := N_times) (sc := defScope s_times) (by decide +kernel)) (fun _ _ _ _ _ => pg_name (i := 5) nd rfl (Or.inl rfl)) (fun _ _ _ _ _ => pts_nil) (fun _ _ _ _ _ => pe_int))
 (pss_cons (ps_for PassesOwn.never rfl (pi_enT (by rfl) z_enumerate (pa_cons (pv 0) pa_nil)) (pg_tup rfl (pgs_cons (pg_name (i := 3) nd rfl (.inl rfl)) (pgs_cons (pg_name (i := 4) nd rfl (.inl rfl)) pgs_nil)))
 (pss_one (ps_for PassesOwn.never rfl (pi_enT (by rfl) z_enumerate (pa_cons (pv 1) pa_nil)) (pg_tup rfl (pgs_cons (pg_name (i := 6) nd rfl (.inl rfl)) (pgs_cons (pg_name (i := 7) nd rfl (.inl rfl)) pgs_nil)))
 (pss_one (ps_asg (pe_op op_add (pe_ix ix_list (pv 2) (pe_op op_add (pv 3) (pv 6)) (fun _ _ => rfl)) (pe_op op_mulW (pv 4) (pv 7))) (pg_sub (pv 2) (pe_op op_add (pv 3) (pv 6)) set_list))))))
 (pss_one (ps_ret (pe_k c_trimmedL hr (by decide) (by rfl) (pa_cons (pv 2) pa_nil)))))))), ?_⟩
    refine ⟨_, rfl, a, xs, rfl, ha, nx, by omega, fun H1 s1 => ⟨_, rfl, ?_⟩⟩
    refine ⟨_, rfl, b, ys, rfl, hb.same s1, ny, by omega, fun H2 s2 => ⟨_, rfl, ?_⟩⟩
    have s02 := s1.trans s2
    have ha2 := ha.same s02
    have hb2 := hb.same s02
    refine ⟨_, rfl, a, _, rfl, .inr ha2.sq, _, rfl, b, _, rfl, .inr hb2.sq, _, _, rfl, rfl, ((xs.length + ys.length : Nat) : Int), by rw [List.length_map, List.length_map, Int.natCast_add], by omega, by omega, fun R hR => lcR (fun _ => V.int 0) hR (by rw [Int.toNat_natCast]; omega) ?_ ?_⟩
    · intro i G R2 hi sG h4
      exact ⟨rfl, h4 G (Same.refl _)⟩
    · intro G0 s0 e0
      rw [Int.toNat_natCast, of_V _ fun _ => 0] at e0
      have e0' : G0 R = some (.lst ((of (xs.length + ys.length) (mu 0 (co xs) (co ys))).map V.int)) := e0
      refine ⟨_, rfl, a, _, rfl, (ha2.same s0).sq, for_it walk_enT (fun j σ H' => ∃ (y3 y4 y5 y6 y7 : Option V), σ = [some (.ref a), some (.ref b), some (.ref R), y3, y4, y5, y6, y7] ∧ Same H2 H' ∧ H' R = some (.lst ((of (xs.length + ys.length) (mu j (co xs) (co ys))).map V.int)))
        ⟨_, _, _, _, _, rfl, s0, e0'⟩ (fun _ _ _ _ z => by obtain ⟨_, _, _, _, _, _, sz, _⟩ := z; exact (ha2.same sz).sq) ?_ ?_⟩
      · rintro j x σ G G' hj ⟨y3, y4, y5, y6, y7, rfl, sG, eG⟩ ⟨T, x1, x2, rfl, nT, rfl, e1, e2⟩
        rw [List.length_map] at hj
        have hx2 : x2 = V.int (co xs j) := by
          have q1 : (xs.map V.int)[j]? = some x2 := e2
          rw [List.getElem?_map, List.getElem?_eq_getElem hj] at q1
          rw [co_get hj]
          exact (Option.some.inj q1).symm
        have hx1 : x1 = V.int (j : Nat) := (Option.some.inj e1).symm
        subst hx1 hx2
        have sT := same_new (o := .tup [V.int (j : Nat), .int (co xs j)]) nT
        refine ⟨T, _, rfl, .inl (.inl upd_same), rfl, _, _, rfl, _, _, rfl, rfl, ?_⟩
        have e3 := sT _ _ eG
        have s3 := sG.trans sT
        generalize upd G T (.tup [V.int (j : Nat), .int (co xs j)]) = G1 at e3 s3 ⊢
        refine ⟨_, rfl, b, _, rfl, (hb2.same s3).sq, for_it walk_enT (fun k σ H' => ∃ (y5 y6 y7 : Option V), σ = [some (.ref a), some (.ref b), some (.ref R), some (.int (j : Nat)), some (.int (co xs j)), y5, y6, y7] ∧ Same H2 H' ∧
            H' R = some (.lst ((of (xs.length + ys.length) (ptl (mu j (co xs) (co ys)) (co xs j) (co ys) j k)).map V.int)))
          ⟨_, _, _, rfl, s3, by rw [ptl_zero]; exact e3⟩ (fun _ _ _ _ z => by obtain ⟨_, _, _, _, sz, _⟩ := z; exact (hb2.same sz).sq) ?_ ?_⟩
        · rintro k x σ G2 G2' hk ⟨y5, y6, y7, rfl, s4, e4⟩ ⟨T2, x1, x2, rfl, nT2, rfl, f1, f2⟩
          rw [List.length_map] at hk
          have hx2 : x2 = V.int (co ys k) := by
            have q1 : (ys.map V.int)[k]? = some x2 := f2
            rw [List.getElem?_map, List.getElem?_eq_getElem hk] at q1
            rw [co_get hk]
            exact (Option.some.inj q1).symm
          have hx1 : x1 = V.int (k : Nat) := (Option.some.inj f1).symm
          subst hx1 hx2
          have sT2 := same_new (o := .tup [V.int (k : Nat), .int (co ys k)]) nT2
          refine ⟨T2, _, rfl, .inl (.inl upd_same), rfl, _, _, rfl, _, _, rfl, rfl, ?_⟩
          have e5 := sT2 _ _ e4
          have s5 := s4.trans sT2
          generalize upd G2 T2 (.tup [V.int (k : Nat), .int (co ys k)]) = G3 at e5 s5 ⊢
          have hjk : j + k < xs.length + ys.length := by omega
          refine ⟨_, rfl, _, rfl, _, rfl, _, _, rfl, rfl, R, _, _, _, rfl, rfl, .inl (.inl e5), at_of (j := j + k) hjk (by omega), _, rfl, _, rfl, _, _, rfl, rfl, wide_mul (bx.co j) (bY.co k) c0 d0 (by omega), _, _, rfl, rfl, ?_⟩
          refine ⟨_, rfl, _, rfl, _, rfl, _, _, rfl, rfl, R, _, _, _, rfl, rfl, e5, ix_of (j := j + k) hjk (by omega), ?_⟩
          refine ⟨_, _, _, rfl, same_own s5 hR, ?_⟩
          rw [upd_same, ← List.map_set, Int.natCast_add, ptl_at, ptl_step]
        · rintro σ G2 ⟨y5, y6, y7, rfl, s4, e4⟩
          rw [List.length_map, ptl_all _ _ _ _ (fun _ => co_neg) (fun _ => co_big)] at e4
          exact ⟨_, _, _, _, _, rfl, s4, e4⟩
      · rintro σ G ⟨y3, y4, y5, y6, y7, rfl, sG, eG⟩
        rw [List.length_map] at eG
        exact ⟨_, rfl, R, _, rfl, eG, by rw [of_len]; omega, fun p H' sm hp => q p H' ((s02.trans sG).trans sm) hp⟩
end


open PySem PySem.Spec PyProof.Rows L2 Gd Pv RZ Po
theorem rgd_all : (List.range 1001).all (fun m => decide (Builtin.Range.small ((m : Int) - 1) (-1) (-1) = true ∧ Builtin.Range.rangeSize ((m : Int) - 1) (-1) (-1) = (m : Int))) = true := by decide +kernel
theorem rgd {m : Nat} (h : m ≤ 1000) : RgC ((m : Int) - 1) (-1) (-1) m := by
  have := of_decide_eq_true (List.all_eq_true.mp rgd_all m (List.mem_range.mpr (by omega)))
  exact ⟨by decide, by decide, this.1, this.2⟩
/-- how far the division has come: s shifts are left -/
structure Dvn (d : Nat) (B R0 : Int → Int) (m c e s : Nat) (R : Int → Int) (ft : List Int) : Prop where
  le : s ≤ m
  run : run d B s R = run d B m R0
  fac : fac d B s R ++ ft = fac d B m R0
  abs : ∀ i, (R i).natAbs ≤ 2 ^ (c + (m - s) * (e + 1))
theorem Dvn.start {d : Nat} {B R0 : Int → Int} {m c e : Nat} (h : ∀ i, (R0 i).natAbs ≤ 2 ^ c) : Dvn d B R0 m c e m R0 [] :=
  ⟨Nat.le_refl _, rfl, List.append_nil _, fun i => by rw [Nat.sub_self, Nat.zero_mul]; exact h i⟩
theorem Dvn.next {d : Nat} {B R0 R : Int → Int} {m c e s : Nat} {ft : List Int} (h : Dvn d B R0 m c e (s + 1) R ft) (hB : ∀ i, (B i).natAbs ≤ 2 ^ e) : Dvn d B R0 m c e s (stp d B R s) (R ((s : Int) + d) :: ft) := by
  have h1 := h.le
  refine ⟨by omega, h.run, ?_, fun i => ?_⟩
  · rw [← h.fac]
    show _ = (Po.fac d B s (stp d B R s) ++ [R ((s : Int) + d)]) ++ ft
    rw [List.append_assoc]
    rfl
  · have z := abs_step (d := d) (s := s) h.abs hB i
    have e1 : c + (m - s) * (e + 1) = c + (m - (s + 1)) * (e + 1) + (e + 1) := by
      rw [show m - s = m - (s + 1) + 1 by omega, Nat.succ_mul]
      omega
    rw [e1]
    exact z
theorem Dvn.done {d : Nat} {B R0 R : Int → Int} {m c e : Nat} {ft : List Int} (h : Dvn d B R0 m c e 0 R ft) : R = Po.run d B m R0 ∧ ft = Po.fac d B m R0 := ⟨h.run, h.fac⟩
theorem Dvn.bits {d : Nat} {B R0 R : Int → Int} {m c e s : Nat} {ft : List Int} (h : Dvn d B R0 m c e s R ft) (i : Int) : (R i).natAbs < 2 ^ (c + m * (e + 1) + 1) :=
  Nat.lt_of_le_of_lt (h.abs i) (Nat.lt_of_le_of_lt (Nat.pow_le_pow_right (by decide) (by have := Nat.mul_le_mul_right (e + 1) (Nat.sub_le m s); omega : c + (m - s) * (e + 1) ≤ c + m * (e + 1))) (Nat.pow_lt_pow_right (by decide) (Nat.lt_succ_self _)))
theorem set_zeros (s : Nat) (x : Int) (ft : List Int) : (List.replicate (s + 1) (0 : Int) ++ ft).set s x = List.replicate s 0 ++ (x :: ft) := by
  rw [List.replicate_succ', List.append_assoc, List.set_append_right _ _ (by rw [List.length_replicate]; exact Nat.le_refl _), List.length_replicate, Nat.sub_self]
  rfl
theorem stp_of {n d s : Nat} {B R : Int → Int} : (of n fun b => R b + -R ((s : Int) + d) * B (b - s)) = of n (stp d B R s) := of_congr fun b _ => by
  show _ = R b - R ((s : Int) + d) * B (b - s)
  rw [Int.neg_mul]
  omega
section
variable {P : Program} {w : World} {K : PySem.W.Frag} {mg : Str → Option Value} {base : Heap}
def spDiv : Sp := fun vs H Q _ => ∃ (a b : Addr) (xs ds : List Int) (c e : Nat), vs = [.ref a, .ref b] ∧ TAt H a xs ∧ TAt H b ds ∧ 1 ≤ ds.length ∧ xs.length ≤ 1000 ∧ ds.length ≤ 1000 ∧ Bd c xs ∧ Bd e ds ∧ 0 < e ∧ c + xs.length * (e + 1) + 1 + e ≤ 90000 ∧
  ∀ (t p1 p2 : Addr) (H' : Hp), Same H H' → H' t = some (.tup [.ref p1, .ref p2]) → TAt H' p1 (qs xs ds) → TAt H' p2 (rs xs ds) → Q (.ref t) H'
theorem c_divided (D : At K mg "divided" s_divided ["one", "divisor"]) (c_trimmedL : Cal P w K mg base 1 "trimmed" spTrimL) (z_len : mg "len" = none) (z_list : mg "list" = none) (z_range : mg "range" = none) (z_reversed : mg "reversed" = none) : Cal P w K mg base 2 "divided" spDiv := by
  refine okC D sc_divided (fun vs H Q E h => ?_) (fun f cdv A outer s H vs Q E hr h => ?_)
  · obtain ⟨a, b, xs, ds, c, e, rfl, _⟩ := h
    rfl
  · obtain ⟨a, b, xs, ds, c, e, rfl, ha, hb, l1, lx, ld, bx, bd, e0, hcd, q⟩ := h
    have nd := sc_divided.nd
    refine ⟨_, (pss_cons (ps_set (i := 2) nd rfl (.inl rfl) (pe_op op_sub (pe_callB call_len_seq (by rfl) z_len PySem.boot_len (pa_cons (pv 1) pa_nil)) pe_int))
 (pss_cons (ps_set (i := 3) nd rfl (.inl rfl) (pe_callTy call_list_of (by rfl) z_list (by decide +kernel) (pa_cons (pv 0) pa_nil)))
 (pss_cons (ps_setLc (i := 4) (own := [("_", 8)]) rfl nd rfl rfl (sw_true rfl rfl rfl (by decide +kernel)) (pi_range1 (by rfl) z_range (pa_cons (pe_op op_sub (pe_callB call_len_seq (by rfl) z_len PySem.boot_len (pa_cons (pv 0) pa_nil)) (pv 2)) pa_nil)) (blkOk_by (N := N_divided) (sc := defScope s_divided) (by decide +kernel)) (fun _ _ _ _ _ => pg_name (i := 8) nd rfl (Or.inl rfl)) (fun _ _ _ _ _ => pts_nil) (fun _ _ _ _ _ => pe_int))
 (pss_cons (ps_for PassesOwn.never rfl (pi_revR (by rfl) z_reversed (prg_1 (by rfl) z_range (pe_op op_sub (pe_callB call_len_seq (by rfl) z_len PySem.boot_len (pa_cons (pv 0) pa_nil)) (pv 2)))) (pg_name (i := 5) nd rfl (.inl rfl))
 (pss_cons (ps_set (i := 6) nd rfl (.inl rfl) (pe_ix ix_list (pv 3) (pe_op op_add (pv 5) (pv 2)) (fun _ _ => rfl)))
 (pss_cons (ps_asg (pv 6) (pg_sub (pv 4) (pv 5) set_list))
 (pss_one (ps_for PassesOwn.never rfl (pi_range1 (by rfl) z_range (pa_cons (pe_op op_add (pv 2) pe_int) pa_nil)) (pg_name (i := 7) nd rfl (.inl rfl))
 (pss_one (ps_asg (pe_op op_sub (pe_ix ix_list (pv 3) (pe_op op_add (pv 5) (pv 7)) (fun _ _ => rfl)) (pe_op op_mulW (pv 6) (pe_ix ix_tup (pv 1) (pv 7) (fun _ _ => rfl)))) (pg_sub (pv 3) (pe_op op_add (pv 5) (pv 7)) set_list))))))))
 (pss_one (ps_ret (pe_tup (pa_cons (pe_k c_trimmedL hr (by decide) (by rfl) (pa_cons (pv 4) pa_nil)) (pa_cons (pe_k c_trimmedL hr (by decide) (by rfl) (pa_cons (pv 3) pa_nil)) pa_nil))))))))), ?_⟩
    obtain ⟨d, hd⟩ : ∃ d : Nat, ds.length = d + 1 := ⟨ds.length - 1, by omega⟩
    have hB : ∀ i, (co ds i).natAbs ≤ 2 ^ e := fun i => Nat.le_of_lt (bd.co i)
    have bigB : ∀ i, ((d + 1 : Nat) : Int) ≤ i → co ds i = 0 := fun i hi => co_big (by omega)
    refine ⟨_, rfl, b, _, rfl, .inr hb.sq, _, _, rfl, rfl, ?_⟩
    rw [List.length_map, hd]
    dsimp only
    rw [show (((d + 1 : Nat) : Int) - 1) = (d : Int) by omega]
    refine ⟨_, rfl, a, _, rfl, .inr ha.sq, fun r hr0 => ?_⟩
    have s1 := same_new (o := .lst (xs.map V.int)) hr0
    have e1 : LAt (upd H r (.lst (xs.map V.int))) r xs := upd_same
    generalize upd H r (.lst (xs.map V.int)) = H1 at s1 e1 ⊢
    refine ⟨_, rfl, a, _, rfl, .inr (ha.same s1).sq, _, rfl, _, _, rfl, rfl, ((xs.length : Int) - (d : Int)), by rw [List.length_map], by omega, by omega, fun R hR => lcR (fun _ => V.int 0) hR (by omega) ?_ ?_⟩
    · intro i G R2 hi sG h4
      exact ⟨rfl, h4 G (Same.refl _)⟩
    · intro G0 s0 e2
      obtain ⟨m, hm⟩ : ∃ m : Nat, m = xs.length - d := ⟨_, rfl⟩
      have em : ((xs.length : Int) - (d : Int)).toNat = m := by omega
      rw [em, of_V _ fun _ => 0, of_const] at e2
      have s01 := s1.trans s0
      have er : G0 r = some (.lst ((of xs.length (co xs)).map V.int)) := by
        rw [of_co rfl]
        exact s0 _ _ e1
      have nrR : r ≠ R := fun z => by
        have y := e1
        rw [z] at y
        have y2 : H1 R = some (.lst (xs.map V.int)) := y
        rw [hR] at y2
        cases y2
      refine ⟨_, rfl, a, _, rfl, .inr (ha.same s01).sq, _, rfl, _, _, rfl, rfl, (xs.length : Int) - (d : Int), by rw [List.length_map], by omega, by omega, by omega, by omega, ?_⟩
      rw [Int.sub_zero, em]
      refine for_it walk_rangeC (fun i σ H' => ∃ (y5 y6 y7 y8 : Option V) (F : Int → Int) (ft : List Int), σ = [some (.ref a), some (.ref b), some (.int (d : Nat)), some (.ref r), some (.ref R), y5, y6, y7, y8] ∧ Same H H' ∧ H' r = some (.lst ((of xs.length F).map V.int)) ∧
          H' R = some (.lst ((List.replicate (m - i) 0 ++ ft).map V.int)) ∧ Dvn d (co ds) (co xs) m c e (m - i) F ft)
        ⟨_, _, _, _, co xs, [], rfl, s01, er, by rw [Nat.sub_zero, List.append_nil]; exact e2, by rw [Nat.sub_zero]; exact Dvn.start fun i => Nat.le_of_lt (bx.co i)⟩ (fun _ _ _ _ _ => True.intro) ?_ ?_
      · rintro i x σ G G' hi ⟨y5, y6, y7, y8, F, ft, rfl, sG, eG, eF, dn⟩ ⟨eH, rfl⟩
        obtain rfl := eH.symm
        obtain ⟨s, hs⟩ : ∃ s, m - i = s + 1 := ⟨m - i - 1, by omega⟩
        rw [hs] at eF dn
        have hsl : s + d < xs.length := by omega
        have ei : (0 + ((m : Nat) : Int) - 1 + (i : Int) * -1) = (s : Int) := by omega
        refine ⟨_, rfl, _, rfl, _, rfl, _, _, rfl, rfl, r, _, _, _, rfl, rfl, .inl (.inl eG), at_of (j := s + d) hsl (by rw [ei]; omega), ?_⟩
        have hix : ixN ((List.replicate (s + 1) (0 : Int) ++ ft).map V.int).length (0 + ((m : Nat) : Int) - 1 + (i : Int) * -1) = some s := by
          rw [ei, List.length_map, List.length_append, List.length_replicate]
          unfold ixN
          rw [if_pos (by omega), if_pos (by omega)]
          rfl
        refine ⟨_, rfl, _, rfl, _, rfl, R, _, _, _, rfl, rfl, eF, hix, ?_⟩
        have nn : H R = none := by
          cases z : H R with
          | none => rfl
          | some o =>
            have y := s1 R o z
            rw [hR] at y
            cases y
        have s5 := same_own (o := .lst (((List.replicate (s + 1) (0 : Int) ++ ft).map V.int).set s (.int (F ((s + d : Nat) : Int))))) sG nn
        have e5 : (upd G R (.lst (((List.replicate (s + 1) (0 : Int) ++ ft).map V.int).set s (.int (F ((s + d : Nat) : Int)))))) R = some (.lst ((List.replicate s 0 ++ (F ((s : Int) + d) :: ft)).map V.int)) := by
          rw [upd_same, ← List.map_set, set_zeros, Int.natCast_add]
        have e6 : (upd G R (.lst (((List.replicate (s + 1) (0 : Int) ++ ft).map V.int).set s (.int (F ((s + d : Nat) : Int)))))) r = some (.lst ((of xs.length F).map V.int)) := by
          rw [upd_ne nrR]
          exact eG
        generalize upd G R (.lst (((List.replicate (s + 1) (0 : Int) ++ ft).map V.int).set s (.int (F ((s + d : Nat) : Int))))) = G5 at s5 e5 e6 ⊢
        refine ⟨_, rfl, _, _, rfl, rfl, ((d + 1 : Nat) : Int), by rw [Int.natCast_add]; rfl, by omega, by omega, ?_⟩
        rw [Int.toNat_natCast]
        refine for_it walk_range (fun k σ H' => ∃ (y7 : Option V), σ = [some (.ref a), some (.ref b), some (.int (d : Nat)), some (.ref r), some (.ref R), some (.int (0 + ((m : Nat) : Int) - 1 + (i : Int) * -1)), some (.int (F ((s + d : Nat) : Int))), y7, y8] ∧ Same H H' ∧
            H' R = some (.lst ((List.replicate s 0 ++ (F ((s : Int) + d) :: ft)).map V.int)) ∧ H' r = some (.lst ((of xs.length (ptl F (-F ((s + d : Nat) : Int)) (co ds) s k)).map V.int)))
          ⟨_, rfl, s5, e5, by rw [ptl_zero]; exact e6⟩ (fun _ _ _ _ _ => True.intro) ?_ ?_
        · rintro k x σ G2 G2' hk ⟨y7, rfl, s7, e7, e8⟩ ⟨eH, rfl⟩
          obtain rfl := eH.symm
          have hsk : s + k < xs.length := by omega
          refine ⟨_, rfl, _, rfl, _, rfl, _, _, rfl, rfl, r, _, _, _, rfl, rfl, .inl (.inl e8), at_of (j := s + k) hsk (by rw [ei]; omega), _, rfl, _, rfl, _, rfl, b, _, _, _, rfl, rfl, .inl (.inl (s7 _ _ hb)), at_co (j := k) (by omega) (by omega), _, _, rfl, rfl, wide_mul (a := c + m * (e + 1) + 1) (b := e) (dn.bits _) (bd.co _) (by omega) e0 ?_, _, _, rfl, rfl, ?_⟩
          · have := Nat.mul_le_mul_right (e + 1) (by omega : m ≤ xs.length)
            omega
          refine ⟨_, rfl, _, rfl, _, rfl, _, _, rfl, rfl, r, _, _, _, rfl, rfl, e8, ix_of (j := s + k) hsk (by rw [ei]; omega), ?_⟩
          have nnr : H r = none := hr0
          refine ⟨_, rfl, same_own s7 nnr, ?_, ?_⟩
          · rw [upd_ne nrR.symm]
            exact e7
          · rw [upd_same, ← List.map_set, ← ptl_step, Int.neg_mul, ← Int.sub_eq_add_neg, show ((s + k : Nat) : Int) = (s : Int) + k from Int.natCast_add _ _, ptl_at]
        · rintro σ G2 ⟨y7, rfl, s7, e7, e8⟩
          rw [ptl_all _ _ _ _ (fun _ => co_neg) bigB, show ((s + d : Nat) : Int) = (s : Int) + d from Int.natCast_add _ _, stp_of] at e8
          have hs2 : m - (i + 1) = s := by omega
          exact ⟨_, _, _, _, _, _, rfl, s7, e8, by rw [hs2]; exact e7, by rw [hs2]; exact dn.next hB⟩
      · rintro σ G ⟨y5, y6, y7, y8, F, ft, rfl, sG, eG, eF, dn⟩
        rw [Nat.sub_self] at eF dn
        obtain ⟨rfl, rfl⟩ := dn.done
        have hmd : xs.length - (ds.length - 1) = m := by omega
        have hdd : ds.length - 1 = d := by omega
        refine ⟨_, rfl, R, _, rfl, eF, ?_, fun p1 H5 s5 e5 => ⟨_, rfl, r, _, rfl, s5 _ _ eG, by rw [of_len]; exact lx, fun p2 H6 s6 e6 => ⟨(by show 2 ≤ sizeLine; decide), fun t ht => ?_⟩⟩⟩
        · rw [List.length_append, List.length_replicate, fac_len]
          omega
        have st := same_new (o := .tup [V.ref p1, .ref p2]) ht
        refine q t p1 p2 _ (sG.trans (s5.trans (s6.trans st))) upd_same ?_ ?_
        · have z := (e5.same s6).same st
          unfold qs
          rw [hmd, hdd]
          exact z
        · have z := e6.same st
          unfold rs
          rw [hmd, hdd]
          exact z
end


open PySem PySem.Spec PyProof.Rows L2 Gd Pv RZ Po
section
variable {P : Program} {w : World} {K : PySem.W.Frag} {mg : Str → Option Value} {base : Heap}
def spRest : Sp := fun vs H Q _ => ∃ (a b : Addr) (xs ds : List Int) (c e : Nat), vs = [.ref a, .ref b] ∧ TAt H a xs ∧ TAt H b ds ∧ Nf xs ∧ Mo ds ∧ xs.length ≤ 1000 ∧ ds.length ≤ 1000 ∧ Bd c xs ∧ Bd e ds ∧ 0 < e ∧ c + xs.length * (e + 1) + 1 + e ≤ 90000 ∧
  ∀ (p : Addr) (H' : Hp), Same H H' → TAt H' p (rs xs ds) → Q (.ref p) H'
/-- the quotient where it comes out -/
def spExact : Sp := fun vs H Q _ => ∃ (a b : Addr) (xs ds : List Int) (c e : Nat), vs = [.ref a, .ref b] ∧ TAt H a xs ∧ TAt H b ds ∧ Nf xs ∧ Mo ds ∧ xs.length ≤ 1000 ∧ ds.length ≤ 1000 ∧ Bd c xs ∧ Bd e ds ∧ 0 < e ∧ c + xs.length * (e + 1) + 1 + e ≤ 90000 ∧
  (rs xs ds = [] → ∀ (p : Addr) (H' : Hp), Same H H' → TAt H' p (qs xs ds) → Q (.ref p) H') ∧ (rs xs ds ≠ [] → ∀ H', Same H H' → Q .non H')
theorem c_exact_by (D : At K mg "exact_by" s_exact_by ["one", "divisor"]) (c_need : Cal P w K mg base 1 "need" spNeed) (c_is_polynomial : Cal P w K mg base 3 "is_polynomial" spIsPoly) (c_is_monic : Cal P w K mg base 3 "is_monic" spIsMonic) (c_divided : Cal P w K mg base 2 "divided" spDiv) : Cal P w K mg base 4 "exact_by" spExact := by
  refine okC D sc_exact_by (fun vs H Q E h => ?_) (fun f cdv A outer s H vs Q E hr h => ?_)
  · obtain ⟨a, b, xs, ds, c, e, rfl, _⟩ := h
    rfl
  · obtain ⟨a, b, xs, ds, c, e, rfl, ha, hb, nx, mo, lx, ld, bx, bd, e0, hcd, q1, q2⟩ := h
    have nd := sc_exact_by.nd
    have hu64 := hr.units
    refine ⟨_, (pss_cons (ps_expr (pe_k c_need hr (by decide) (by rfl) (pa_cons (pe_k c_is_polynomial hr (by decide) (by rfl) (pa_cons (pv 0) pa_nil)) (pa_cons pe_str pa_nil))))
 (pss_cons (ps_expr (pe_k c_need hr (by decide) (by rfl) (pa_cons (pe_k c_is_monic hr (by decide) (by rfl) (pa_cons (pv 1) pa_nil)) (pa_cons pe_str pa_nil))))
 (pss_cons (ps_asg (pe_k c_divided hr (by decide) (by rfl) (pa_cons (pv 0) (pa_cons (pv 1) pa_nil))) (pg_tup rfl (pgs_cons (pg_name (i := 2) nd rfl (.inl rfl)) (pgs_cons (pg_name (i := 3) nd rfl (.inl rfl)) pgs_nil))))
 (pss_one (ps_ret (pe_ifExp (pt_cmpR (op_eqD hu64) (pv 3) (pe_tup pa_nil) (nomark _)) (pv 2) pe_non)))))), ?_⟩
    refine ⟨_, rfl, a, xs, rfl, ha, nx, lx, fun H1 s1 => ⟨_, rfl, ?_⟩⟩
    refine ⟨_, rfl, b, ds, rfl, hb.same s1, mo, ld, fun H2 s2 => ⟨_, rfl, ?_⟩⟩
    have s02 := s1.trans s2
    refine ⟨_, rfl, _, rfl, a, b, xs, ds, c, e, rfl, ha.same s02, hb.same s02, mo.len, lx, ld, bx, bd, e0, hcd, fun t p1 p2 H3 s3 et e1 e2 => ?_⟩
    refine ⟨t, _, rfl, .inl (.inl et), rfl, _, _, rfl, _, _, rfl, rfl, ?_⟩
    refine ⟨_, rfl, (by show 0 ≤ sizeLine; decide), fun z hz => ?_⟩
    have sz := same_new (o := .tup []) hz
    refine ⟨dT (rs xs ds), dT [], dpT (e2.same sz), dpT (show TAt _ z [] from upd_same), shT _, shT _, ?_⟩
    rw [eqT_nil]
    refine ⟨_, rfl, ite2 (fun y => ?_) (fun y => ?_)⟩
    · exact ⟨_, rfl, q1 (of_decide_eq_true y) p1 _ ((s02.trans s3).trans sz) (e1.same sz)⟩
    · exact q2 (fun x => y (decide_eq_true x)) _ ((s02.trans s3).trans sz)
end


open PySem PySem.Spec PyProof.Rows L2 Gd Pv RZ Po
/-- the value of the last ones -/
theorem ev_step {t : Int} {xs : List Int} {i : Nat} (h : i < xs.length) : ev t (xs.drop (xs.length - (i + 1))) = ev t (xs.drop (xs.length - i)) * t + xs[xs.length - 1 - i] := by
  have e : xs.drop (xs.length - (i + 1)) = xs[xs.length - 1 - i] :: xs.drop (xs.length - i) := by
    rw [show xs.length - i = (xs.length - 1 - i) + 1 by omega, show xs.length - (i + 1) = xs.length - 1 - i by omega]
    exact List.drop_eq_getElem_cons (by omega)
  rw [e]
  rfl
theorem ev_abs {t : Int} {c k : Nat} (ht : t.natAbs ≤ 2 ^ k) : ∀ {xs : List Int}, Bd c xs → (ev t xs).natAbs ≤ 2 ^ (c + xs.length * (k + 1))
  | [], _ => by show 0 ≤ _; exact Nat.zero_le _
  | x :: xs, h => by
    have h1 := ev_abs ht (xs := xs) fun y hy => h y (List.mem_cons_of_mem _ hy)
    have h2 := h x List.mem_cons_self
    have h3 : (ev t xs * t).natAbs ≤ 2 ^ (c + xs.length * (k + 1)) * 2 ^ k := by
      rw [Int.natAbs_mul]
      exact Nat.mul_le_mul h1 ht
    have h4 : 2 ^ (c + (x :: xs).length * (k + 1)) = 2 * (2 ^ (c + xs.length * (k + 1)) * 2 ^ k) := by
      rw [List.length_cons, Nat.succ_mul, show c + (xs.length * (k + 1) + (k + 1)) = c + xs.length * (k + 1) + k + 1 by omega, Nat.pow_succ, Nat.pow_add, Nat.mul_comm]
    have h5 : 2 ^ c ≤ 2 ^ (c + xs.length * (k + 1)) * 2 ^ k := Nat.le_trans (Nat.pow_le_pow_right (by decide) (Nat.le_add_right _ _)) (Nat.le_mul_of_pos_right _ (Nat.pow_pos (by decide)))
    show (ev t xs * t + x).natAbs ≤ _
    omega
theorem Bd.drop {c : Nat} {xs : List Int} (h : Bd c xs) (m : Nat) : Bd c (xs.drop m) := fun x hx => h x (List.mem_of_mem_drop hx)
theorem ev_bits {t : Int} {c k : Nat} (ht : t.natAbs ≤ 2 ^ k) {xs : List Int} (h : Bd c xs) (m : Nat) : (ev t (xs.drop m)).natAbs < 2 ^ (c + xs.length * (k + 1) + 1) :=
  Nat.lt_of_le_of_lt (ev_abs ht (h.drop m)) (Nat.pow_lt_pow_right (by decide) (by
    have := Nat.mul_le_mul_right (k + 1) (show (xs.drop m).length ≤ xs.length by rw [List.length_drop]; omega)
    omega))
section
variable {P : Program} {w : World} {K : PySem.W.Frag} {mg : Str → Option Value} {base : Heap}
def spValue : Sp := fun vs H Q _ => ∃ (a : Addr) (xs : List Int) (t : Int) (c k : Nat), vs = [.ref a, .int t] ∧ TAt H a xs ∧ Nf xs ∧ xs.length ≤ 1000 ∧ Bd c xs ∧ t.natAbs < 2 ^ k ∧ 0 < k ∧ c + xs.length * (k + 1) + 1 + k ≤ 90000 ∧ ∀ H', Same H H' → Q (.int (ev t xs)) H'
end


open PySem PySem.Spec PyProof.Rows L2 Gd Pv RZ Po Nm
/-- the first k of them, widened -/
def wk (s : Nat) (xs : List Int) (k : Nat) : Int → Int := fun i => if i % (s : Int) = 0 ∧ i / (s : Int) < (k : Int) then co xs (i / (s : Int)) else 0
theorem wk_zero (s : Nat) (xs : List Int) (n : Nat) (hs : 1 ≤ s) : of n (wk s xs 0) = of n fun _ => 0 := of_congr fun j _ => by
  show (if (j : Int) % (s : Int) = 0 ∧ (j : Int) / (s : Int) < ((0 : Nat) : Int) then _ else 0) = 0
  rw [if_neg]
  rintro ⟨_, h⟩
  have : 0 ≤ (j : Int) / (s : Int) := Int.ediv_nonneg (by omega) (by omega)
  omega
theorem wk_step {s : Nat} {xs : List Int} {n k : Nat} (hs : 1 ≤ s) : (of n (wk s xs k)).set (k * s) (co xs k) = of n (wk s xs (k + 1)) := by
  rw [of_set]
  refine of_congr fun b _ => ?_
  show (if (b : Int) = ((k * s : Nat) : Int) then co xs k else if (b : Int) % (s : Int) = 0 ∧ (b : Int) / (s : Int) < (k : Int) then co xs ((b : Int) / (s : Int)) else 0) = if (b : Int) % (s : Int) = 0 ∧ (b : Int) / (s : Int) < ((k + 1 : Nat) : Int) then co xs ((b : Int) / (s : Int)) else 0
  by_cases e : b = k * s
  · subst e
    have h1 : ((k * s : Nat) : Int) % (s : Int) = 0 := by rw [Int.natCast_mul, Int.mul_emod_left]
    have h2 : ((k * s : Nat) : Int) / (s : Int) = k := by rw [Int.natCast_mul, Int.mul_ediv_cancel _ (by omega)]
    rw [if_pos rfl, h2, if_pos ⟨h1, by omega⟩]
  · rw [if_neg (by omega)]
    by_cases h1 : (b : Int) % (s : Int) = 0
    · have h3 : (b : Int) / (s : Int) ≠ k := fun z => by
        have := Int.emod_add_mul_ediv (b : Int) (s : Int)
        rw [h1, z] at this
        refine e ?_
        have h4 : ((k * s : Nat) : Int) = (s : Int) * k := by rw [Int.natCast_mul, Int.mul_comm]
        omega
      by_cases h2 : (b : Int) / (s : Int) < (k : Int)
      · rw [if_pos ⟨h1, h2⟩, if_pos ⟨h1, by omega⟩]
      · rw [if_neg (fun z => h2 z.2), if_neg (fun z => by have := z.2; omega)]
    · rw [if_neg (fun z => h1 z.1), if_neg (fun z => h1 z.1)]
theorem wk_all {s : Nat} {xs : List Int} (hs : 1 ≤ s) (hx : xs ≠ []) : of ((xs.length - 1) * s + 1) (wk s xs xs.length) = wdL s xs := by
  rw [← wdL_of hs hx]
  refine of_congr fun b _ => ?_
  show (if (b : Int) % (s : Int) = 0 ∧ (b : Int) / (s : Int) < (xs.length : Int) then co xs ((b : Int) / (s : Int)) else 0) = if (b : Int) % (s : Int) = 0 then co xs ((b : Int) / (s : Int)) else 0
  by_cases h1 : (b : Int) % (s : Int) = 0
  · rw [if_pos h1]
    by_cases h2 : (b : Int) / (s : Int) < (xs.length : Int)
    · rw [if_pos ⟨h1, h2⟩]
    · rw [if_neg (fun z => h2 z.2), co_big (by omega)]
  · rw [if_neg (fun z => h1 z.1), if_neg h1]
theorem inV_nats (p : Nat) (seen : List Nat) : inV (.int (p : Nat)) (nV seen) = decide (p ∈ seen) := by
  have e : nV seen = (seen.map fun (p : Nat) => (p : Int)).map V.int := by unfold nV; rw [List.map_map]; rfl
  rw [e, inV_ints]
  refine decide_eq_decide.mpr ?_
  rw [List.mem_map]
  constructor
  · rintro ⟨q, hq, e⟩
    have : q = p := by omega
    subst this
    exact hq
  · exact fun h => ⟨p, h, rfl⟩
theorem flat_nats (seen : List Nat) : (nV seen).all flatV = true := by
  unfold nV
  rw [List.all_map]
  exact List.all_eq_true.mpr fun _ _ => rfl
section
variable {P : Program} {w : World} {K : PySem.W.Frag} {mg : Str → Option Value} {base : Heap}
def spWid : Sp := fun vs H Q _ => ∃ (a : Addr) (xs : List Int) (s : Nat), vs = [.ref a, .int (s : Nat)] ∧ TAt H a xs ∧ xs ≠ [] ∧ 1 ≤ s ∧ s ≤ 1000 ∧ xs.length ≤ 1000 ∧ (wdL s xs).length ≤ 1000 ∧ ∀ (p : Addr) (H' : Hp), Same H H' → TAt H' p (wdL s xs) → Q (.ref p) H'
theorem c_widened (D : At K mg "widened" s_widened ["one", "step"]) (z_len : mg "len" = none) (z_range : mg "range" = none) (z_enumerate : mg "enumerate" = none) (z_tuple : mg "tuple" = none) : Cal P w K mg base 1 "widened" spWid := by
  refine okC D sc_widened (fun vs H Q E h => ?_) (fun f cdv A outer s0 H vs Q E hr h => ?_)
  · obtain ⟨a, xs, s, rfl, _⟩ := h
    rfl
  · obtain ⟨a, xs, s, rfl, ha, hx, hs, hs2, lx, lw, q⟩ := h
    have nd := sc_widened.nd
    refine ⟨_, (pss_cons (ps_setLc (i := 2) (own := [("_", 5)]) rfl nd rfl rfl (sw_true rfl rfl rfl (by decide +kernel)) (pi_range1 (by rfl) z_range (pa_cons (pe_op op_add (pe_op op_mulN (pe_op op_sub (pe_callB call_len_seq (by rfl) z_len PySem.boot_len (pa_cons (pv 0) pa_nil)) pe_int) (pv 1)) pe_int) pa_nil)) (blkOk_by (N := N_widened) (sc := defScope s_widened) (by decide +kernel)) (fun _ _ _ _ _ => pg_name (i := 5) nd rfl (Or.inl rfl)) (fun _ _ _ _ _ => pts_nil) (fun _ _ _ _ _ => pe_int))
 (pss_cons (ps_for PassesOwn.never rfl (pi_enT (by rfl) z_enumerate (pa_cons (pv 0) pa_nil)) (pg_tup rfl (pgs_cons (pg_name (i := 3) nd rfl (.inl rfl)) (pgs_cons (pg_name (i := 4) nd rfl (.inl rfl)) pgs_nil)))
 (pss_one (ps_asg (pv 4) (pg_sub (pv 2) (pe_op op_mulN (pv 3) (pv 1)) set_list))))
 (pss_one (ps_ret (pe_tupleOf (by rfl) z_tuple (pv 2)))))), ?_⟩
    have hpos : 1 ≤ xs.length := by
      cases xs with
      | nil => exact absurd rfl hx
      | cons y ys => simp
    rw [wdL_len hs hx] at lw
    refine ⟨_, rfl, a, _, rfl, .inr ha.sq, _, _, rfl, rfl, _, rfl, xs.length - 1, s, ?_, rfl, by omega, _, _, rfl, rfl, (((xs.length - 1) * s + 1 : Nat) : Int), by rw [Int.natCast_add]; rfl, by omega, by omega, fun R hR => lcR (fun _ => V.int 0) hR (by rw [Int.toNat_natCast]; omega) ?_ ?_⟩
    · rw [List.length_map]
      show V.int (((xs.length : Nat) : Int) - 1) = _
      congr 1
      omega
    · intro i G R2 hi sG h4
      exact ⟨rfl, h4 G (Same.refl _)⟩
    · intro G0 sG0 e0
      rw [Int.toNat_natCast, of_V _ fun _ => 0, ← wk_zero s xs _ hs] at e0
      refine ⟨_, rfl, a, _, rfl, (ha.same sG0).sq, for_it walk_enT (fun k σ H' => ∃ (y3 y4 y5 : Option V), σ = [some (.ref a), some (.int (s : Nat)), some (.ref R), y3, y4, y5] ∧ Same H H' ∧ H' R = some (.lst ((of ((xs.length - 1) * s + 1) (wk s xs k)).map V.int)))
        ⟨_, _, _, rfl, sG0, e0⟩ (fun _ _ _ _ z => by obtain ⟨_, _, _, _, sz, _⟩ := z; exact (ha.same sz).sq) ?_ ?_⟩
      · rintro k x σ G G' hk ⟨y3, y4, y5, rfl, sG, eG⟩ ⟨T, x1, x2, rfl, nT, rfl, e1, e2⟩
        rw [List.length_map] at hk
        have hx2 : x2 = V.int (co xs k) := by
          have q1 : (xs.map V.int)[k]? = some x2 := e2
          rw [List.getElem?_map, List.getElem?_eq_getElem hk] at q1
          rw [co_get hk]
          exact (Option.some.inj q1).symm
        have hx1 : x1 = V.int (k : Nat) := (Option.some.inj e1).symm
        subst hx1 hx2
        have sT := same_new (o := .tup [V.int (k : Nat), .int (co xs k)]) nT
        refine ⟨T, _, rfl, .inl (.inl upd_same), rfl, _, _, rfl, _, _, rfl, rfl, ?_⟩
        have e3 := sT _ _ eG
        have s3 := sG.trans sT
        generalize upd G T (.tup [V.int (k : Nat), .int (co xs k)]) = G1 at e3 s3 ⊢
        have hks : k * s < (xs.length - 1) * s + 1 := Nat.lt_succ_of_le (Nat.mul_le_mul_right s (by omega))
        refine ⟨_, rfl, _, rfl, _, rfl, _, rfl, k, s, rfl, rfl, by omega, R, _, _, _, rfl, rfl, e3, ix_of hks rfl, ?_⟩
        refine ⟨_, _, _, rfl, same_own s3 hR, ?_⟩
        rw [upd_same, ← List.map_set, wk_step hs]
      · rintro σ G ⟨y3, y4, y5, rfl, sG, eG⟩
        rw [List.length_map, wk_all hs hx] at eG
        exact ⟨_, rfl, .inl ⟨R, _, rfl, .inl (.inl eG), fun p hp => q p _ (sG.trans (same_new hp)) upd_same⟩⟩
def spCyc : Sp := fun vs H Q _ => ∃ n : Nat, vs = [.int (n : Nat)] ∧ 1 ≤ n ∧ n ≤ 200 ∧ ∀ (p : Addr) (H' : Hp), Same H H' → TAt H' p (cz n) → Q (.ref p) H'
theorem gz_bd {f : List Int} (h : gz f = true) : Bd 3 f := (gz_mo h).2.1
theorem c_cyclotomic (D : At K mg "cyclotomic" s_cyclotomic ["number"]) (c_need : Cal P w K mg base 1 "need" spNeed) (c_is_size : Cal P w K mg base 2 "is_size" spIsSize) (c_prime_parts : Cal P w K mg base 2 "prime_parts" spParts) (c_widened : Cal P w K mg base 1 "widened" spWid) (c_exact_by : Cal P w K mg base 4 "exact_by" spExact) : Cal P w K mg base 5 "cyclotomic" spCyc := by
  refine okC D sc_cyclotomic (fun vs H Q E h => ?_) (fun f cdv A outer s0 H vs Q E hr h => ?_)
  · obtain ⟨n, rfl, _⟩ := h
    rfl
  · obtain ⟨n, rfl, h1, h2, q⟩ := h
    have nd := sc_cyclotomic.nd
    refine ⟨_, (pss_cons (ps_expr (pe_k c_need hr (by decide) (by rfl) (pa_cons (pe_k c_is_size hr (by decide) (by rfl) (pa_cons (pv 0) pa_nil)) (pa_cons pe_str pa_nil))))
 (pss_cons (ps_set (i := 1) nd rfl (.inl rfl) (pe_tup (pa_cons (pe_un un_neg pe_int) (pa_cons pe_int pa_nil))))
 (pss_cons (ps_set (i := 2) nd rfl (.inl rfl) (pv 0))
 (pss_cons (ps_for PassesOwn.never rfl (pi_tup (pe_k c_prime_parts hr (by decide) (by rfl) (pa_cons (pv 0) pa_nil))) (pg_tup rfl (pgs_cons (pg_name (i := 3) nd rfl (.inl rfl)) (pgs_cons (pg_name (i := 4) nd rfl (.inl rfl)) pgs_nil)))
 (pss_cons (ps_set (i := 1) nd rfl (.inl rfl) (pe_k c_exact_by hr (by decide) (by rfl) (pa_cons (pe_k c_widened hr (by decide) (by rfl) (pa_cons (pv 1) (pa_cons (pv 3) pa_nil))) (pa_cons (pv 1) pa_nil))))
 (pss_one (ps_set (i := 2) nd rfl (.inl rfl) (pe_op op_fdiv (pv 2) (pv 3))))))
 (pss_one (ps_ret (pe_k c_widened hr (by decide) (by rfl) (pa_cons (pv 1) (pa_cons (pv 2) pa_nil))))))))), ?_⟩
    have C := czs h1 h2
    refine ⟨_, rfl, n, rfl, _, by rw [decide_eq_true (by omega : (1 : Int) ≤ (n : Int))], ?_⟩
    refine ⟨_, rfl, (by show 2 ≤ sizeLine; decide), fun t ht => ?_⟩
    have st := same_new (o := .tup [V.int (-1), .int 1]) ht
    have et : TAt (upd H t (.tup [V.int (-1), .int 1])) t [-1, 1] := upd_same
    refine ⟨_, rfl, ?_⟩
    generalize upd H t (.tup [V.int (-1), .int 1]) = H0 at st et
    refine ⟨_, rfl, n, rfl, h1, by omega, fun a as ps H1 hp hl s1 ha hq => ?_⟩
    obtain rfl := hp.uniq C.parts
    have hlen := hq.1
    rw [List.length_map] at hlen
    refine ⟨a, rfl, ⟨_, .inl (.inl ha)⟩, for_it (walk_tup (xs := as.map V.ref))
      (fun i σ H' => ∃ (pF : Addr) (g : List Int) (l : Nat) (y3 y4 : Option V), σ = [some (.int n), some (.ref pF), some (.int (l : Nat)), y3, y4] ∧ Same H1 H' ∧ TAt H' pF g ∧ ck g ((ps0 n).drop i) = true ∧ fin g ((ps0 n).drop i) = fin [-1, 1] (ps0 n) ∧ ((ps0 n).drop i).foldl (· / ·) l = lf n ∧ l ≤ n)
      ⟨t, [-1, 1], n, none, none, rfl, Same.refl _, et.same s1, C.ck, rfl, rfl, Nat.le_refl _⟩ (fun i σ H' _ ⟨_, _, _, _, _, _, e, _⟩ => .inl (.inl (e _ _ ha))) ?_ ?_⟩
    · rintro i x σ H2 H' hi ⟨pF, g, l, y3, y4, rfl, s2, eF, hck, hfin, hlf, hl2⟩ ⟨eH, hx⟩
      obtain rfl := eH.symm
      rw [List.length_map] at hi
      have hi2 : i < (pf n).length := by omega
      rw [List.getElem?_map, List.getElem?_eq_getElem hi] at hx
      obtain rfl : V.ref as[i] = x := Option.some.inj hx
      have hqi : QAt H1 as[i] (cp (pf n)[i]) := hq.2 i _ _ (List.getElem?_eq_getElem hi) (by rw [List.getElem?_map, List.getElem?_eq_getElem hi2]; rfl)
      have ed : (ps0 n).drop i = (pf n)[i].1 :: (ps0 n).drop (i + 1) := by
        have hi3 : i < (ps0 n).length := by unfold ps0; rw [List.length_map]; exact hi2
        rw [List.drop_eq_getElem_cons hi3]
        congr 1
        simp only [ps0, List.getElem_map]
      rw [ed] at hck hfin hlf
      have hck2 : gd g (pf n)[i].1 = true ∧ ck (divQ (wdL (pf n)[i].1 g) g) ((ps0 n).drop (i + 1)) = true := by
        have z : (gd g (pf n)[i].1 && ck (divQ (wdL (pf n)[i].1 g) g) ((ps0 n).drop (i + 1))) = true := hck
        rwa [Bool.and_eq_true] at z
      obtain ⟨p1, g1, g2, g3, g4, g5⟩ := gd_ok hck2.1
      have m1 := gz_mo g1
      have m2 := gz_mo g2
      obtain ⟨b1, b2, b3, b4⟩ := parts_le h1 C.parts (pf n)[i] (List.getElem_mem _)
      refine ⟨_, _, rfl, (hqi.same s2).sq, rfl, _, _, rfl, _, _, rfl, rfl, ?_⟩
      refine ⟨_, rfl, _, rfl, pF, g, (pf n)[i].1, rfl, eF, m1.1.ne, p1, by omega, by omega, by omega, fun pw H3 s3 e3 => ?_⟩
      refine ⟨_, rfl, pw, pF, _, g, 3, 3, rfl, e3, eF.same s3, m2.1.nf, m1.1, by omega, by omega, m2.2.1, m1.2.1, by decide, by omega, fun _ p2 H4 s4 e4 => ?_, fun z => absurd g5 z⟩
      rw [g4] at e4
      refine ⟨_, rfl, _, rfl, _, _, rfl, rfl, ⟨?_, ?_⟩, ?_⟩
      · show (0 : Int) < ((pf n)[i].1 : Int)
        omega
      · show ((pf n)[i].1 : Int) < 1073741824
        omega
      · exact ⟨p2, _, l / (pf n)[i].1, _, _, rfl, s2.trans (s3.trans s4), e4, hck2.2, hfin, hlf, Nat.le_trans (Nat.div_le_self _ _) hl2⟩
    · rintro σ H2 ⟨pF, g, l, y3, y4, rfl, s2, eF, hck, hfin, hlf, hl2⟩
      rw [List.length_map, show (ps0 n).drop as.length = [] from List.drop_eq_nil_of_le (by unfold ps0; rw [List.length_map]; omega)] at hck hfin hlf
      have hg : g = fin [-1, 1] (ps0 n) := hfin
      have hlf2 : l = lf n := hlf
      have gl := gz_mo (show gz g = true from hck)
      have lz : (cz n).length ≤ 600 := (gz_mo C.gz).2.2
      have ez : wdL l g = cz n := by rw [hg, hlf2]; rfl
      refine ⟨_, rfl, _, rfl, pF, g, l, rfl, eF, gl.1.ne, by rw [hlf2]; exact C.lf, by omega, by omega, by rw [ez]; omega, fun p H3 s3 e3 => ?_⟩
      rw [ez] at e3
      exact q p H3 (st.trans (s1.trans (s2.trans s3))) e3
end


open PySem PySem.Spec PyProof.Rows L2 Gd Pv RZ Po Nm
inductive TX where
  | i (x : Int)
  | t (xs : List Int)
  | n
def TX.data : TX → PyData
  | .i x => .int x
  | .t xs => dT xs
  | .n => .none
def OneX (H : Hp) : V → TX → Prop
  | v, .i x => v = .int x
  | v, .t xs => ∃ a, v = .ref a ∧ TAt H a xs
  | v, .n => v = .non
def AllX (H : Hp) : List V → List TX → Prop
  | [], [] => True
  | v :: vs, d :: ds => OneX H v d ∧ AllX H vs ds
  | _, _ => False
theorem OneX.same {H H' : Hp} (s : Same H H') : ∀ {v : V} {d : TX}, OneX H v d → OneX H' v d
  | _, .i _, h => h
  | _, .t _, ⟨a, e, h⟩ => ⟨a, e, h.same s⟩
  | _, .n, h => h
theorem AllX.same {H H' : Hp} (s : Same H H') : ∀ {vs : List V} {ds : List TX}, AllX H vs ds → AllX H' vs ds
  | [], [], h => h
  | _ :: _, _ :: _, ⟨h, t⟩ => ⟨h.same s, t.same s⟩
  | [], _ :: _, h => h.elim
  | _ :: _, [], h => h.elim
theorem OneX.own {H : Hp} {l : Addr} {us : List V} {o : HO} (e : H l = some (.lst us)) : ∀ {v : V} {d : TX}, OneX H v d → OneX (upd H l o) v d
  | _, .i _, h => h
  | _, .t _, ⟨a, e1, h⟩ => ⟨a, e1, h.own e⟩
  | _, .n, h => h
theorem AllX.own {H : Hp} {l : Addr} {us : List V} {o : HO} (e : H l = some (.lst us)) : ∀ {vs : List V} {ds : List TX}, AllX H vs ds → AllX (upd H l o) vs ds
  | [], [], h => h
  | _ :: _, _ :: _, ⟨h, t⟩ => ⟨h.own e, t.own e⟩
  | [], _ :: _, h => h.elim
  | _ :: _, [], h => h.elim
theorem AllX.append {H : Hp} : ∀ {vs us : List V} {ds es : List TX}, AllX H vs ds → AllX H us es → AllX H (vs ++ us) (ds ++ es)
  | [], _, [], _, _, h => h
  | _ :: _, _, _ :: _, _, ⟨h, t⟩, u => ⟨h, t.append u⟩
  | [], _, _ :: _, _, h, _ => h.elim
  | _ :: _, _, [], _, h, _ => h.elim
theorem AllX.len {H : Hp} : ∀ {vs : List V} {ds : List TX}, AllX H vs ds → vs.length = ds.length
  | [], [], _ => rfl
  | _ :: _, _ :: _, ⟨_, t⟩ => by rw [List.length_cons, List.length_cons, t.len]
  | [], _ :: _, h => h.elim
  | _ :: _, [], h => h.elim
theorem OneX.dp {K : PySem.W.Frag} {H : Hp} : ∀ {v : V} {d : TX}, OneX H v d → Dp K H v d.data
  | _, .i _, rfl => .int _
  | _, .t _, ⟨_, rfl, h⟩ => dpT h
  | _, .n, rfl => .non
theorem AllX.dp {K : PySem.W.Frag} {H : Hp} : ∀ {vs : List V} {ds : List TX}, AllX H vs ds → DpAll K H vs (ds.map TX.data)
  | [], [], _ => .nil
  | _ :: _, _ :: _, ⟨h, t⟩ => .cons h.dp t.dp
  | [], _ :: _, h => h.elim
  | _ :: _, [], h => h.elim
def TX.Ok : TX → Prop
  | .i x => x.natAbs < 2 ^ 14000
  | .t xs => Bd 14000 xs ∧ xs.length ≤ 40
  | .n => True
theorem okTX {d : TX} (h : d.Ok) : OkW [d.data] 2 172125 := by
  cases d with
  | i x => exact ⟨(okW_int (k := 2) (Nat.lt_of_lt_of_le h ten_two)).wi, (okW_int (k := 2) (Nat.lt_of_lt_of_le h ten_two)).dp, Nat.le_trans (okW_int (k := 2) (Nat.lt_of_lt_of_le h ten_two)).co (by decide)⟩
  | t xs => exact okT h.1 (by decide) h.2
  | n => exact ⟨by simp [wideAll, wideB, TX.data], by simp [PyData.depthAll, PyData.depth, TX.data], by simp [costWs, costW, TX.data]⟩
theorem okTXs : ∀ {ds : List TX}, (∀ d ∈ ds, d.Ok) → OkW (ds.map TX.data) 2 (172125 * ds.length)
  | [], _ => okW_nil 2
  | d :: ds, h => by
    have e := okW_cons (okTX (h d List.mem_cons_self)) (okTXs fun x hx => h x (List.mem_cons_of_mem _ hx))
    rw [List.length_cons, Nat.mul_succ, Nat.add_comm]
    exact e
theorem TX.ok_t {xs : List Int} {b : Nat} (h : Bd b xs) (hb : b ≤ 14000) (hl : xs.length ≤ 40) : (TX.t xs).Ok := ⟨h.mono hb, hl⟩
theorem bd_nil (c : Nat) : Bd c [] := fun x hx => absurd hx List.not_mem_nil
theorem bd_tr {c : Nat} {xs : List Int} (h : Bd c xs) : Bd c (tr xs) := fun x hx => h x (tr_mem hx)
theorem mu_abs {c d n : Nat} {xs ys : List Int} (hx : Bd c xs) (hy : Bd d ys) (hn : n ≤ 1000) (b : Int) : (mu n (co xs) (co ys) b).natAbs < 2 ^ (c + d + 10) := by
  have h1 := S_abs (n := n) (F := fun j => co xs j * co ys (b - j)) (B := 2 ^ c * 2 ^ d) fun j _ => by
    rw [Int.natAbs_mul]
    exact Nat.mul_le_mul (Nat.le_of_lt (hx.co _)) (Nat.le_of_lt (hy.co _))
  have h2 : n * (2 ^ c * 2 ^ d) ≤ 1000 * (2 ^ c * 2 ^ d) := Nat.mul_le_mul_right _ hn
  have h3 : (2 : Nat) ^ (c + d + 10) = 1024 * (2 ^ c * 2 ^ d) := by
    rw [Nat.pow_add, Nat.pow_add, Nat.mul_comm]
  have h4 : 0 < 2 ^ c * 2 ^ d := Nat.mul_pos (Nat.pow_pos (by decide)) (Nat.pow_pos (by decide))
  show (S n fun j => co xs j * co ys (b - j)).natAbs < _
  omega
theorem bd_ml {c d : Nat} {xs ys : List Int} (hx : Bd c xs) (hy : Bd d ys) (hn : xs.length ≤ 1000) : Bd (c + d + 10) (ml xs ys) := bd_tr (bd_of fun j _ => mu_abs hx hy hn j)
theorem bd_pl {c : Nat} {xs ys : List Int} (hx : Bd c xs) (hy : Bd c ys) : Bd (c + 1) (pl xs ys) := bd_tr (bd_of fun j _ => by
  have h1 := hx.co (j : Nat)
  have h2 := hy.co (j : Nat)
  have h3 : (2 : Nat) ^ (c + 1) = 2 * 2 ^ c := by rw [Nat.pow_succ, Nat.mul_comm]
  show (co xs (j : Nat) + co ys (j : Nat)).natAbs < _
  omega)
theorem bits_le {c e l m : Nat} (h : m ≤ l) : (2 : Nat) ^ (c + m * (e + 1)) < 2 ^ (c + l * (e + 1) + 1) :=
  Nat.pow_lt_pow_right (by decide) (by have := Nat.mul_le_mul_right (e + 1) h; omega)
theorem bd_rs {c e : Nat} {xs ds : List Int} (hx : Bd c xs) (hd : Bd e ds) : Bd (c + xs.length * (e + 1) + 1) (rs xs ds) :=
  bd_tr (bd_of fun j _ => Nat.lt_of_le_of_lt ((abs_run (fun i => Nat.le_of_lt (hd.co i)) (xs.length - (ds.length - 1)) c (co xs) (fun i => Nat.le_of_lt (hx.co i))).1 j) (bits_le (Nat.sub_le _ _)))
theorem bd_qs {c e : Nat} {xs ds : List Int} (hx : Bd c xs) (hd : Bd e ds) : Bd (c + xs.length * (e + 1) + 1) (qs xs ds) :=
  bd_tr fun x h => Nat.lt_of_le_of_lt ((abs_run (fun i => Nat.le_of_lt (hd.co i)) (xs.length - (ds.length - 1)) c (co xs) (fun i => Nat.le_of_lt (hx.co i))).2 x h) (bits_le (Nat.sub_le _ _))
theorem len_rs (xs ds : List Int) : (rs xs ds).length ≤ xs.length := Nat.le_trans (tr_len _) (by rw [of_len]; exact Nat.le_refl _)
theorem len_qs (xs ds : List Int) : (qs xs ds).length ≤ xs.length := Nat.le_trans (tr_len _) (by rw [fac_len]; exact Nat.sub_le _ _)
theorem len_ml (xs ys : List Int) : (ml xs ys).length ≤ xs.length + ys.length := Nat.le_trans (tr_len _) (by rw [of_len]; exact Nat.le_refl _)
theorem len_pl (xs ys : List Int) : (pl xs ys).length ≤ xs.length + ys.length := Nat.le_trans (tr_len _) (by rw [of_len]; exact Nat.le_refl _)
theorem pl_comm (xs ys : List Int) : pl xs ys = pl ys xs := by
  unfold pl
  rw [Nat.add_comm]
  exact congrArg tr (of_congr fun _ _ => Int.add_comm _ _)
theorem TAt.kp {H H' : Hp} {a d c : Addr} {cells xs : List Int} {B : Nat} (h : TAt H a xs) (F : FeedAt H d c cells B) (k : Kp d H H') : TAt H' a xs := k _ _ (F.neT h) h
/-- two tuples of whole numbers put together -/
theorem catK {K : PySem.W.Frag} {H : Hp} {a b : Addr} {xs ys : List Int} {Q : V → Hp → Prop} (ha : TAt H a xs) (hb : TAt H b ys) (hl : xs.length + ys.length ≤ 100000) (k : ∀ (u : Addr) (H' : Hp), Same H H' → TAt H' u (xs ++ ys) → Q (.ref u) H') : rCatA K (.ref a) (.ref b) H Q := by
  refine ⟨a, b, _, _, rfl, rfl, ha.sq, hb.sq, ?_, fun e => ?_, fun _ e => ?_, fun _ _ p hp => ?_⟩
  · rw [List.length_map, List.length_map, sizeLine_eq]
    omega
  · have e0 : xs = [] := List.map_eq_nil_iff.mp e
    subst e0
    exact k b H (Same.refl _) hb
  · have e0 : ys = [] := List.map_eq_nil_iff.mp e
    subst e0
    exact k a H (Same.refl _) (by rw [List.append_nil]; exact ha)
  · refine k p _ (same_new hp) ?_
    show upd _ p _ p = _
    rw [upd_same, List.map_append]
/-- a tuple of one number many times -/
theorem repK {H : Hp} {t : Addr} {x : Int} {m : Nat} {i : Int} {Q : V → Hp → Prop} (ht : TAt H t [x]) (hi : i = (m : Int)) (hm : m ≤ 1000) (k : ∀ (u : Addr) (H' : Hp), Same H H' → TAt H' u (List.replicate m x) → Q (.ref u) H') : rRepN (.ref t) (.int i) H Q := by
  subst hi
  refine ⟨t, _, m, rfl, rfl, ht, by simp, hm, (by show 1 ≤ 1000; decide), fun p H' sm hp => k p H' sm ?_⟩
  rw [show List.map V.int [x] = [V.int x] from rfl, rep_flat] at hp
  exact hp
theorem _root_.Gd.okD_tup {ds : List PyData} {k n m : Nat} (h : OkA ds k n) (hk : k ≤ 19) (hm : n + 3 ≤ m) : OkD (.tuple ds) m := by
  have h3 := h.dp
  have h4 := h.co
  refine ⟨by simp [PyData.showable, h.sh], by simp [PyData.hasDict, h.nd], ?_, ?_⟩
  · simp only [PyData.depth]
    omega
  · simp only [cost]
    omega

end K8

set_option Elab.async false
set_option linter.all false
set_option maxRecDepth 100000
set_option maxHeartbeats 4000000
set_option exponentiation.threshold 20000

namespace K8

open PySem PySem.Spec PyProof.Rows L2 Gd Pv
section
variable {P : Program} {w : World} {K : PySem.W.Frag} {mg : Str → Option Value} {base : Heap}
theorem c_is_beat (D : At K mg "is_beat" s_is_beat ["size", "thing"]) (c_is_integer : Cal P w K mg base 1 "is_integer" spIsInt) : Cal P w K mg base 2 "is_beat" spIsBeat := by
  refine okC D sc_is_beat (fun vs H Q E h => ?_) (fun f cdv A outer s H vs Q E hr h => ?_)
  · obtain ⟨n, b, rfl, _⟩ := h
    rfl
  · obtain ⟨n, b, rfl, hb, q⟩ := h
    have nd := sc_is_beat.nd
    refine ⟨_, (pss_one (ps_ret (pe_and (pe_k c_is_integer hr (by decide) (by rfl) (pa_cons (pv 1) pa_nil)) (pe_one (pe_chain op_le op_lt pe_int (pv 1) (pv 0)))))), ?_⟩
    refine ⟨_, rfl, b, rfl, true, rfl, iteT ?_⟩
    refine ⟨_, rfl, _, _, rfl, rfl, _, rfl, ?_⟩
    rw [decide_eq_true (by omega : (0 : Int) ≤ (b : Int))]
    refine iteT ⟨_, rfl, _, _, rfl, rfl, ?_⟩
    show Q (.bl (decide ((b : Int) < (n : Int)))) H
    rw [decide_eq_true (by omega : (b : Int) < (n : Int))]
    exact q
end


open PySem PySem.Spec PyProof.Rows L2 Gd Pv
section
variable {P : Program} {w : World} {K : PySem.W.Frag} {mg : Str → Option Value} {base : Heap}
end


open PySem PySem.Spec PyProof.Rows L2 Gd Pv
section
variable {P : Program} {w : World} {K : PySem.W.Frag} {mg : Str → Option Value} {base : Heap}
end


open PySem PySem.Spec PyProof.Rows L2 Gd Pv
section
variable {P : Program} {w : World} {K : PySem.W.Frag} {mg : Str → Option Value} {base : Heap}
end


open PySem PySem.Spec PyProof.Rows L2 Gd Pv
section
variable {P : Program} {w : World} {K : PySem.W.Frag} {mg : Str → Option Value} {base : Heap}
end


open PySem PySem.Spec PyProof.Rows L2 Gd Pv RZ
section
variable {P : Program} {w : World} {K : PySem.W.Frag} {mg : Str → Option Value} {base : Heap}
end


open PySem PySem.Spec PyProof.Rows L2 Gd Pv RZ
section
variable {P : Program} {w : World} {K : PySem.W.Frag} {mg : Str → Option Value} {base : Heap}
theorem c_is_integer_set (D : At K mg "is_integer_set" s_is_integer_set ["thing"]) (c_are_integers : Cal P w K mg base 2 "are_integers" (spAreInts K)) (z_all : mg "all" = none) (z_zip : mg "zip" = none) : Cal P w K mg base 3 "is_integer_set" spIntSet := by
  refine okC D sc_is_integer_set (fun vs H Q E h => ?_) (fun f cdv A outer s H vs Q E hr h => ?_)
  · obtain ⟨a, ss, rfl, _⟩ := h
    rfl
  · obtain ⟨a, ss, rfl, ha, hp, hn2, q⟩ := h
    have nd := sc_is_integer_set.nd
    refine ⟨_, (pss_one (ps_ret (pe_and (pe_k c_are_integers hr (by decide) (by rfl) (pa_cons (pv 0) pa_nil)) (pe_one (pe_callB (cr_all rfl) (by rfl) z_all (by decide +kernel) (pa_cons (pe_lc (own := [("low", 1), ("high", 2)]) rfl nd (pi_zipA (by rfl) z_zip (pa_cons (pv 0) (pa_cons (pe_slice sl_tupA (pv 0) (po_some pe_int) po_none) pa_nil))) (blkOk_by (N := N_is_integer_set) (sc := defScope s_is_integer_set) (by decide +kernel)) (g := gTup K 2 (gCons (gName 1) (gCons (gName 2) gNil))) (fun _ _ _ _ _ => (pg_tup rfl (pgs_cons (pg_name (i := 1) nd rfl (.inl rfl)) (pgs_cons (pg_name (i := 2) nd rfl (.inl rfl)) pgs_nil)))) (fun _ _ _ _ _ => pts_nil) (fun _ _ _ _ _ => (pe_cmpR op_lt (pv 1) (pv 2) (nomark _)))) pa_nil)))))), ?_⟩
    refine ⟨_, rfl, a, ss, rfl, ha, hn2, fun H1 s1 => ⟨true, rfl, iteT ?_⟩⟩
    have ha1 := ha.same s1
    refine ⟨_, rfl, _, rfl, _, rfl, a, _, rfl, ha1.sq, fun hc => ?_, fun hc p hp0 => ?_⟩
    · have e0 : ss.drop 1 = ss := by
        have h1 := hc.1
        rw [List.length_map, show (1 : Int) = ((1 : Nat) : Int) from rfl, HT.sIx_nat] at h1
        have h2 : ss = [] := List.eq_nil_of_length_eq_zero (by omega)
        rw [h2]
        rfl
      have tb : TAt H1 a (ss.drop 1) := by
        rw [e0]
        exact ha1
      refine ⟨a, a, _, _, rfl, .inr ⟨(ha1.same (Same.refl H1)).sq, TAt.sq tb, fun R hR => lc_it (walk_zT (xs := ss.map V.int) (ys := (ss.drop 1).map V.int) (n := (ss.drop 1).length) (by rw [List.length_map, List.length_drop]; omega) (by rw [List.length_map]; omega) (.inr (by rw [List.length_map])))
        (fun i H' => Same H1 H' ∧ H' R = some (.lst ((List.replicate i true).map V.bl))) ⟨same_new hR, upd_same⟩ (fun _ _ _ z => ⟨(ha1.same ((Same.refl H1).trans z.1)).sq, TAt.sq (TAt.same z.1 tb)⟩) ?_ ?_⟩⟩
      · rintro i x G G' hi ⟨sG, eG⟩ ⟨T, x1, x2, rfl, nT, rfl, e1, e2⟩
        rw [List.length_drop] at hi
        obtain ⟨rfl, u, rfl, hlt⟩ := two hp e1 e2
        have sT := same_new (o := .tup [V.int (ss.getD i 0), .int u]) nT
        refine ⟨T, _, rfl, .inl (.inl upd_same), rfl, _, _, rfl, _, _, rfl, rfl, rfl, _, rfl, _, rfl, _, _, rfl, rfl, ?_⟩
        refine ⟨_, sT _ _ eG, ?_, same_own (sG.trans sT) hR, ?_⟩
        · rw [List.length_map, List.length_replicate]
          exact small1000 (by omega)
        · rw [upd_same, List.replicate_succ', List.map_append]
          show some (HO.lst (_ ++ [V.bl (decide (ss.getD i 0 < u))])) = _
          rw [decide_eq_true hlt]
          rfl
      · rintro G ⟨sG, eG⟩
        refine ⟨R, _, rfl, .inl (.inl eG), ?_⟩
        rw [List.all_eq_true.mpr fun b hb => by rw [List.eq_of_mem_replicate hb]; rfl]
        exact q G ((s1.trans (Same.refl H1)).trans sG)

    · have sp := same_new (o := .tup ((ss.drop 1).map V.int)) hp0
      have tb : TAt (upd H1 p (.tup ((ss.drop 1).map V.int))) p (ss.drop 1) := upd_same
      rw [cut1]
      generalize upd H1 p (.tup ((ss.drop 1).map V.int)) = G1 at sp tb ⊢
      refine ⟨a, p, _, _, rfl, .inr ⟨(ha1.same sp).sq, TAt.sq tb, fun R hR => lc_it (walk_zT (xs := ss.map V.int) (ys := (ss.drop 1).map V.int) (n := (ss.drop 1).length) (by rw [List.length_map, List.length_drop]; omega) (by rw [List.length_map]; omega) (.inr (by rw [List.length_map])))
        (fun i H' => Same G1 H' ∧ H' R = some (.lst ((List.replicate i true).map V.bl))) ⟨same_new hR, upd_same⟩ (fun _ _ _ z => ⟨(ha1.same ((sp).trans z.1)).sq, TAt.sq (TAt.same z.1 tb)⟩) ?_ ?_⟩⟩
      · rintro i x G G' hi ⟨sG, eG⟩ ⟨T, x1, x2, rfl, nT, rfl, e1, e2⟩
        rw [List.length_drop] at hi
        obtain ⟨rfl, u, rfl, hlt⟩ := two hp e1 e2
        have sT := same_new (o := .tup [V.int (ss.getD i 0), .int u]) nT
        refine ⟨T, _, rfl, .inl (.inl upd_same), rfl, _, _, rfl, _, _, rfl, rfl, rfl, _, rfl, _, rfl, _, _, rfl, rfl, ?_⟩
        refine ⟨_, sT _ _ eG, ?_, same_own (sG.trans sT) hR, ?_⟩
        · rw [List.length_map, List.length_replicate]
          exact small1000 (by omega)
        · rw [upd_same, List.replicate_succ', List.map_append]
          show some (HO.lst (_ ++ [V.bl (decide (ss.getD i 0 < u))])) = _
          rw [decide_eq_true hlt]
          rfl
      · rintro G ⟨sG, eG⟩
        refine ⟨R, _, rfl, .inl (.inl eG), ?_⟩
        rw [List.all_eq_true.mpr fun b hb => by rw [List.eq_of_mem_replicate hb]; rfl]
        exact q G ((s1.trans (sp)).trans sG)

end


open PySem PySem.Spec PyProof.Rows L2 Gd Pv RZ
section
variable {P : Program} {w : World} {K : PySem.W.Frag} {mg : Str → Option Value} {base : Heap}
theorem c_is_beats (D : At K mg "is_beats" s_is_beats ["size", "thing"]) (c_is_size : Cal P w K mg base 2 "is_size" spIsSize) (c_is_integer_set : Cal P w K mg base 3 "is_integer_set" spIntSet) (c_is_beat : Cal P w K mg base 2 "is_beat" spIsBeat) (z_all : mg "all" = none) :
    Cal P w K mg base 4 "is_beats" spIsBeats := by
  refine okC D sc_is_beats (fun vs H Q E h => ?_) (fun f cdv A outer s H vs Q E hr h => ?_)
  · obtain ⟨a, ss, n, rfl, _⟩ := h
    rfl
  · obtain ⟨a, ss, n, rfl, ha, hb, hn, hn2, q⟩ := h
    have nd := sc_is_beats.nd
    have hl := hb.len
    refine ⟨_, (pss_one (ps_ret (pe_and (pe_k c_is_size hr (by decide) (by rfl) (pa_cons (pv 0) pa_nil)) (pe_and (pe_k c_is_integer_set hr (by decide) (by rfl) (pa_cons (pv 1) pa_nil)) (pe_one (pe_callB (cr_all rfl) (by rfl) z_all (by decide +kernel) (pa_cons (pe_lc (own := [("beat", 2)]) rfl nd (pi_tup (pv 1)) (blkOk_by (N := N_is_beats) (sc := defScope s_is_beats) (by decide +kernel)) (fun _ _ _ _ _ => pg_name (i := 2) nd rfl (Or.inl rfl)) (fun _ _ _ _ _ => pts_nil) (fun _ _ _ _ _ => (pe_k c_is_beat hr (by decide) (by rfl) (pa_cons (pv 0) (pa_cons (pv 2) pa_nil))))) pa_nil))))))), ?_⟩
    refine ⟨_, rfl, n, rfl, true, by rw [decide_eq_true (by omega : (1 : Int) ≤ (n : Int))], iteT ⟨_, rfl, a, ss, rfl, ha, hb.asc, by omega, fun H1 s1 => ⟨true, rfl, iteT ?_⟩⟩⟩
    have ha1 := ha.same s1
    refine ⟨_, rfl, a, rfl, ⟨_, .inl (.inl ha1)⟩, fun R hR => lcM (walk_tup (xs := ss.map V.int)) (fun _ => .bl true) hR ?_ (fun H' sm => .inl (.inl (sm _ _ ha1))) ?_ ?_⟩
    · rw [List.length_map]
      exact small1000 (by omega)
    · intro x H' R2 hx sm h1
      obtain ⟨i, hi, rfl⟩ := List.mem_map.mp hx
      have g1 := hb.lo i hi
      have g2 := hb.hi i hi
      obtain ⟨j, rfl⟩ := Int.eq_ofNat_of_zero_le g1
      exact ⟨rfl, _, rfl, _, rfl, n, j, rfl, by omega, h1 H' (Same.refl _)⟩
    · intro G sG eG
      have e : (ss.map V.int).map (fun _ => V.bl true) = (List.replicate ss.length true).map V.bl := by
        rw [List.map_map, List.map_replicate]
        exact List.map_eq_replicate_iff.mpr fun _ _ => rfl
      rw [e] at eG
      refine ⟨R, _, rfl, .inl (.inl eG), ?_⟩
      rw [List.all_eq_true.mpr fun b hb => by rw [List.eq_of_mem_replicate hb]; rfl]
      exact q G (s1.trans sG)
theorem c_voice_of (D : At K mg "voice_of" s_voice_of ["size", "beats"]) (c_need : Cal P w K mg base 1 "need" spNeed) (c_is_size : Cal P w K mg base 2 "is_size" spIsSize) (c_is_beats : Cal P w K mg base 4 "is_beats" spIsBeats)
    (z_range : mg "range" = none) (z_tuple : mg "tuple" = none) : Cal P w K mg base 5 "voice_of" spVoiceOf := by
  refine okC D sc_voice_of (fun vs H Q E h => ?_) (fun f cdv A outer s H vs Q E hr h => ?_)
  · obtain ⟨a, ss, n, rfl, _⟩ := h
    rfl
  · obtain ⟨a, ss, n, rfl, ha, hb, hn, hn2, q⟩ := h
    have nd := sc_voice_of.nd
    refine ⟨_, (pss_cons (ps_expr (pe_k c_need hr (by decide) (by rfl) (pa_cons (pe_k c_is_size hr (by decide) (by rfl) (pa_cons (pv 0) pa_nil)) (pa_cons pe_str pa_nil))))
 (pss_cons (ps_expr (pe_k c_need hr (by decide) (by rfl) (pa_cons (pe_k c_is_beats hr (by decide) (by rfl) (pa_cons (pv 0) (pa_cons (pv 1) pa_nil))) (pa_cons pe_str pa_nil))))
 (pss_cons (ps_setLc (i := 2) (own := [("_", 4)]) rfl nd rfl rfl (sw_true rfl rfl rfl (by decide +kernel)) (pi_range1 (by rfl) z_range (pa_cons (pv 0) pa_nil)) (blkOk_by (N := N_voice_of) (sc := defScope s_voice_of) (by decide +kernel)) (fun _ _ _ _ _ => pg_name (i := 4) nd rfl (Or.inl rfl)) (fun _ _ _ _ _ => pts_nil) (fun _ _ _ _ _ => pe_int))
 (pss_cons (ps_for PassesOwn.never rfl (pi_tup (pv 1)) (pg_name (i := 3) nd rfl (.inl rfl))
 (pss_one (ps_asg pe_int (pg_sub (pv 2) (pv 3) set_list))))
 (pss_one (ps_ret (pe_tupleOf (by rfl) z_tuple (pv 2)))))))), ?_⟩
    refine ⟨_, rfl, n, rfl, _, by rw [decide_eq_true (by omega : (1 : Int) ≤ (n : Int))], ?_⟩
    refine ⟨_, rfl, _, rfl, a, ss, n, rfl, ha, hb, hn, hn2, fun H1 s1 => ⟨_, rfl, ?_⟩⟩
    have ha1 := ha.same s1
    refine ⟨_, rfl, n, rfl, by omega, by omega, fun R hR => lcR (fun _ => V.int 0) hR hn2 ?_ ?_⟩
    · intro i G R2 hi sG h4
      exact ⟨rfl, h4 G (Same.refl _)⟩
    · intro G sG eG
      have e0 : G R = some (.lst ((of n (ind n (ss.take 0))).map V.int)) := by
        rw [eG, Int.toNat_natCast, of_V n fun _ => 0]
        have z : (of n fun _ => (0 : Int)) = of n (ind n (ss.take 0)) := of_congr fun _ _ => by
          unfold ind
          rw [List.take_zero, if_neg List.not_mem_nil]
        rw [z]
      refine ⟨_, rfl, a, rfl, ⟨_, .inl (.inl (sG _ _ ha1))⟩, for_it (walk_tup (xs := ss.map V.int)) (fun i σ H' => ∃ (y3 y4 : Option V), σ = [some (.int n), some (.ref a), some (.ref R), y3, y4] ∧ Same H1 H' ∧ H' R = some (.lst ((of n (ind n (ss.take i))).map V.int)))
        ⟨_, _, rfl, sG, e0⟩ (fun _ _ _ _ z => by obtain ⟨_, _, _, sz, _⟩ := z; exact .inl (.inl (sz _ _ ha1))) ?_ ?_⟩
      · rintro i x σ G2 G2' hi ⟨y3, y4, rfl, s4, e4⟩ ⟨rfl, ex⟩
        rw [List.getElem?_map] at ex
        cases h1 : ss[i]? with
        | none => rw [h1] at ex; cases ex
        | some v =>
          rw [h1] at ex
          obtain rfl := (Option.some.inj ex).symm
          have mem := List.mem_of_getElem? h1
          have g2 := hb.hi v mem
          obtain ⟨j, rfl⟩ := Int.eq_ofNat_of_zero_le (hb.lo v mem)
          have hix : ixN ((of n (ind n (ss.take i))).map V.int).length (j : Int) = some j := by
            rw [List.length_map, of_len]
            unfold ixN
            rw [if_pos (by omega), if_pos (by omega)]
            rfl
          refine ⟨_, rfl, _, rfl, R, _, _, _, rfl, rfl, e4, hix, ?_⟩
          refine ⟨_, _, rfl, same_own s4 hR, ?_⟩
          rw [upd_same, ← ind_step h1 (by omega), List.map_set]
      · rintro σ G2 ⟨y3, y4, rfl, s4, e4⟩
        refine ⟨_, rfl, .inl ⟨R, _, rfl, .inl (.inl e4), fun p hp => q p _ ((s1.trans s4).trans (same_new hp)) ?_⟩⟩
        unfold TAt
        rw [upd_same, List.length_map, List.take_length]
end


open PySem PySem.Spec PyProof.Rows L2 Gd Pv RZ
section
variable {P : Program} {w : World} {K : PySem.W.Frag} {mg : Str → Option Value} {base : Heap}
end

end K8

set_option Elab.async false
set_option linter.all false
set_option maxRecDepth 100000
set_option maxHeartbeats 4000000
set_option exponentiation.threshold 20000
namespace K8
open PySem PySem.Spec PyProof.Rows L2 Gd Pv RZ Po Nm
section
variable {P : Program} {w : World} {K : PySem.W.Frag} {mg : Str → Option Value} {base : Heap}
theorem c__law_feed (D : At K mg "_law_feed" s__law_feed ["_law_script"]) (z_list : mg "list" = none) : Cal P w K mg base 1 "_law_feed" (spFeed K) := by
  refine okC D sc__law_feed (fun vs H Q E h => ?_) (fun f cdv A outer s H vs Q E hr h => ?_)
  · obtain ⟨a, ns, rfl, _⟩ := h
    rfl
  · obtain ⟨a, ns, rfl, ha, hz, k⟩ := h
    have nd := sc__law_feed.nd
    refine ⟨_, (pss_one (ps_ret (pe_disp (pps_cons pe_str (pe_callTy call_list_of (by rfl) z_list (by decide +kernel) (pa_cons (pe_slice sl_list (pv 0) po_none (po_some pe_int)) pa_nil)) (pps_cons pe_str pe_int (pps_cons pe_str pe_int (pps_cons pe_str pe_int pps_nil)))) rfl rfl (by decide) (by decide)))), ?_⟩
    intro d hd
    have s0 : Same H (upd H d (.dK [])) := same_new hd
    obtain ⟨lo, hi, ec⟩ : ∃ lo hi, cutV (ns.map V.int) none (some 63) = ((ns.drop lo).take hi).map V.int := ⟨_, _, by unfold cutV; rw [← List.map_drop, ← List.map_take]⟩
    refine ⟨.ref a, rfl, 63, rfl, a, _, rfl, s0.seq ha, fun c hc => ?_⟩
    refine ⟨c, _, rfl, .inl (.inl (.inl upd_same)), fun L hL => ?_⟩
    rw [ec]
    have sd : Same (upd H d (.dK [])) (upd (upd (upd H d (.dK [])) c (.lst (((ns.drop lo).take hi).map V.int))) L (.lst (((ns.drop lo).take hi).map V.int))) := (same_new hc).trans (by rw [← ec]; exact same_new hL)
    have hL2 : (upd (upd (upd H d (.dK [])) c (.lst (((ns.drop lo).take hi).map V.int))) L (.lst (((ns.drop lo).take hi).map V.int))) L = some (.lst (((ns.drop lo).take hi).map V.int)) := upd_same
    generalize upd (upd (upd H d (.dK [])) c (.lst (((ns.drop lo).take hi).map V.int))) L (.lst (((ns.drop lo).take hi).map V.int)) = H2 at sd hL2 ⊢
    refine ⟨sd _ _ upd_same, [((Sum.inr "cells" : Key), V.ref L), (Sum.inr "next", .int 0), (Sum.inr "rest", .int 0), (Sum.inr "turn", .int 0)], rfl, (by show 4 ≤ 15; decide), ?_⟩
    rw [merge_fd]
    have nL : L ≠ d := fun z => by
      rw [z] at hL2
      have := hL2.symm.trans (sd _ _ upd_same)
      cases this
    refine k d L ((ns.drop lo).take hi) _ ⟨⟨0, 0, 0, upd_same, by omega, by omega, by omega, by omega, by omega⟩, ?_, ?_⟩ ?_
    · show upd H2 d _ L = _
      rw [upd_ne nL]
      exact hL2
    · refine Nat.le_trans (List.length_take_le' _ _) ?_
      rw [List.length_drop]
      omega
    · exact same_own (s0.trans sd) hd
theorem c__law_pick (D : At K mg "_law_pick" s__law_pick ["_law_feed_here", "_law_limit"]) (z_int : mg "int" = none) (z_len : mg "len" = none) : Cal P w K mg base 1 "_law_pick" spDraw := by
  refine okC D sc__law_pick (fun vs H Q E h => ?_) (fun f cdv A outer s H vs Q E hr h => ?_)
  · obtain ⟨d, c, cells, B, l, rfl, _⟩ := h
    rfl
  · obtain ⟨d, c, cells, B, l, rfl, F, hB, l1, l2, k⟩ := h
    have nd := sc__law_pick.nd
    have hu := hu_of hr
    have hu64 := hr.units
    refine ⟨_, (pss_cons (ps_dput hu (pv 0) pe_str (pe_op op_add (pe_dget hu (pv 0) pe_str (fun _ _ => rfl)) pe_int) rfl)
 (pss_cons (ps_if (pt_cmpR op_gt (pe_dget hu (pv 0) pe_str (fun _ _ => rfl)) pe_int (nomark _))
 (pss_cons (ps_set (i := 3) nd rfl (.inl rfl) (pe_op op_mod (pe_callTy call_int1 (by rfl) z_int (by decide +kernel) (pa_cons (pe_dget hu (pv 0) pe_str (fun _ _ => rfl)) pa_nil)) (pv 1)))
 (pss_cons (ps_dput hu (pv 0) pe_str (pe_op op_fdiv (pe_dget hu (pv 0) pe_str (fun _ _ => rfl)) (pv 1)) rfl)
 (pss_one (ps_ret (pv 3)))))
 pss_nil)
 (pss_cons (ps_par3 (i := 4) (j := 5) (l := 6) rfl nd rfl rfl rfl (by decide) (by decide) (by decide) rfl rfl rfl (pa_cons (pe_dget hu (pv 0) pe_str (fun _ _ => rfl)) (pa_cons (pe_dget hu (pv 0) pe_str (fun _ _ => rfl)) (pa_cons pe_int pa_nil))) rfl)
 (pss_cons (ps_dput hu (pv 0) pe_str (pe_op op_add (pv 4) pe_int) rfl)
 (C8.pss_cut (ps_if (pt_cmpR (op_neD hu64) (pv 5) (pe_lst pa_nil) (nomark _))
 (pss_one (ps_set (i := 6) nd rfl (.inl rfl) (pe_ix ix_list (pv 5) (pe_op op_mod (pe_callTy call_int1 (by rfl) z_int (by decide +kernel) (pa_cons (pv 4) pa_nil)) (pe_callB call_len_seq (by rfl) z_len PySem.boot_len (pa_cons (pv 5) pa_nil))) (fun _ _ => rfl))))
 pss_nil)
 (C8.pss_cut (ps_if (PW.pt (pw_and (pt_cmpR op_lt (pv 4) (pe_callB call_len_seq (by rfl) z_len PySem.boot_len (pa_cons (pv 5) pa_nil)) (nomark _)) (pw_and1 (pt_cmpR op_ge (pv 6) (pe_op op_pow pe_int pe_int) (nomark _)))))
 (pss_cons (ps_dput hu (pv 0) pe_str (pe_op op_fdiv (pv 6) (pv 1)) rfl)
 (pss_one (ps_ret (pe_op op_mod (pe_callTy call_int1 (by rfl) z_int (by decide +kernel) (pa_cons (pv 6) pa_nil)) (pv 1)))))
 pss_nil)
 (pss_cons (ps_set (i := 2) nd rfl (.inl rfl) (pe_op op_mod (pe_callTy call_int1 (by rfl) z_int (by decide +kernel) (pa_cons (pe_op op_add (pe_op op_add (pe_op op_mod (pe_callTy call_int1 (by rfl) z_int (by decide +kernel) (pa_cons (pv 6) pa_nil)) pe_int) (pe_op op_mul pe_int (pe_dget hu (pv 0) pe_str (fun _ _ => rfl)))) pe_int) pa_nil)) pe_int))
 (pss_cons (ps_set (i := 2) nd rfl (.inl rfl) (pe_op op_mod (pe_callTy call_int1 (by rfl) z_int (by decide +kernel) (pa_cons (pe_op op_add (pe_op op_add (pe_op op_mul (pv 2) (pv 2)) (pe_op op_mul pe_int (pe_dget hu (pv 0) pe_str (fun _ _ => rfl)))) pe_int) pa_nil)) pe_int))
 (pss_one (ps_ret (pe_op op_mod (pe_callTy call_int1 (by rfl) z_int (by decide +kernel) (pa_cons (pe_op op_fdiv (pe_op op_mod (pe_callTy call_int1 (by rfl) z_int (by decide +kernel) (pa_cons (pe_op op_add (pe_op op_mul (pv 2) (pv 2)) (pe_op op_mul pe_int (pv 2))) pa_nil)) pe_int) pe_int) pa_nil)) (pv 1)))))))))))), ?_⟩
    obtain ⟨sp, ov, tn, h0, a1, a2, a3, a4, a5⟩ := F.ex
    have ndc := F.ne
    have lpos : (0 : Int) < (l : Int) := by omega
    have ret : ∀ (z : Int) (H' : Hp), FeedAt H' d c cells (B + 1) → Kp d H H' → Q (.int (z % (l : Int))) H' := by
      intro z H' F' kp
      have e1 := Int.emod_nonneg z (show (l : Int) ≠ 0 by omega)
      have e2 := Int.emod_lt_of_pos z lpos
      have e3 := k (z % (l : Int)).toNat H' (by omega) F' kp
      rw [Int.toNat_of_nonneg e1] at e3
      exact e3
    have h1 : (upd H d (.dK (fdK c sp ov (tn + 1)))) d = some (.dK (fdK c sp ov (tn + 1))) := upd_same
    have c1 : (upd H d (.dK (fdK c sp ov (tn + 1)))) c = some (.lst (cells.map V.int)) := by
      rw [upd_ne ndc.symm]
      exact F.cl
    have kp1 : Kp d H (upd H d (.dK (fdK c sp ov (tn + 1)))) := Kp.upd_d
    refine ⟨_, rfl, d, _, rfl, g_turn h0, _, _, rfl, rfl, _, rfl, d, _, rfl, p_turn h0, ?_⟩
    generalize hH1 : upd H d (.dK (fdK c sp ov (tn + 1))) = H1 at *
    refine ⟨_, rfl, d, _, rfl, g_over h1, _, _, rfl, rfl, _, rfl, ite2 (fun e => ?_) (fun e => ?_)⟩
    · refine ⟨_, rfl, d, _, rfl, g_over h1, .inl ⟨ov, rfl, _, rfl, _, _, rfl, rfl, lpos, ?_⟩⟩
      refine ⟨_, rfl, d, _, rfl, g_over h1, _, rfl, _, _, rfl, rfl, ⟨lpos, by omega⟩, _, rfl, d, _, rfl, p_over h1, _, rfl, ?_⟩
      refine ret ov _ ⟨⟨sp, ov / l, tn + 1, upd_same, a1, by omega, Int.ediv_nonneg a3 (by omega), by omega, by omega⟩, ?_, F.few⟩ (kp1.trans Kp.upd_d)
      rw [upd_ne ndc.symm]
      exact c1
    · refine ⟨_, rfl, d, _, rfl, g_spot h1, _, rfl, d, _, rfl, g_cells h1, _, _, _, rfl, ?_⟩
      refine ⟨_, rfl, _, _, rfl, rfl, _, rfl, d, _, rfl, p_spot h1, ?_⟩
      have h2 : (upd H1 d (.dK (fdK c (sp + 1) ov (tn + 1)))) d = some (.dK (fdK c (sp + 1) ov (tn + 1))) := upd_same
      have c2 : (upd H1 d (.dK (fdK c (sp + 1) ov (tn + 1)))) c = some (.lst (cells.map V.int)) := by
        rw [upd_ne ndc.symm]
        exact c1
      have kp2 : Kp d H (upd H1 d (.dK (fdK c (sp + 1) ov (tn + 1)))) := kp1.trans Kp.upd_d
      generalize hH2 : upd H1 d (.dK (fdK c (sp + 1) ov (tn + 1))) = H2 at *
      refine ⟨fun σ' H' => ∃ z : Int, σ' = [some (.ref d), some (.int l), none, none, some (.int sp), some (.ref c), some (.int z)] ∧ Same H2 H', ?_, ?_⟩
      · refine ⟨_, rfl, Nat.zero_le _, fun p hp => ?_⟩
        have s3 : Same H2 (upd H2 p (.lst [])) := same_new hp
        have c3 := s3 _ _ c2
        refine ⟨.list (cells.map PyData.int), .list [], .lst (.inl (.inl c3)) (dpInts cells), .lst (.inl (.inl upd_same)) .nil, shapedInts cells, shapedInts [], _, rfl, ?_⟩
        cases cells with
        | nil => exact iteF ⟨_, rfl, s3⟩
        | cons n0 ns =>
          refine iteT ⟨_, rfl, _, rfl, .inl ⟨sp, rfl, _, rfl, c, _, rfl, .inl (.inl (.inl c3)), _, _, rfl, rfl, ?_, ?_⟩⟩
          · rw [List.length_map, List.length_cons]
            omega
          · have lp : (0 : Int) < ((ns.length + 1 : Nat) : Int) := by omega
            have e1 := Int.emod_nonneg sp (show ((ns.length + 1 : Nat) : Int) ≠ 0 by omega)
            have e2 := Int.emod_lt_of_pos sp lp
            have e3 : (sp % ((ns.length + 1 : Nat) : Int)).toNat < (n0 :: ns).length := by rw [List.length_cons]; omega
            refine ⟨c, _, sp % ((ns.length + 1 : Nat) : Int), .int ((n0 :: ns)[(sp % ((ns.length + 1 : Nat) : Int)).toNat]), rfl, ?_, .inl (.inl c3), ?_, _, rfl, s3⟩
            · rw [List.length_map, List.length_cons]
            · have e4 := atI_nat (xs := (n0 :: ns).map V.int) (j := (sp % ((ns.length + 1 : Nat) : Int)).toNat) (v := .int ((n0 :: ns)[(sp % ((ns.length + 1 : Nat) : Int)).toNat])) (by rw [List.getElem?_map, List.getElem?_eq_getElem e3]; rfl)
              rw [Int.toNat_of_nonneg e1] at e4
              exact e4
      · rintro σ' H3 ⟨z, rfl, s3⟩
        have h3 := s3 _ _ h2
        have c3 := s3 _ _ c2
        have kp3 : Kp d H H3 := kp2.trans s3.kp
        refine ⟨fun σ' H' => σ' = [some (V.ref d), some (.int l), none, none, some (.int sp), some (.ref c), some (.int z)] ∧ H3 = H', ?_, ?_⟩
        · refine ⟨_, rfl, _, rfl, c, _, rfl, .inl (.inl (.inl c3)), _, _, rfl, rfl, _, rfl, ite2 (fun e2 => ?_) (fun _ => iteF ⟨rfl, rfl⟩)⟩
          refine ⟨_, rfl, _, _, rfl, rfl, ⟨by decide, by decide, by decide⟩, _, _, rfl, rfl, _, rfl, ite2 (fun e1 => ?_) (fun _ => ⟨rfl, rfl⟩)⟩
          have z0 : (10 : Int) ^ (18 : Int).toNat ≤ z := of_decide_eq_true e1
          have z1 : (0 : Int) ≤ z := Int.le_trans (by decide) z0
          refine ⟨_, rfl, _, rfl, _, _, rfl, rfl, ⟨lpos, by omega⟩, _, rfl, d, _, rfl, p_over h3, ?_⟩
          refine ⟨_, rfl, .inl ⟨z, rfl, _, rfl, _, _, rfl, rfl, lpos, ?_⟩⟩
          refine ret z _ ⟨⟨sp + 1, z / l, tn + 1, upd_same, by omega, by omega, Int.ediv_nonneg z1 (by omega), by omega, by omega⟩, ?_, F.few⟩ (kp3.trans Kp.upd_d)
          rw [upd_ne ndc.symm]
          exact c3
        · rintro σ' _ ⟨rfl, rfl⟩
          refine ⟨_, rfl, .inl ⟨z, rfl, _, _, rfl, rfl, (show (0 : Int) < 1000001669 by decide), _, rfl, d, _, rfl, g_turn h3, _, _, rfl, rfl, .inl ⟨by decide, by decide⟩, _, _, rfl, rfl, _, _, rfl, rfl, .inl ⟨_, rfl, _, _, rfl, rfl, (show (0 : Int) < 2147483647 by decide), ?_⟩⟩⟩
          generalize hx : (z % 1000001669 + 400641 * (tn + 1) + 57331) % (2147483647 : Int) = x
          have x1 : 0 ≤ x := by rw [← hx]; exact Int.emod_nonneg _ (by decide)
          have x2 : x < 2147483647 := by rw [← hx]; exact Int.emod_lt_of_pos _ (by decide)
          refine ⟨_, rfl, _, rfl, _, _, rfl, rfl, .inl ⟨by omega, by omega⟩, _, rfl, d, _, rfl, g_turn h3, _, _, rfl, rfl, .inl ⟨by decide, by decide⟩, _, _, rfl, rfl, _, _, rfl, rfl, .inl ⟨_, rfl, _, _, rfl, rfl, (show (0 : Int) < 2147483629 by decide), ?_⟩⟩
          generalize hy : (x * x + 3314129 * (tn + 1) + 57331) % (2147483629 : Int) = y
          have y1 : 0 ≤ y := by rw [← hy]; exact Int.emod_nonneg _ (by decide)
          have y2 : y < 2147483629 := by rw [← hy]; exact Int.emod_lt_of_pos _ (by decide)
          refine ⟨_, rfl, _, rfl, _, _, rfl, rfl, .inl ⟨by omega, by omega⟩, _, rfl, _, _, rfl, rfl, .inl ⟨by decide, by decide⟩, _, _, rfl, rfl, .inl ⟨_, rfl, _, _, rfl, rfl, (show (0 : Int) < 2147483587 by decide), _, _, rfl, rfl, ⟨by decide, by decide⟩, .inl ⟨_, rfl, _, rfl, _, _, rfl, rfl, lpos, ?_⟩⟩⟩
          refine ret _ _ ⟨⟨sp + 1, ov, tn + 1, h3, by omega, by omega, a3, by omega, by omega⟩, c3, F.few⟩ kp3
theorem c__law_any (D : At K mg "_law_any" s__law_any ["_law_feed_here", "_law_some_here"]) (c__law_pick : Cal P w K mg base 1 "_law_pick" spDraw) (z_len : mg "len" = none) : Cal P w K mg base 2 "_law_any" spAny := by
  refine okC D sc__law_any (fun vs H Q E h => ?_) (fun f cdv A outer s H vs Q E hr h => ?_)
  · obtain ⟨d, c, a, cells, B, xs, rfl, _⟩ := h
    rfl
  · obtain ⟨d, c, a, cells, B, xs, rfl, F, hB, ha, l1, l2, k⟩ := h
    have nd := sc__law_any.nd
    refine ⟨_, (pss_one (ps_ret (pe_ix ix_list (pv 1) (pe_k c__law_pick hr (by decide) (by rfl) (pa_cons (pv 0) (pa_cons (pe_callB call_len_seq (by rfl) z_len PySem.boot_len (pa_cons (pv 1) pa_nil)) pa_nil))) (fun _ _ => rfl)))), ?_⟩
    refine ⟨_, rfl, _, rfl, _, rfl, a, xs, rfl, .inl (.inl (.inl ha)), d, c, cells, B, xs.length, rfl, F, by omega, l1, by omega, fun r H' hrl F' kp => ?_⟩
    have ha' := kp a _ (F.neL ha) ha
    exact ⟨a, xs, r, xs[r], rfl, rfl, .inl (.inl ha'), atI_nat (j := r) (List.getElem?_eq_getElem hrl), k _ H' (List.getElem_mem _) F' kp⟩
end
end K8

set_option Elab.async false
set_option linter.all false
set_option maxRecDepth 100000
/-! Division in a clock's own polynomials; what is left of it. -/
namespace Po
open Pv Nm
theorem run_top {d : Nat} {B : Int → Int} (b1 : B d = 1) (b2 : ∀ i, (d : Int) < i → B i = 0) : ∀ (m : Nat) (R : Int → Int), (∀ i, ((m + d : Nat) : Int) ≤ i → R i = 0) → ∀ i, (d : Int) ≤ i → run d B m R i = 0
  | 0, R, h, i, hi => h i (by omega)
  | m + 1, R, h, i, hi => run_top b1 b2 m (stp d B R m) (fun j hj => by
      show R j - R ((m : Int) + d) * B (j - m) = 0
      by_cases z : j = ((m : Int) + d)
      · subst z
        rw [show ((m : Int) + d) - m = (d : Int) by omega, b1, Int.mul_one, Int.sub_self]
      · rw [h j (by omega), b2 (j - m) (by omega), Int.mul_zero]
        rfl) i hi
theorem run_neg {d : Nat} {B : Int → Int} (b0 : ∀ i, i < 0 → B i = 0) : ∀ (m : Nat) (R : Int → Int), (∀ i, i < 0 → R i = 0) → ∀ i, i < 0 → run d B m R i = 0
  | 0, R, h, i, hi => h i hi
  | m + 1, R, h, i, hi => run_neg b0 m (stp d B R m) (fun j hj => by
      show R j - R ((m : Int) + d) * B (j - m) = 0
      rw [h j hj, b0 (j - m) (by omega), Int.mul_zero]
      rfl) i hi
/-- what is left, as many as the divisor has degree; the quotient, untrimmed -/
def rl (xs ds : List Int) : List Int := of (ds.length - 1) (run (ds.length - 1) (co ds) (xs.length - (ds.length - 1)) (co xs))
def ql (xs ds : List Int) : List Int := fac (ds.length - 1) (co ds) (xs.length - (ds.length - 1)) (co xs)
theorem rl_rs {xs ds : List Int} (m : Mo ds) (h : ds.length ≤ xs.length + 1) : tr (rl xs ds) = rs xs ds := by
  have l1 := m.len
  have top : ∀ i : Int, ((ds.length - 1 : Nat) : Int) ≤ i → run (ds.length - 1) (co ds) (xs.length - (ds.length - 1)) (co xs) i = 0 := run_top m.top m.big _ _ fun i hi => co_big (by omega)
  have neg : ∀ i : Int, i < 0 → run (ds.length - 1) (co ds) (xs.length - (ds.length - 1)) (co xs) i = 0 := run_neg (fun i hi => co_neg hi) _ _ fun i hi => co_neg hi
  unfold rl rs
  exact tr_win neg top fun i hi => top i (by omega)
theorem ql_mul {l f left : List Int} (m : Mo f) (e : mulL l f = left) (hl : left.length = l.length + (f.length - 1)) : ql left f = l := by
  unfold ql
  have e1 : co left = mu l.length (co l) (co f) := by
    funext i
    rw [← e, co_mulL]
  rw [e1, show left.length - (f.length - 1) = l.length by omega, (mul_run m.top m.big (co l) l.length).2, of_co rfl]
/-- the law's way to C of a size: the polynomials of lesser divisors are divided away -/
def cyOk (late : Nat) : List Nat → List Int → Bool
  | [], left => decide (left = cz late)
  | k :: ks, left => if late % k = 0 then gm left && cyOk late ks (divQ left (cz k)) && gz (cz k) && gm (divQ left (cz k)) && decide (mulL (divQ left (cz k)) (cz k) = left) && decide (left.length = (divQ left (cz k)).length + ((cz k).length - 1)) && decide (1 ≤ (divQ left (cz k)).length)
      else cyOk late ks left
def chkY (n : Nat) : Bool := (List.range (dv0 n).length).all fun i => cyOk ((dv0 n).getD i 0) ((dv0 n).take i) (cl ((dv0 n).getD i 0))
theorem chkY_a : ((List.range 12).all fun i => chkY (i + 1)) = true := by decide +kernel
theorem chkY_b : ((List.range 12).all fun i => chkY (i + 13)) = true := by decide +kernel
theorem chkY_c : ((List.range 12).all fun i => chkY (i + 25)) = true := by decide +kernel
theorem chkY_ok {n i : Nat} (h1 : 1 ≤ n) (h2 : n ≤ 36) (hi : i < (dv0 n).length) : cyOk ((dv0 n).getD i 0) ((dv0 n).take i) (cl ((dv0 n).getD i 0)) = true := by
  have key : chkY n = true := by
    by_cases z1 : n ≤ 12
    · have := List.all_eq_true.mp chkY_a (n - 1) (List.mem_range.mpr (by omega))
      rwa [show n - 1 + 1 = n by omega] at this
    by_cases z2 : n ≤ 24
    · have := List.all_eq_true.mp chkY_b (n - 13) (List.mem_range.mpr (by omega))
      rwa [show n - 13 + 13 = n by omega] at this
    · have := List.all_eq_true.mp chkY_c (n - 25) (List.mem_range.mpr (by omega))
      rwa [show n - 25 + 25 = n by omega] at this
  exact List.all_eq_true.mp key i (List.mem_range.mpr hi)
theorem cyOk_nil {late : Nat} {left : List Int} (h : cyOk late [] left = true) : left = cz late := of_decide_eq_true h
theorem cyOk_no {late k : Nat} {ks : List Nat} {left : List Int} (h : cyOk late (k :: ks) left = true) (e : ¬ late % k = 0) : cyOk late ks left = true := by
  unfold cyOk at h
  rwa [if_neg e] at h
structure CyS (late k : Nat) (ks : List Nat) (left : List Int) : Prop where
  bd : (∀ x ∈ left, x.natAbs < 2 ^ 20) ∧ left.length ≤ 300
  mo : Mo (cz k)
  bk : (∀ x ∈ cz k, x.natAbs < 2 ^ 3) ∧ (cz k).length ≤ 600
  le : (cz k).length ≤ left.length
  next : cyOk late ks (ql left (cz k)) = true
theorem gm_bd {f : List Int} (h : gm f = true) : (∀ x ∈ f, x.natAbs < 2 ^ 20) ∧ f.length ≤ 300 := by
  unfold gm at h
  rw [Bool.and_eq_true, List.all_eq_true, decide_eq_true_eq] at h
  refine ⟨fun x hx => ?_, h.2⟩
  have := of_decide_eq_true (h.1 x hx)
  rw [show (2 : Nat) ^ 20 = 1048576 by decide]
  exact this
theorem cyOk_yes {late k : Nat} {ks : List Nat} {left : List Int} (h : cyOk late (k :: ks) left = true) (e : late % k = 0) : CyS late k ks left := by
  unfold cyOk at h
  rw [if_pos e] at h
  simp only [Bool.and_eq_true, decide_eq_true_eq] at h
  obtain ⟨⟨⟨⟨⟨⟨g1, g2⟩, g3⟩, g4⟩, g5⟩, g6⟩, g7⟩ := h
  obtain ⟨m1, m2, m3⟩ := gz_mo g3
  have m4 := m1.len
  exact ⟨gm_bd g1, m1, ⟨m2, m3⟩, by omega, by rw [ql_mul m1 g5 g6]; exact g2⟩
end Po

set_option Elab.async false
set_option linter.all false
set_option maxRecDepth 100000
set_option maxHeartbeats 4000000
set_option exponentiation.threshold 20000
namespace K8
open PySem PySem.Spec PyProof.Rows L2 Gd Pv RZ Po Nm
section
variable {P : Program} {w : World} {K : PySem.W.Frag} {mg : Str → Option Value} {base : Heap}
theorem run_big {d : Nat} {B : Int → Int} {n : Nat} (hB : ∀ i, ((d + 1 : Nat) : Int) ≤ i → B i = 0) : ∀ (m : Nat) (R : Int → Int), m + d ≤ n → (∀ i, (n : Int) ≤ i → R i = 0) → ∀ i, (n : Int) ≤ i → run d B m R i = 0
  | 0, R, _, h, i, hi => h i hi
  | m + 1, R, hm, h, i, hi => run_big hB m (stp d B R m) (by omega) (fun j hj => by
      show R j - R ((m : Int) + d) * B (j - m) = 0
      rw [h j hj, hB (j - m) (by omega), Int.mul_zero]
      rfl) i hi
theorem cut_of {n m : Nat} {F : Int → Int} (h : m ≤ n) : cutV ((of n F).map V.int) none (some ((m : Nat) : Int)) = (of m F).map V.int := by
  rw [cut_take]
  congr 1
  unfold of
  rw [← List.map_take, List.take_range, Nat.min_eq_left h]
def spDivL (K : PySem.W.Frag) : Sp := fun vs H Q _ => ∃ (a b : Addr) (xs ds : List Int) (c e : Nat), vs = [.ref a, .ref b] ∧ LAt H a xs ∧ LAt H b ds ∧ 1 ≤ ds.length ∧ ds.length ≤ xs.length + 1 ∧ xs.length ≤ 500 ∧ ds.length ≤ 500 ∧ Bd c xs ∧ Bd e ds ∧ 0 < e ∧ c + xs.length * (e + 1) + 1 + e ≤ 90000 ∧
  ∀ (t p1 p2 : Addr) (H' : Hp), Same H H' → H' t = some (.tup [.ref p1, .ref p2]) → LAt H' p1 (ql xs ds) → LAt H' p2 (rl xs ds) → Q (.ref t) H'
theorem c__law_divided (D : At K mg "_law_divided" s__law_divided ["_law_one", "_law_late"]) (z_len : mg "len" = none) (z_list : mg "list" = none) (z_range : mg "range" = none) : Cal P w K mg base 1 "_law_divided" (spDivL K) := by
  refine okC D sc__law_divided (fun vs H Q E h => ?_) (fun f cdv A outer s H vs Q E hr h => ?_)
  · obtain ⟨a, b, xs, ds, c, e, rfl, _⟩ := h
    rfl
  · obtain ⟨a, b, xs, ds, c, e, rfl, ha, hb, l1, l2, lx, ld, bx, bd, e0, hcd, q⟩ := h
    have nd := sc__law_divided.nd
    refine ⟨_, (pss_cons (ps_par (i := 3) (j := 4) rfl nd rfl rfl (by decide) rfl rfl (pa_cons (pe_callTy call_list_of (by rfl) z_list (by decide +kernel) (pa_cons (pv 0) pa_nil)) (pa_cons (pe_lst pa_nil) pa_nil)) rfl)
 (pss_cons (ps_for PassesOwn.never rfl (pi_range3 (by rfl) z_range (pa_cons (pe_op op_sub (pe_callB call_len_seq (by rfl) z_len PySem.boot_len (pa_cons (pv 0) pa_nil)) (pe_callB call_len_seq (by rfl) z_len PySem.boot_len (pa_cons (pv 1) pa_nil))) (pa_cons (pe_un un_neg pe_int) (pa_cons (pe_un un_neg pe_int) pa_nil)))) (pg_name (i := 2) nd rfl (.inl rfl))
 (pss_cons (ps_set (i := 5) nd rfl (.inl rfl) (pe_ix ix_list (pv 3) (pe_op op_sub (pe_op op_add (pv 2) (pe_callB call_len_seq (by rfl) z_len PySem.boot_len (pa_cons (pv 1) pa_nil))) pe_int) (fun _ _ => rfl)))
 (pss_cons (ps_set (i := 4) nd rfl (.inl rfl) (pe_op op_cat (pe_lst (pa_cons (pv 5) pa_nil)) (pv 4)))
 (pss_one (ps_for PassesOwn.never rfl (pi_range1 (by rfl) z_range (pa_cons (pe_callB call_len_seq (by rfl) z_len PySem.boot_len (pa_cons (pv 1) pa_nil)) pa_nil)) (pg_name (i := 6) nd rfl (.inl rfl))
 (pss_one (ps_asg (pe_op op_sub (pe_ix ix_list (pv 3) (pe_op op_add (pv 2) (pv 6)) (fun _ _ => rfl)) (pe_op op_mulW (pv 5) (pe_ix ix_list (pv 1) (pv 6) (fun _ _ => rfl)))) (pg_sub (pv 3) (pe_op op_add (pv 2) (pv 6)) set_list))))))))
 (pss_one (ps_ret (pe_tup (pa_cons (pv 4) (pa_cons (pe_slice sl_list (pe_op op_cat (pv 3) (pe_op op_rep (pe_lst (pa_cons pe_int pa_nil)) (pe_callB call_len_seq (by rfl) z_len PySem.boot_len (pa_cons (pv 1) pa_nil)))) po_none (po_some (pe_op op_sub (pe_callB call_len_seq (by rfl) z_len PySem.boot_len (pa_cons (pv 1) pa_nil)) pe_int))) pa_nil))))))), ?_⟩
    obtain ⟨d, hd⟩ : ∃ d : Nat, ds.length = d + 1 := ⟨ds.length - 1, by omega⟩
    have hB : ∀ i, (co ds i).natAbs ≤ 2 ^ e := fun i => Nat.le_of_lt (bd.co i)
    have bigB : ∀ i, ((d + 1 : Nat) : Int) ≤ i → co ds i = 0 := fun i hi => co_big (by omega)
    obtain ⟨m, hm⟩ : ∃ m : Nat, m = xs.length - d := ⟨_, rfl⟩
    refine ⟨_, rfl, a, _, rfl, .inl (.inl (.inl ha)), fun r hr0 => ?_⟩
    have s1 := same_new (o := .lst (xs.map V.int)) hr0
    have er : (upd H r (.lst (xs.map V.int))) r = some (.lst ((of xs.length (co xs)).map V.int)) := by rw [of_co rfl]; exact upd_same
    generalize upd H r (.lst (xs.map V.int)) = H1 at s1 er ⊢
    refine ⟨(by show 0 ≤ sizeLine; decide), fun l0 hl0 => ?_⟩
    have s2 := s1.trans (same_new (o := .lst []) hl0)
    have er2 := (same_new (o := .lst []) hl0) _ _ er
    have e0l : (upd H1 l0 (.lst [])) l0 = some (.lst (([] : List Int).map V.int)) := upd_same
    generalize upd H1 l0 (.lst []) = H2 at s2 er2 e0l ⊢
    refine ⟨_, _, rfl, ?_⟩
    refine ⟨_, rfl, a, _, rfl, .inl (.inl (.inl (s2 _ _ ha))), _, rfl, b, _, rfl, .inl (.inl (.inl (s2 _ _ hb))), _, _, rfl, rfl, _, rfl, _, rfl, ((m : Nat) : Int) - 1, -1, -1, m, by rw [List.length_map, List.length_map]; show [V.int ((xs.length : Int) - (ds.length : Nat)), V.int (-1), V.int (-1)] = _; rw [show (xs.length : Int) - (ds.length : Nat) = ((m : Nat) : Int) - 1 by omega], rgd (by omega), ?_⟩
    refine for_it walk_rangeC (fun i σ H' => ∃ (y2 y5 y6 : Option V) (F : Int → Int) (ft : List Int) (R : Addr), σ = [some (.ref a), some (.ref b), y2, some (.ref r), some (.ref R), y5, y6] ∧ Same H H' ∧ H' r = some (.lst ((of xs.length F).map V.int)) ∧
        LAt H' R ft ∧ ft.length ≤ i ∧ Dvn d (co ds) (co xs) m c e (m - i) F ft)
      ⟨_, _, _, co xs, [], l0, rfl, s2, er2, e0l, Nat.le_refl _, by rw [Nat.sub_zero]; exact Dvn.start fun i => Nat.le_of_lt (bx.co i)⟩ (fun _ _ _ _ _ => True.intro) ?_ ?_
    · rintro i x σ G G' hi ⟨y2, y5, y6, F, ft, R, rfl, sG, eG, eF, lf, dn⟩ ⟨eH, rfl⟩
      obtain rfl := eH.symm
      obtain ⟨s, hs⟩ : ∃ s, m - i = s + 1 := ⟨m - i - 1, by omega⟩
      rw [hs] at dn
      have hsl : s + d < xs.length := by omega
      have ei : (((m : Nat) : Int) - 1 + (i : Int) * -1) = (s : Int) := by omega
      refine ⟨_, rfl, _, rfl, _, rfl, b, _, rfl, .inl (.inl (.inl (sG _ _ hb))), _, _, rfl, rfl, _, _, rfl, rfl, r, _, _, _, rfl, rfl, .inl (.inl eG), at_of (j := s + d) hsl (by rw [List.length_map, ei]; omega), ?_⟩
      refine ⟨_, rfl, (by show 1 ≤ sizeLine; decide), fun t1 ht1 => ?_⟩
      have s3 := same_new (o := .lst [V.int (F ((s + d : Nat) : Int))]) ht1
      have e3 : (upd G t1 (.lst [V.int (F ((s + d : Nat) : Int))])) t1 = some (.lst [V.int (F ((s + d : Nat) : Int))]) := upd_same
      have eG3 := s3 _ _ eG
      have eF3 := s3 _ _ eF
      replace sG := sG.trans s3
      generalize upd G t1 (.lst [V.int (F ((s + d : Nat) : Int))]) = G3 at *
      refine ⟨_, rfl, t1, R, _, _, rfl, rfl, e3, eF3, (by rw [List.length_map, sizeLine_eq]; show 1 + _ ≤ _; omega), fun R2 hR2 => ?_⟩
      have s5 := same_new (o := .lst ([V.int (F ((s + d : Nat) : Int))] ++ ft.map V.int)) hR2
      have e5 : LAt (upd G3 R2 (.lst ([V.int (F ((s + d : Nat) : Int))] ++ ft.map V.int))) R2 (F ((s : Int) + d) :: ft) := by
        show upd _ R2 _ R2 = _
        rw [upd_same, Int.natCast_add]
        rfl
      have e6 := s5 _ _ eG3
      replace s5 := sG.trans s5
      have nrR : r ≠ R2 := fun z => by
        rw [z, hR2] at eG3
        cases eG3
      generalize upd G3 R2 (.lst ([V.int (F ((s + d : Nat) : Int))] ++ ft.map V.int)) = G5 at s5 e5 e6 ⊢
      clear e3 eF3 eF
      refine ⟨_, rfl, b, _, rfl, .inl (.inl (.inl (s5 _ _ hb))), ((d + 1 : Nat) : Int), by rw [List.length_map, hd], by omega, by omega, ?_⟩
      rw [Int.toNat_natCast]
      refine for_it walk_range (fun k σ H' => ∃ (y6 : Option V), σ = [some (.ref a), some (.ref b), some (.int (((m : Nat) : Int) - 1 + (i : Int) * -1)), some (.ref r), some (.ref R2), some (.int (F ((s + d : Nat) : Int))), y6] ∧ Same H H' ∧
          LAt H' R2 (F ((s : Int) + d) :: ft) ∧ H' r = some (.lst ((of xs.length (ptl F (-F ((s + d : Nat) : Int)) (co ds) s k)).map V.int)))
        ⟨_, rfl, s5, e5, by rw [ptl_zero]; exact e6⟩ (fun _ _ _ _ _ => True.intro) ?_ ?_
      · rintro k x σ G2 G2' hk ⟨y7, rfl, s7, e7, e8⟩ ⟨eH, rfl⟩
        obtain rfl := eH.symm
        have hsk : s + k < xs.length := by omega
        refine ⟨_, rfl, _, rfl, _, rfl, _, _, rfl, rfl, r, _, _, _, rfl, rfl, .inl (.inl e8), at_of (j := s + k) hsk (by rw [ei]; omega), _, rfl, _, rfl, _, rfl, b, _, _, _, rfl, rfl, .inl (.inl (s7 _ _ hb)), at_co (j := k) (by omega) (by omega), _, _, rfl, rfl, wide_mul (a := c + m * (e + 1) + 1) (b := e) (dn.bits _) (bd.co _) (by omega) e0 ?_, _, _, rfl, rfl, ?_⟩
        · have := Nat.mul_le_mul_right (e + 1) (by omega : m ≤ xs.length)
          omega
        refine ⟨_, rfl, _, rfl, _, rfl, _, _, rfl, rfl, r, _, _, _, rfl, rfl, e8, ix_of (j := s + k) hsk (by rw [ei]; omega), ?_⟩
        refine ⟨_, rfl, same_own s7 hr0, ?_, ?_⟩
        · show upd _ r _ R2 = _
          rw [upd_ne nrR.symm]
          exact e7
        · rw [upd_same, ← List.map_set, ← ptl_step, Int.neg_mul, ← Int.sub_eq_add_neg, show ((s + k : Nat) : Int) = (s : Int) + k from Int.natCast_add _ _, ptl_at]
      · rintro σ G2 ⟨y7, rfl, s7, e7, e8⟩
        rw [ptl_all _ _ _ _ (fun _ => co_neg) bigB, show ((s + d : Nat) : Int) = (s : Int) + d from Int.natCast_add _ _, stp_of] at e8
        have hs2 : m - (i + 1) = s := by omega
        exact ⟨_, _, _, _, _, _, rfl, s7, e8, e7, by rw [List.length_cons]; omega, by rw [hs2]; exact dn.next hB⟩
    · rintro σ G ⟨y2, y5, y6, F, ft, R, rfl, sG, eG, eF, lf, dn⟩
      rw [Nat.sub_self] at dn
      obtain ⟨rfl, rfl⟩ := dn.done
      have hmd : xs.length - (ds.length - 1) = m := by omega
      have hdd : ds.length - 1 = d := by omega
      refine ⟨_, rfl, _, rfl, (by show 1 ≤ sizeLine; decide), fun t1 ht1 => ?_⟩
      have s3 := same_new (o := .lst [V.int 0]) ht1
      have e3 : (upd G t1 (.lst [V.int 0])) t1 = some (.lst [V.int 0]) := upd_same
      have eG3 := s3 _ _ eG
      have eF3 := s3 _ _ eF
      replace sG := sG.trans s3
      generalize upd G t1 (.lst [V.int 0]) = G3 at *
      refine ⟨_, rfl, b, _, rfl, .inl (.inl (.inl (sG _ _ hb))), t1, ((d + 1 : Nat) : Int), _, rfl, by rw [List.length_map, hd], e3, by omega, by omega, by rw [Int.toNat_natCast, sizeLine_eq]; show 1 * (d + 1) ≤ _; omega, fun t2 ht2 => ?_⟩
      rw [Int.toNat_natCast, rep_flat]
      have s4 := same_new (o := .lst ((List.replicate (d + 1) (0 : Int)).map V.int)) ht2
      have e4 : (upd G3 t2 (.lst ((List.replicate (d + 1) (0 : Int)).map V.int))) t2 = some (.lst ((List.replicate (d + 1) (0 : Int)).map V.int)) := upd_same
      have eG4 := s4 _ _ eG3
      have eF4 := s4 _ _ eF3
      replace sG := sG.trans s4
      generalize upd G3 t2 (.lst ((List.replicate (d + 1) (0 : Int)).map V.int)) = G4 at *
      refine ⟨r, t2, _, _, rfl, rfl, eG4, e4, by rw [List.length_map, List.length_map, of_len, List.length_replicate, sizeLine_eq]; omega, fun t3 ht3 => ?_⟩
      have e5 : (upd G4 t3 (.lst ((of xs.length (run d (co ds) m (co xs))).map V.int ++ (List.replicate (d + 1) (0 : Int)).map V.int))) t3 = some (.lst ((of (xs.length + (d + 1)) (run d (co ds) m (co xs))).map V.int)) := by
        rw [upd_same, ← List.map_append]
        congr 3
        refine List.ext_getElem (by rw [List.length_append, of_len, of_len, List.length_replicate]) fun j h1 h2 => ?_
        rw [of_len] at h2
        have g2 := of_get (F := run d (co ds) m (co xs)) h2
        rw [List.getElem?_eq_getElem (by rw [of_len]; exact h2)] at g2
        rw [Option.some.inj g2, List.getElem_append]
        by_cases z : j < (of xs.length (run d (co ds) m (co xs))).length
        · rw [dif_pos z]
          rw [of_len] at z
          have g3 := of_get (F := run d (co ds) m (co xs)) z
          rw [List.getElem?_eq_getElem (by rw [of_len]; exact z)] at g3
          exact Option.some.inj g3
        · rw [dif_neg z, List.getElem_replicate]
          rw [of_len] at z
          by_cases y : m + d ≤ xs.length
          · exact (run_big bigB m (co xs) y (fun i hi => co_big hi) (j : Int) (by omega)).symm
          · have hm0 : m = 0 := by omega
            rw [hm0]
            show 0 = co xs (j : Int)
            rw [co_big (by omega)]
      have s5 := same_new (o := .lst ((of xs.length (run d (co ds) m (co xs))).map V.int ++ (List.replicate (d + 1) (0 : Int)).map V.int)) ht3
      have eF5 := s5 _ _ eF4
      replace sG := sG.trans s5
      generalize upd G4 t3 (.lst ((of xs.length (run d (co ds) m (co xs))).map V.int ++ (List.replicate (d + 1) (0 : Int)).map V.int)) = G5 at *
      refine ⟨_, rfl, b, _, rfl, .inl (.inl (.inl (sG _ _ hb))), _, _, rfl, rfl, ((d : Nat) : Int), by rw [List.length_map, hd]; show V.int (((d + 1 : Nat) : Int) - 1) = _; congr 1; omega, t3, _, rfl, .inl (.inl e5), fun t4 ht4 => ?_⟩
      rw [cut_of (by omega)]
      have s6 := same_new (o := .lst ((of d (run d (co ds) m (co xs))).map V.int)) ht4
      have e6 : LAt (upd G5 t4 (.lst ((of d (run d (co ds) m (co xs))).map V.int))) t4 (of d (run d (co ds) m (co xs))) := upd_same
      have eF6 := s6 _ _ eF5
      replace sG := sG.trans s6
      generalize upd G5 t4 (.lst ((of d (run d (co ds) m (co xs))).map V.int)) = G6 at *
      refine ⟨(by show 2 ≤ sizeLine; decide), fun t ht => ?_⟩
      have st := same_new (o := .tup [V.ref R, .ref t4]) ht
      refine q t R t4 _ (sG.trans st) upd_same ?_ ?_
      · unfold ql
        rw [hmd, hdd]
        exact st _ _ eF6
      · unfold rl
        rw [hmd, hdd]
        exact st _ _ e6
end
end K8

set_option Elab.async false
set_option linter.all false
set_option maxRecDepth 100000
set_option maxHeartbeats 4000000
set_option exponentiation.threshold 20000
namespace K8
open PySem PySem.Spec PyProof.Rows L2 Gd Pv RZ Po Nm
section
variable {P : Program} {w : World} {K : PySem.W.Frag} {mg : Str → Option Value} {base : Heap}
def spDvsL : Sp := fun vs H Q _ => ∃ n : Nat, vs = [.int n] ∧ 1 ≤ n ∧ n ≤ 900 ∧ ∀ (a : Addr) (H' : Hp), Same H H' → H' a = some (.lst (nV (dvs n))) → Q (.ref a) H'
theorem c__law_divisors (D : At K mg "_law_divisors" s__law_divisors ["_law_size_here"]) (z_int : mg "int" = none) (z_range : mg "range" = none) : Cal P w K mg base 1 "_law_divisors" spDvsL := by
  refine okC D sc__law_divisors (fun vs H Q E h => ?_) (fun f cdv A outer s H vs Q E hr h => ?_)
  · obtain ⟨n, rfl, _⟩ := h
    rfl
  · obtain ⟨n, rfl, h1, h2, k⟩ := h
    have nd := sc__law_divisors.nd
    refine ⟨_, (pss_one (ps_ret (pe_lc (own := [("_law_k", 1)]) rfl nd (pi_range2 (by rfl) z_range (pa_cons pe_int (pa_cons (pe_op op_add (pv 0) pe_int) pa_nil))) (blkOk_by (N := N__law_divisors) (sc := defScope s__law_divisors) (by decide +kernel)) (fun _ _ _ _ _ => pg_name (i := 1) nd rfl (Or.inl rfl)) (fun _ _ _ _ _ => pts_one (pt_cmpR op_eq (pe_op op_mod (pe_callTy call_int1 (by rfl) z_int (by decide +kernel) (pa_cons (pv 0) pa_nil)) (pv 1)) pe_int (nomark _))) (fun _ _ _ _ _ => (pv 1))))), ?_⟩
    refine ⟨_, rfl, _, _, rfl, rfl, 1, (n : Int) + 1, rfl, ⟨by omega, by omega, by omega, by omega⟩, fun L hL => ?_⟩
    have en : ((n : Int) + 1 - 1).toNat = n := by omega
    rw [en]
    refine lcF walk_rg (dvF n) hL ?_ (fun _ _ => True.intro) ?_ ?_
    · rw [rgG_len]
      exact Nat.lt_of_le_of_lt h2 (by decide)
    · intro x H' R S hx sm q1 q2
      rw [rgG_eq] at hx
      obtain ⟨t, ht, rfl⟩ := List.mem_map.mp hx
      obtain ⟨i, hi, rfl⟩ := List.mem_map.mp ht
      refine ⟨rfl, _, rfl, .inl ⟨_, rfl, _, rfl, _, _, rfl, rfl, (by show (0 : Int) < ((1 + i : Nat) : Int); omega), rfl, _, rfl, ?_⟩⟩
      have n0 : ¬ ((1 + i : Nat) : Int) = 0 := by omega
      refine ite2 (fun c => ?_) (fun c => ?_)
      · have c1 : (n : Int) % ((1 + i : Nat) : Int) = 0 := V.int.inj (of_decide_eq_true c)
        refine ⟨_, rfl, q1 _ ?_ H' (Same.refl _)⟩
        unfold dvF
        simp only [if_neg n0, if_pos c1]
      · have c1 : ¬ (n : Int) % ((1 + i : Nat) : Int) = 0 := fun z => c (decide_eq_true (congrArg V.int z))
        refine q2 ?_ H' (Same.refl _)
        unfold dvF
        simp only [if_neg n0, if_neg c1]
    · intro H2 s2 hd
      have e : (rgG 1 n).filterMap (dvF n) = (dvs n).map fun t => V.int (t : Nat) := by
        rw [rgG_eq]
        refine filterMap_if _ _ _ _ fun t ht => ?_
        obtain ⟨i, hi, rfl⟩ := List.mem_map.mp ht
        have n0 : ¬ ((1 + i : Nat) : Int) = 0 := by omega
        unfold dvF
        simp only [if_neg n0]
        by_cases c : n % (1 + i) = 0
        · have c1 : (n : Int) % ((1 + i : Nat) : Int) = 0 := by rw [modN, c]; rfl
          rw [if_pos c1, if_pos (decide_eq_true c)]
        · have c1 : ¬ (n : Int) % ((1 + i : Nat) : Int) = 0 := by rw [modN]; omega
          rw [if_neg c1, if_neg fun z => c (of_decide_eq_true z)]
      rw [e] at hd
      exact k L _ s2 hd
theorem c__law_cut (D : At K mg "_law_cut" s__law_cut ["_law_numbers"]) (z_len : mg "len" = none) (z_range : mg "range" = none) (z_tuple : mg "tuple" = none) : Cal P w K mg base 1 "_law_cut" spTrimL := by
  refine okC D sc__law_cut (fun vs H Q E h => ?_) (fun f cdv A outer s H vs Q E hr h => ?_)
  · obtain ⟨a, xs, rfl, _⟩ := h
    rfl
  · obtain ⟨a, xs, rfl, ha, lx, q⟩ := h
    have nd := sc__law_cut.nd
    refine ⟨_, (pss_cons (ps_set (i := 1) nd rfl (.inl rfl) (pe_callB call_len_seq (by rfl) z_len PySem.boot_len (pa_cons (pv 0) pa_nil)))
 (pss_cons (ps_for PassesOwn.never rfl (pi_range1 (by rfl) z_range (pa_cons (pe_callB call_len_seq (by rfl) z_len PySem.boot_len (pa_cons (pv 0) pa_nil)) pa_nil)) (pg_name (i := 2) nd rfl (.inl rfl))
 (pss_one (ps_if (PW.pt (pw_and (pt_cmpR op_gt (pv 1) pe_int (nomark _)) (pw_and1 (pt_cmpR op_eq (pe_ix ix_list (pv 0) (pe_op op_sub (pv 1) pe_int) (fun _ _ => rfl)) pe_int (nomark _)))))
 (pss_one (ps_set (i := 1) nd rfl (.inl rfl) (pe_op op_sub (pv 1) pe_int)))
 pss_nil)))
 (pss_one (ps_ret (pe_tupleOf (by rfl) z_tuple (pe_slice sl_list (pv 0) po_none (po_some (pv 1)))))))), ?_⟩
    refine ⟨_, rfl, a, _, rfl, .inl (.inl (.inl ha)), ?_⟩
    refine ⟨_, rfl, a, _, rfl, .inl (.inl (.inl ha)), ((xs.length : Nat) : Int), by rw [List.length_map], by omega, by omega, ?_⟩
    rw [Int.toNat_natCast]
    refine for_it walk_range (fun i σ H' => ∃ (y2 : Option V) (m : Nat), σ = [some (.ref a), some (.int (m : Nat)), y2] ∧ H' = H ∧ m ≤ xs.length ∧ tr (xs.take m) = tr xs ∧ ((tr xs).length = m ∨ m + i ≤ xs.length))
      ⟨_, xs.length, by rw [List.length_map]; rfl, rfl, Nat.le_refl _, by rw [List.take_length], .inr (Nat.le_refl _)⟩ (fun _ _ _ _ _ => True.intro) ?_ ?_
    · rintro i x σ G G' hi ⟨y2, m, rfl, rfl, hm, ht, hs⟩ ⟨eH, rfl⟩
      obtain rfl := eH.symm
      refine ⟨_, rfl, _, _, rfl, rfl, _, rfl, ite2 (fun c => ?_) (fun c => iteF ?_)⟩
      · have m0 : (0 : Int) < (m : Int) := of_decide_eq_true c
        obtain ⟨k, rfl⟩ : ∃ k, m = k + 1 := ⟨m - 1, by omega⟩
        have hk : k < xs.length := by omega
        refine ⟨_, rfl, _, rfl, _, _, rfl, rfl, a, _, (k : Int), .int xs[k], rfl, by show V.int (((k + 1 : Nat) : Int) - 1) = _; congr 1; omega, .inl (.inl ha), at_nat hk, rfl, _, rfl, ite2 (fun e => ?_) (fun e => ?_)⟩
        · have z : xs[k] = 0 := V.int.inj (of_decide_eq_true e)
          refine ⟨_, rfl, _, _, rfl, rfl, _, k, by show _ = [some (V.ref a), some (.int ((k : Nat) : Int)), _]; rw [show ((k : Nat) : Int) = ((k + 1 : Nat) : Int) - 1 by omega]; rfl, rfl, by omega, by rw [← ht, tr_cut hk z], ?_⟩
          rcases hs with hs | hs
          · exfalso
            have h2 := tr_len (xs.take k)
            rw [← tr_cut hk z, ht, hs, List.length_take] at h2
            omega
          · exact .inr (by omega)
        · have z : xs[k] ≠ 0 := fun y => e (decide_eq_true (congrArg V.int y))
          refine ⟨_, k + 1, rfl, rfl, hm, ht, .inl ?_⟩
          rw [← ht, tr_stop hk z, List.length_take]
          omega
      · have m0 : ¬ (0 : Int) < (m : Int) := fun y => c (decide_eq_true y)
        have : m = 0 := by omega
        subst this
        refine ⟨_, 0, rfl, rfl, hm, ht, .inl ?_⟩
        rw [← ht]
        rfl
    · rintro σ G ⟨y2, m, rfl, rfl, hm, ht, hs⟩
      have hl : (tr xs).length = m := by
        rcases hs with hs | hs
        · exact hs
        · have : m = 0 := by omega
          subst this
          rw [← ht]
          rfl
      have e : xs.take m = tr xs := by
        rw [← ht]
        have h3 := tr_len (xs.take m)
        have h4 : (tr (xs.take m)).length = (xs.take m).length := by rw [ht, hl, List.length_take]; omega
        have h5 : ∀ ys : List Int, (tr ys).length = ys.length → tr ys = ys := fun ys h => by
          refine List.ext_getElem h fun j h1 h2 => ?_
          have := co_tr ys j
          rw [co_get h1, co_get h2] at this
          exact this
        exact (h5 _ h4).symm
      refine ⟨_, rfl, _, rfl, ((m : Nat) : Int), rfl, a, _, rfl, .inl (.inl ha), fun p hp => ?_⟩
      rw [cut_take, e]
      have s1 := same_new (o := .lst ((tr xs).map V.int)) hp
      refine .inl ⟨p, _, rfl, .inl (.inl upd_same), fun t ht2 => ?_⟩
      exact q t _ (s1.trans (same_new ht2)) upd_same
def okSize (n : Nat) : Prop := n ∈ [6, 4, 6, 8, 9, 10, 12, 1, 2, 3, 5, 7, 12, 15, 16, 18, 20, 24, 30, 36]
def spSizeL : Sp := fun vs H Q _ => ∃ (d c : Addr) (cells : List Int) (B : Nat), vs = [.ref d] ∧ FeedAt H d c cells B ∧ B ≤ 90000 ∧ ∀ (n : Nat) (H' : Hp), okSize n → FeedAt H' d c cells (B + 1) → Kp d H H' → Q (.int (n : Nat)) H'
theorem c__law_size (D : At K mg "_law_size" s__law_size ["_law_feed_here"]) (c__law_any : Cal P w K mg base 2 "_law_any" spAny) : Cal P w K mg base 3 "_law_size" spSizeL := by
  refine okC D sc__law_size (fun vs H Q E h => ?_) (fun f cdv A outer s H vs Q E hr h => ?_)
  · obtain ⟨d, c, cells, B, rfl, _⟩ := h
    rfl
  · obtain ⟨d, c, cells, B, rfl, F, hB, q⟩ := h
    have nd := sc__law_size.nd
    refine ⟨_, (pss_one (ps_ret (pe_k c__law_any hr (by decide) (by rfl) (pa_cons (pv 0) (pa_cons (pe_lst (pa_cons pe_int (pa_cons pe_int (pa_cons pe_int (pa_cons pe_int (pa_cons pe_int (pa_cons pe_int (pa_cons pe_int (pa_cons pe_int (pa_cons pe_int (pa_cons pe_int (pa_cons pe_int (pa_cons pe_int (pa_cons pe_int (pa_cons pe_int (pa_cons pe_int (pa_cons pe_int (pa_cons pe_int (pa_cons pe_int (pa_cons pe_int (pa_cons pe_int pa_nil))))))))))))))))))))) pa_nil))))), ?_⟩
    refine ⟨_, rfl, (by show 20 ≤ sizeLine; decide), fun l hl => ?_⟩
    refine ⟨d, c, l, cells, B, _, rfl, F.same (same_new hl), by omega, upd_same, (by decide), (by decide), fun x H2 hx F2 k2 => ?_⟩
    obtain ⟨n, rfl, hn⟩ : ∃ n : Nat, x = .int (n : Nat) ∧ okSize n := by
      have : x ∈ ([6, 4, 6, 8, 9, 10, 12, 1, 2, 3, 5, 7, 12, 15, 16, 18, 20, 24, 30, 36] : List Nat).map fun n : Nat => V.int (n : Nat) := hx
      obtain ⟨n, h1, h2⟩ := List.mem_map.mp this
      exact ⟨n, h2.symm, h1⟩
    exact q n H2 hn F2 ((same_new hl).kp.trans k2)
end
end K8

set_option Elab.async false
set_option linter.all false
set_option maxRecDepth 100000
set_option maxHeartbeats 4000000
set_option exponentiation.threshold 20000
namespace K8
open PySem PySem.Spec PyProof.Rows L2 Gd Pv RZ Po Nm
section
variable {P : Program} {w : World} {K : PySem.W.Frag} {mg : Str → Option Value} {base : Heap}
theorem dvs_dv0 (n : Nat) : dvs n = dv0 n := rfl
/-- the dict's entries: divisors and the lists that stand for them -/
def kvs (kv : List (Nat × Addr)) : List (Key × V) := kv.map fun p => (Sum.inl (p.1 : Int), V.ref p.2)
theorem kvs_get : ∀ {kv : List (Nat × Addr)} {p : Nat × Addr}, (kv.map (·.1)).Pairwise (· < ·) → p ∈ kv → valV (kvs kv) (Sum.inl (p.1 : Int)) = some (V.ref p.2)
  | q :: kv, p, h, m => by
    rw [List.map_cons, List.pairwise_cons] at h
    by_cases e : q.1 = p.1
    · have : p = q := by
        rcases List.mem_cons.mp m with z | z
        · exact z
        · have := h.1 p.1 (List.mem_map.mpr ⟨p, z, rfl⟩)
          omega
      subst this
      exact valV_pos rfl
    · rw [show kvs (q :: kv) = (Sum.inl (q.1 : Int), V.ref q.2) :: kvs kv from rfl, valV_neg (fun z => e (by have := Sum.inl.inj z; omega))]
      rcases List.mem_cons.mp m with z | z
      · exact absurd (congrArg (·.1) z.symm) e
      · exact kvs_get h.2 z
theorem kvs_none : ∀ {kv : List (Nat × Addr)} {d : Nat}, (∀ p ∈ kv, p.1 ≠ d) → valV (kvs kv) (Sum.inl (d : Int)) = none
  | [], _, _ => rfl
  | q :: kv, d, h => by
    rw [show kvs (q :: kv) = (Sum.inl (q.1 : Int), V.ref q.2) :: kvs kv from rfl, valV_neg (fun z => h q List.mem_cons_self (by have := Sum.inl.inj z; omega))]
    exact kvs_none fun p hp => h p (List.mem_cons_of_mem _ hp)
/-- the polynomials of these divisors, by the dict at D -/
structure CyAt (H : Hp) (D : Addr) (kv : List (Nat × Addr)) : Prop where
  dict : H D = some (.dK (kvs kv))
  at_ : ∀ p ∈ kv, LAt H p.2 (cz p.1)
theorem CyAt.same {H H' : Hp} {D : Addr} {kv : List (Nat × Addr)} (s : Same H H') (h : CyAt H D kv) : CyAt H' D kv := ⟨s _ _ h.dict, fun p hp => (h.at_ p hp).same s⟩
theorem _root_.Gd.unlock {H G : Hp} {D : Addr} {u : HO} {o : Obj} (h : H D = some u) (s : Same (upd H D (.frz o u)) G) : Same H (upd G D u) := fun b x e => by
  by_cases z : b = D
  · subst z
    rw [h] at e
    rw [upd_same]
    exact e
  · rw [upd_ne z]
    exact s b x (by rw [upd_ne z]; exact e)
theorem _root_.Gd.lock_ne {H : Hp} {D b : Addr} {u : HO} {xs : List V} {o : Obj} {kv : List (Key × V)} (h : H D = some (.dK kv)) (e : H b = some (.lst xs)) : (upd H D (.frz o u)) b = some (.lst xs) := by
  rw [upd_ne (ne_of e h (by intro z; cases z))]
  exact e
theorem dvs_pos {n d : Nat} (h : d ∈ dvs n) : 1 ≤ d := by
  unfold dvs at h
  obtain ⟨h1, _⟩ := List.mem_filter.mp h
  obtain ⟨i, _, rfl⟩ := List.mem_map.mp h1
  omega
theorem dvs_le {n d : Nat} (h : d ∈ dvs n) : d ≤ n := by
  unfold dvs at h
  obtain ⟨h1, _⟩ := List.mem_filter.mp h
  obtain ⟨i, hi, rfl⟩ := List.mem_map.mp h1
  have := List.mem_range.mp hi
  omega
def spCycles : Sp := fun vs H Q _ => ∃ n : Nat, vs = [.int (n : Nat)] ∧ 1 ≤ n ∧ n ≤ 36 ∧ ∀ (D : Addr) (kv : List (Nat × Addr)) (H' : Hp), Same H H' → CyAt H' D kv → kv.map (·.1) = dvs n → Q (.ref D) H'
theorem c__law_cycles (D : At K mg "_law_cycles" s__law_cycles ["_law_size_here"]) (c__law_divisors : Cal P w K mg base 1 "_law_divisors" spDvsL) (c__law_divided : Cal P w K mg base 1 "_law_divided" (spDivL K)) (z_int : mg "int" = none) : Cal P w K mg base 2 "_law_cycles" spCycles := by
  refine okC D sc__law_cycles (fun vs H Q E h => ?_) (fun f cdv A outer s0 H vs Q E hr h => ?_)
  · obtain ⟨n, rfl, _⟩ := h
    rfl
  · obtain ⟨n, rfl, h1, h2, q⟩ := h
    have nd := sc__law_cycles.nd
    have hu := hu_of hr
    refine ⟨_, (pss_cons (ps_set (i := 1) nd rfl (.inl rfl) pe_dnewK)
 (pss_cons (ps_for PassesOwn.never rfl (pi_list (pe_k c__law_divisors hr (by decide) (by rfl) (pa_cons (pv 0) pa_nil))) (pg_name (i := 2) nd rfl (.inl rfl))
 (pss_cons (ps_set (i := 3) nd rfl (.inl rfl) (pe_op op_cat (pe_op op_cat (pe_lst (pa_cons (pe_un un_neg pe_int) pa_nil)) (pe_op op_rep (pe_lst (pa_cons pe_int pa_nil)) (pe_op op_sub (pv 2) pe_int))) (pe_lst (pa_cons pe_int pa_nil))))
 (pss_cons (ps_lock (ps_for PassesOwn.never rfl (pi_keys (pv 1)) (pg_name (i := 4) nd rfl (.inl rfl))
 (pss_one (ps_if (pt_cmpR op_eq (pe_op op_mod (pe_callTy call_int1 (by rfl) z_int (by decide +kernel) (pa_cons (pv 2) pa_nil)) (pv 4)) pe_int (nomark _))
 (pss_one (ps_set (i := 3) nd rfl (.inl rfl) (pe_ix ix_tup (pe_k c__law_divided hr (by decide) (by rfl) (pa_cons (pv 3) (pa_cons (pe_dget hu (pv 1) (pv 4) (fun _ _ => rfl)) pa_nil))) pe_int (fun _ _ => rfl))))
 pss_nil))))
 (pss_one (ps_dput hu (pv 1) (pv 2) (pv 3) rfl)))))
 (pss_one (ps_ret (pv 1))))), ?_⟩
    intro D0 hD
    have sD := same_new (o := .dK []) hD
    have eD : (upd H D0 (.dK [])) D0 = some (.dK (kvs [])) := upd_same
    generalize upd H D0 (.dK []) = H0 at sD eD ⊢
    refine ⟨_, rfl, n, rfl, h1, by omega, fun a H1 s1 ea => ?_⟩
    have asc := dvs_asc n
    refine ⟨a, rfl, ⟨_, .inl (.inl ea)⟩, for_it (walk_list (xs := nV (dvs n)))
      (fun i σ H' => ∃ (y2 y3 y4 : Option V) (kv : List (Nat × Addr)), σ = [some (.int (n : Nat)), some (.ref D0), y2, y3, y4] ∧ Same H H' ∧ H' a = some (.lst (nV (dvs n))) ∧ CyAt H' D0 kv ∧ kv.map (·.1) = (dvs n).take i)
      ⟨_, _, _, [], rfl, sD.trans s1, ea, ⟨s1 _ _ eD, fun p hp => absurd hp List.not_mem_nil⟩, rfl⟩ (fun i σ H' _ ⟨_, _, _, _, _, _, e, _⟩ => .inl (.inl e)) ?_ ?_⟩
    · rintro i x σ G G' hi ⟨y2, y3, y4, kv, rfl, sG, eA, CY, hkv⟩ ⟨eH, hx⟩
      obtain rfl := eH.symm
      rw [nV_len] at hi
      obtain ⟨late, hl, rfl⟩ := nV_get hx
      have lm : late ∈ dvs n := List.mem_of_getElem? hl
      have l1 := dvs_pos lm
      have l2 := dvs_le lm
      have hY := chkY_ok (n := n) (i := i) h1 h2 hi
      have eg : (dv0 n).getD i 0 = late := by
        have : (dvs n).getD i 0 = late := by rw [List.getD_eq_getElem?_getD, hl]; rfl
        exact this
      rw [eg] at hY
      have pw : (kv.map (·.1)).Pairwise (· < ·) := by rw [hkv]; exact asc.sublist (List.take_sublist _ _)
      have kle : ∀ p ∈ kv, p.1 ∈ dvs n := fun p hp => List.mem_of_mem_take (hkv ▸ List.mem_map.mpr ⟨p, hp, rfl⟩)
      have klt : ∀ p ∈ kv, p.1 ≠ late := fun p hp z => by
        have h3 : p.1 ∈ (dvs n).take i := hkv ▸ List.mem_map.mpr ⟨p, hp, rfl⟩
        obtain ⟨j, hj, ej⟩ := List.getElem_of_mem h3
        rw [List.length_take] at hj
        rw [List.getElem_take] at ej
        have h4 := List.pairwise_iff_getElem.mp asc j i (by omega) hi (by omega)
        rw [List.getElem?_eq_getElem hi] at hl
        have h5 := Option.some.inj hl
        omega
      have kl36 : kv.length ≤ 36 := by
        have := congrArg List.length hkv
        rw [List.length_map, List.length_take] at this
        have h3 := dv_len h1 (by omega : n ≤ 10000) asc fun d hd => (dvs_mem h1 d).mp hd
        have h4 : (dvs n).length ≤ n := by
          unfold dvs
          exact Nat.le_trans (List.length_filter_le _ _) (by rw [List.length_map, List.length_range]; exact Nat.le_refl _)
        omega
      -- the clock's own polynomial
      refine ⟨_, rfl, (by show 1 ≤ sizeLine; decide), fun t1 ht1 => ?_⟩
      have s2 := same_new (o := .lst [V.int (-1)]) ht1
      have e2 : (upd G t1 (.lst [V.int (-1)])) t1 = some (.lst [V.int (-1)]) := upd_same
      generalize upd G t1 (.lst [V.int (-1)]) = G2 at s2 e2 ⊢
      refine ⟨(by show 1 ≤ sizeLine; decide), fun t2 ht2 => ?_⟩
      have s3 := same_new (o := .lst [V.int 0]) ht2
      have e3 : (upd G2 t2 (.lst [V.int 0])) t2 = some (.lst [V.int 0]) := upd_same
      generalize upd G2 t2 (.lst [V.int 0]) = G3 at s3 e3 ⊢
      refine ⟨_, rfl, _, _, rfl, rfl, t2, ((late - 1 : Nat) : Int), _, rfl, ?_, e3, by omega, by omega, by rw [Int.toNat_natCast, sizeLine_eq]; show 1 * (late - 1) ≤ _; omega, fun t3 ht3 => ?_⟩
      · show V.int ((late : Int) - 1) = _
        congr 1
        omega
      rw [Int.toNat_natCast, rep_flat]
      have s4 := same_new (o := .lst ((List.replicate (late - 1) (0 : Int)).map V.int)) ht3
      have e4 : (upd G3 t3 (.lst ((List.replicate (late - 1) (0 : Int)).map V.int))) t3 = some (.lst ((List.replicate (late - 1) (0 : Int)).map V.int)) := upd_same
      generalize upd G3 t3 (.lst ((List.replicate (late - 1) (0 : Int)).map V.int)) = G4 at s4 e4 ⊢
      refine ⟨t1, t3, _, _, rfl, rfl, s4 _ _ (s3 _ _ e2), e4, by rw [List.length_map, List.length_replicate, sizeLine_eq]; show 1 + _ ≤ _; omega, fun t4 ht4 => ?_⟩
      have s5 := same_new (o := .lst ([V.int (-1)] ++ (List.replicate (late - 1) (0 : Int)).map V.int)) ht4
      have e5 : (upd G4 t4 (.lst ([V.int (-1)] ++ (List.replicate (late - 1) (0 : Int)).map V.int))) t4 = some (.lst ([V.int (-1)] ++ (List.replicate (late - 1) (0 : Int)).map V.int)) := upd_same
      generalize upd G4 t4 (.lst ([V.int (-1)] ++ (List.replicate (late - 1) (0 : Int)).map V.int)) = G5 at s5 e5 ⊢
      refine ⟨(by show 1 ≤ sizeLine; decide), fun t5 ht5 => ?_⟩
      have s6 := same_new (o := .lst [V.int 1]) ht5
      have e6 : (upd G5 t5 (.lst [V.int 1])) t5 = some (.lst [V.int 1]) := upd_same
      generalize upd G5 t5 (.lst [V.int 1]) = G6 at s6 e6 ⊢
      refine ⟨t4, t5, _, _, rfl, rfl, s6 _ _ e5, e6, by rw [List.length_append, List.length_map, List.length_replicate, sizeLine_eq]; show 1 + _ + 1 ≤ _; omega, fun L0 hL0 => ?_⟩
      have s7 := same_new (o := .lst (([V.int (-1)] ++ (List.replicate (late - 1) (0 : Int)).map V.int) ++ [V.int 1])) hL0
      have e7 : LAt (upd G6 L0 (.lst (([V.int (-1)] ++ (List.replicate (late - 1) (0 : Int)).map V.int) ++ [V.int 1]))) L0 (cl late) := by
        show upd _ L0 _ L0 = _
        rw [upd_same]
        unfold cl
        rw [List.map_cons, List.map_append]
        rfl
      have sA := s2.trans (s3.trans (s4.trans (s5.trans (s6.trans s7))))
      generalize upd G6 L0 (.lst (([V.int (-1)] ++ (List.replicate (late - 1) (0 : Int)).map V.int) ++ [V.int 1])) = G7 at e7 sA ⊢
      clear s2 s3 s4 s5 s6 s7 e2 e3 e4 e5 e6 ht1 ht2 ht3 ht4 ht5 hL0
      replace sG := sG.trans sA
      replace eA := sA _ _ eA
      replace CY := CY.same sA
      -- the lesser ones are divided away
      refine ⟨D0, _, CY.dict, trivial, fun od => ?_⟩
      have hz : (upd G7 D0 (.frz od (.dK (kvs kv)))) D0 = some (.frz od (.dK (kvs kv))) := upd_same
      refine ⟨_, rfl, D0, od, rfl, .inl ⟨_, hz, for_it walk_keys
        (fun j σ H' => ∃ (y4 : Option V) (L : Addr) (left : List Int), σ = [some (.int (n : Nat)), some (.ref D0), some (.int (late : Nat)), some (.ref L), y4] ∧ Same (upd G7 D0 (.frz od (.dK (kvs kv)))) H' ∧ LAt H' L left ∧ cyOk late ((kv.map (·.1)).drop j) left = true)
        ⟨_, L0, _, rfl, Same.refl _, lock_ne CY.dict e7, by rw [List.drop_zero, hkv]; exact hY⟩ (fun j σ H' _ ⟨_, _, _, _, s, _⟩ => s _ _ hz) ?_ ?_⟩⟩
      · rintro j x σ K1 K1' hj ⟨y4, L, left, rfl, sK, eL, hck⟩ ⟨eH, kk, vv, hkj, rfl⟩
        obtain rfl := eH.symm
        have hjl : j < kv.length := by rw [← List.length_map (f := fun p : Nat × Addr => (((Sum.inl (p.1 : Int) : Key)), V.ref p.2))]; exact hj
        have ekj : (kk, vv) = (Sum.inl (kv[j].1 : Int), V.ref kv[j].2) := by
          unfold kvs at hkj
          rw [List.getElem?_map, List.getElem?_eq_getElem hjl] at hkj
          exact (Option.some.inj hkj).symm
        obtain ⟨rfl, rfl⟩ := Prod.mk.inj ekj
        have pm : kv[j] ∈ kv := List.getElem_mem hjl
        generalize hp : kv[j] = p at *
        have p1 := dvs_pos (kle p pm)
        have ed : (kv.map (·.1)).drop j = p.1 :: (kv.map (·.1)).drop (j + 1) := by
          rw [List.drop_eq_getElem_cons (by rw [List.length_map]; exact hjl)]
          congr 1
          rw [List.getElem_map, hp]
        rw [ed] at hck
        refine ⟨_, rfl, .inl ⟨_, rfl, _, rfl, _, _, rfl, rfl, (by show (0 : Int) < (p.1 : Int); omega), rfl, _, rfl, ite2 (fun c => ?_) (fun c => ?_)⟩⟩
        · have c1 : late % p.1 = 0 := by
            have h3 : (late : Int) % (p.1 : Int) = 0 := V.int.inj (of_decide_eq_true c)
            omega
          obtain ⟨⟨b1, b2⟩, mo, ⟨b3, b4⟩, le, nx⟩ := cyOk_yes hck c1
          have eC : LAt K1 p.2 (cz p.1) := sK _ _ (lock_ne CY.dict (CY.at_ p pm))
          refine ⟨_, rfl, _, rfl, _, rfl, D0, _, rfl, .inl ⟨kvs kv, Sum.inl (p.1 : Int), .inr ⟨od, sK _ _ hz⟩, rfl, (kvs_get pw pm).symm⟩, ?_⟩
          refine ⟨L, p.2, left, cz p.1, 20, 3, rfl, eL, eC, mo.len, by omega, by omega, by omega, b1, b3, by decide, by omega, fun t q1 q2 K2 sK2 et f1 f2 => ?_⟩
          exact ⟨t, _, _, _, rfl, rfl, .inl (.inl et), rfl, _, q1, _, rfl, sK.trans sK2, f1, nx⟩
        · have c1 : ¬ late % p.1 = 0 := fun z => c (decide_eq_true (show V.int ((late : Int) % (p.1 : Int)) = V.int 0 by rw [show (late : Int) % (p.1 : Int) = 0 by omega]))
          exact ⟨_, L, left, rfl, sK, eL, cyOk_no hck c1⟩
      · rintro σ K1 ⟨y4, L, left, rfl, sK, eL, hck⟩
        rw [show (kvs kv).length = (kv.map (·.1)).length by unfold kvs; rw [List.length_map, List.length_map], List.drop_length] at hck
        have hleft := cyOk_nil hck
        subst hleft
        have su := unlock CY.dict sK
        have hD1 := sK _ _ hz
        refine ⟨hD1, ?_⟩
        have eL2 : LAt (upd K1 D0 (.dK (kvs kv))) L (cz late) := by
          show upd K1 D0 _ L = _
          rw [upd_ne (ne_of eL hD1 (by intro z; cases z))]
          exact eL
        have CY2 := CY.same su
        replace sG := sG.trans su
        replace eA := su _ _ eA
        generalize upd K1 D0 (.dK (kvs kv)) = K2 at *
        refine ⟨_, rfl, _, rfl, _, rfl, D0, _, rfl, DPut.k (k := (Sum.inl (late : Int) : Key)) CY2.dict (by unfold kvs; rw [List.length_map, sizeLine_eq]; omega), ?_⟩
        rw [putK_new _ (kvs_none klt), show kvs kv ++ [((Sum.inl (late : Int) : Key), V.ref L)] = kvs (kv ++ [(late, L)]) by unfold kvs; rw [List.map_append]; rfl]
        refine ⟨_, _, _, kv ++ [(late, L)], rfl, same_own sG hD, ?_, ⟨upd_same, fun p hp => ?_⟩, ?_⟩
        · rw [upd_ne (ne_of eA CY2.dict (by intro z; cases z))]
          exact eA
        · rcases List.mem_append.mp hp with z | z
          · show upd K2 D0 _ p.2 = _
            rw [upd_ne (ne_of (CY2.at_ p z) CY2.dict (by intro z; cases z))]
            exact CY2.at_ p z
          · rw [List.mem_singleton.mp z]
            show upd K2 D0 _ L = _
            rw [upd_ne (ne_of eL2 CY2.dict (by intro z; cases z))]
            exact eL2
        · rw [List.map_append, hkv, List.take_succ, hl]
          rfl
    · rintro σ G ⟨y2, y3, y4, kv, rfl, sG, eA, CY, hkv⟩
      rw [nV_len, List.take_length] at hkv
      exact ⟨_, rfl, q D0 kv G sG CY hkv⟩
end
end K8

set_option Elab.async false
set_option linter.all false
set_option maxRecDepth 100000
set_option maxHeartbeats 4000000
set_option exponentiation.threshold 20000
namespace K8
open PySem PySem.Spec PyProof.Rows L2 Gd Pv RZ Po Nm
section
variable {P : Program} {w : World} {K : PySem.W.Frag} {mg : Str → Option Value} {base : Heap}
/-- the divisors of these at which a voice is silent -/
def silL (ds : List Nat) (xs : List Int) : List Nat := ds.filter fun d => decide (rs xs (cz d) = [])
theorem cz_ok {d : Nat} (h1 : 1 ≤ d) (h2 : d ≤ 36) : Mo (cz d) ∧ Bd 3 (cz d) ∧ (cz d).length ≤ 200 ∧ (cz d).length ≤ d + 1 := by
  have C := czs h1 (by omega : d ≤ 200)
  obtain ⟨g1, g2, g3⟩ := gz_mo C.gz
  have e := C.len
  have t : totP (pf d) ≤ d := by
    have := parts_tot_le C.parts (pf d).length
    rwa [List.take_length] at this
  exact ⟨g1, g2, by omega, by omega⟩
theorem cz_fit {d n : Nat} (h1 : 1 ≤ d) (h2 : d ≤ n) (h3 : n ≤ 36) : (cz d).length ≤ n + 1 := by
  have := (cz_ok h1 (by omega)).2.2.2
  omega
theorem kv_mem {n : Nat} {kv : List (Nat × Addr)} (hkv : kv.map (·.1) = dvs n) {d : Nat} (h : d ∈ dvs n) : ∃ a, (d, a) ∈ kv := by
  rw [← hkv] at h
  obtain ⟨p, hp, rfl⟩ := List.mem_map.mp h
  exact ⟨p.2, hp⟩
theorem kv_pw {n : Nat} {kv : List (Nat × Addr)} (hkv : kv.map (·.1) = dvs n) : (kv.map (·.1)).Pairwise (· < ·) := by rw [hkv]; exact dvs_asc n
theorem kv_get {kv : List (Nat × Addr)} {j : Nat} {kk : Key} {vv : V} (hjl : j < kv.length) (h : (kvs kv)[j]? = some (kk, vv)) : kk = Sum.inl (kv[j].1 : Int) ∧ vv = V.ref kv[j].2 := by
  unfold kvs at h
  rw [List.getElem?_map, List.getElem?_eq_getElem hjl] at h
  have := (Option.some.inj h).symm
  exact Prod.mk.inj this
theorem kvs_len (kv : List (Nat × Addr)) : (kvs kv).length = kv.length := by unfold kvs; rw [List.length_map]
/-- a dict's entry, the dict locked or not -/
theorem CyAt.lget {H : Hp} {D : Addr} {kv : List (Nat × Addr)} {d : Nat} {a : Addr} (h : Rd H D (.dK (kvs kv))) (pw : (kv.map (·.1)).Pairwise (· < ·)) (m : (d, a) ∈ kv) : DGet H D (.int (d : Nat)) (some (.ref a)) :=
  .inl ⟨kvs kv, Sum.inl (d : Int), h, rfl, (kvs_get pw m).symm⟩
def spSil : Sp := fun vs H Q _ => ∃ (a D : Addr) (xs : List Int) (n c : Nat) (kv : List (Nat × Addr)), vs = [.ref a, .ref D] ∧ TAt H a xs ∧ CyAt H D kv ∧ kv.map (·.1) = dvs n ∧ xs.length = n ∧ 1 ≤ n ∧ n ≤ 36 ∧ Bd c xs ∧ c ≤ 80000 ∧
  ∀ (p : Addr) (H' : Hp), Same H H' → H' p = some (.tup (nV (silL (dvs n) xs))) → Q (.ref p) H'
theorem c__law_silences (D : At K mg "_law_silences" s__law_silences ["_law_voice", "_law_cycles_here"]) (c__law_divided : Cal P w K mg base 1 "_law_divided" (spDivL K)) (c__law_cut : Cal P w K mg base 1 "_law_cut" spTrimL) (z_list : mg "list" = none) (z_tuple : mg "tuple" = none) : Cal P w K mg base 2 "_law_silences" spSil := by
  refine okC D sc__law_silences (fun vs H Q E h => ?_) (fun f cdv A outer s0 H vs Q E hr h => ?_)
  · obtain ⟨a, D, xs, n, c, kv, rfl, _⟩ := h
    rfl
  · obtain ⟨a, D, xs, n, c, kv, rfl, ha, CY, hkv, lx, h1, h2, bx, hc, q⟩ := h
    have nd := sc__law_silences.nd
    have hu := hu_of hr
    have hu64 := hr.units
    have pw := kv_pw hkv
    have ll : kv.length ≤ n := by
      have := congrArg List.length hkv
      rw [List.length_map] at this
      rw [this]
      unfold dvs
      exact Nat.le_trans (List.length_filter_le _ _) (by rw [List.length_map, List.length_range]; exact Nat.le_refl _)
    refine ⟨_, (pss_cons (ps_set (i := 2) nd rfl (.inl rfl) (pe_lst pa_nil))
 (pss_cons (ps_lock (ps_for PassesOwn.never rfl (pi_keys (pv 1)) (pg_name (i := 3) nd rfl (.inl rfl))
 (pss_one (ps_if (pt_cmpR (op_eqD hu64) (pe_k c__law_cut hr (by decide) (by rfl) (pa_cons (pe_ix ix_tup (pe_k c__law_divided hr (by decide) (by rfl) (pa_cons (pe_callTy call_list_of (by rfl) z_list (by decide +kernel) (pa_cons (pv 0) pa_nil)) (pa_cons (pe_dget hu (pv 1) (pv 3) (fun _ _ => rfl)) pa_nil))) pe_int (fun _ _ => rfl)) pa_nil)) (pe_tup pa_nil) (nomark _))
 (pss_one (ps_expr (pe_bm PySem.F.plainAttrs_list PySem.F.slot_list_append PySem.F.type_list_append mt_append (pv 2) (pa_cons (pv 3) pa_nil))))
 pss_nil))))
 (pss_one (ps_ret (pe_tupleOf (by rfl) z_tuple (pv 2)))))), ?_⟩
    refine ⟨(by show 0 ≤ sizeLine; decide), fun l hl => ?_⟩
    have s1 := same_new (o := .lst []) hl
    have el : (upd H l (.lst [])) l = some (.lst []) := upd_same
    have nlD : l ≠ D := fun z => by
      have := CY.dict
      rw [← z, hl] at this
      cases this
    refine ⟨D, _, s1 _ _ CY.dict, trivial, fun od => ?_⟩
    have hz : (upd (upd H l (.lst [])) D (.frz od (.dK (kvs kv)))) D = some (.frz od (.dK (kvs kv))) := upd_same
    have sl : Same (upd H D (.frz od (.dK (kvs kv)))) (upd (upd H l (.lst [])) D (.frz od (.dK (kvs kv)))) := fun b o e => by
      by_cases z : b = D
      · subst z
        rw [upd_same] at e ⊢
        exact e
      · rw [upd_ne z] at e ⊢
        exact s1 _ _ e
    have nl : (upd H D (.frz od (.dK (kvs kv)))) l = none := by rw [upd_ne nlD]; exact hl
    have hzD : (upd H D (.frz od (.dK (kvs kv)))) D = some (.frz od (.dK (kvs kv))) := upd_same
    refine ⟨_, rfl, D, od, rfl, .inl ⟨_, hz, for_it walk_keys
      (fun j σ H' => ∃ (y3 : Option V), σ = [some (.ref a), some (.ref D), some (.ref l), y3] ∧ Same (upd H D (.frz od (.dK (kvs kv)))) H' ∧ H' l = some (.lst (nV (silL ((kv.map (·.1)).take j) xs))))
      ⟨_, rfl, sl, by rw [upd_ne nlD]; exact el⟩ (fun j σ H' _ ⟨_, _, s, _⟩ => s _ _ hzD) ?_ ?_⟩⟩
    · rintro j x σ G G' hj ⟨y3, rfl, sG, eG⟩ ⟨eH, kk, vv, hkj, rfl⟩
      obtain rfl := eH.symm
      rw [kvs_len] at hj
      obtain ⟨rfl, rfl⟩ := kv_get hj hkj
      have pm : kv[j] ∈ kv := List.getElem_mem hj
      generalize hp : kv[j] = p at *
      have pd : p.1 ∈ dvs n := hkv ▸ List.mem_map.mpr ⟨p, pm, rfl⟩
      have p1 := dvs_pos pd
      have p2 := dvs_le pd
      obtain ⟨mo, b3, l200, _⟩ := cz_ok p1 (by omega)
      have lf := cz_fit p1 p2 h2
      have et : (kv.map (·.1)).take (j + 1) = (kv.map (·.1)).take j ++ [p.1] := by
        rw [List.take_succ, List.getElem?_map, List.getElem?_eq_getElem hj, hp]
        rfl
      have ha1 : TAt G a xs := sG _ _ (by rw [upd_ne (ne_of ha CY.dict (by intro z; cases z))]; exact ha)
      have eC1 : LAt G p.2 (cz p.1) := sG _ _ (lock_ne CY.dict (CY.at_ p pm))
      refine ⟨_, rfl, a, _, rfl, .inr ha1.sq, fun t1 ht1 => ?_⟩
      have s2 := same_new (o := .lst (xs.map V.int)) ht1
      have e2 : LAt (upd G t1 (.lst (xs.map V.int))) t1 xs := upd_same
      generalize upd G t1 (.lst (xs.map V.int)) = G2 at s2 e2 ⊢
      refine ⟨_, rfl, _, rfl, D, _, rfl, CyAt.lget (.inr ⟨od, s2 _ _ (sG _ _ hzD)⟩) pw pm, ?_⟩
      refine ⟨t1, p.2, xs, cz p.1, c, 3, rfl, e2, s2 _ _ eC1, mo.len, by omega, by omega, by omega, bx, b3, by decide, by omega, fun t q1 q2 G3 s3 et3 f1 f2 => ?_⟩
      refine ⟨t, _, _, _, rfl, rfl, .inl (.inl et3), rfl, q2, _, rfl, f2, ?_, fun p4 G4 s4 e4 => ?_⟩
      · unfold Po.rl
        rw [of_len]
        omega
      rw [rl_rs mo (by omega)] at e4
      refine ⟨(by show 0 ≤ sizeLine; decide), fun z hz2 => ?_⟩
      have s5 := same_new (o := .tup []) hz2
      refine ⟨dT (rs xs (cz p.1)), dT [], dpT (e4.same s5), dpT (show TAt _ z [] from upd_same), shT _, shT _, ?_⟩
      rw [eqT_nil]
      have sA := (s2.trans (s3.trans s4)).trans s5
      have eG5 := sA _ _ eG
      replace sG := sG.trans sA
      generalize upd G4 z (.tup []) = G5 at *
      refine ⟨_, rfl, ite2 (fun y => ?_) (fun y => ?_)⟩
      · refine ⟨_, rfl, .inl ⟨rfl, _, .inl (.inl eG5)⟩, _, rfl, l, _, _, rfl, rfl, eG5, ?_, ?_⟩
        · rw [nV_len, sizeLine_eq]
          have := List.length_filter_le (fun d => decide (rs xs (cz d) = [])) ((kv.map (·.1)).take j)
          rw [List.length_take, List.length_map] at this
          unfold silL
          omega
        · refine ⟨_, rfl, same_own sG nl, ?_⟩
          rw [upd_same, et]
          unfold silL nV
          rw [List.filter_append, List.filter_cons_of_pos (by exact y), List.map_append]
          rfl
      · refine ⟨_, rfl, sG, ?_⟩
        rw [et]
        unfold silL
        rw [List.filter_append, List.filter_cons_of_neg (by exact y), List.filter_nil, List.append_nil]
        exact eG5
    · rintro σ G ⟨y3, rfl, sG, eG⟩
      rw [show (kvs kv).length = (kv.map (·.1)).length by rw [kvs_len, List.length_map], List.take_length, hkv] at eG
      have hD1 := sG _ _ hzD
      have su := unlock CY.dict sG
      refine ⟨hD1, ?_⟩
      have eG2 : (upd G D (.dK (kvs kv))) l = some (.lst (nV (silL (dvs n) xs))) := by rw [upd_ne nlD]; exact eG
      generalize upd G D (.dK (kvs kv)) = G2 at *
      refine ⟨_, rfl, .inl ⟨l, _, rfl, .inl (.inl eG2), fun t ht => ?_⟩⟩
      exact q t _ (su.trans (same_new ht)) upd_same
/-- some of the divisors, as they stand -/
def SubL (n : Nat) (ss : List Nat) : Prop := ss.Sublist (dvs n)
def spSome : Sp := fun vs H Q _ => ∃ (d c : Addr) (cells : List Int) (B n : Nat), vs = [.ref d, .int (n : Nat)] ∧ FeedAt H d c cells B ∧ B ≤ 50000 ∧ 1 ≤ n ∧ n ≤ 36 ∧
  ∀ (ss : List Nat) (p : Addr) (H' : Hp), SubL n ss → FeedAt H' d c cells (B + 40) → Kp d H H' → H' p = some (.tup (nV ss)) → Q (.ref p) H'
theorem c__law_some (D : At K mg "_law_some" s__law_some ["_law_feed_here", "_law_size_here"]) (c__law_pick : Cal P w K mg base 1 "_law_pick" spDraw) (c__law_divisors : Cal P w K mg base 1 "_law_divisors" spDvsL) (z_tuple : mg "tuple" = none) : Cal P w K mg base 2 "_law_some" spSome := by
  refine okC D sc__law_some (fun vs H Q E h => ?_) (fun f cdv A outer s H vs Q E hr h => ?_)
  · obtain ⟨d, c, cells, B, n, rfl, _⟩ := h
    rfl
  · obtain ⟨d, c, cells, B, n, rfl, F, hB, n1, n36, q⟩ := h
    have nd := sc__law_some.nd
    refine ⟨_, (pss_cons (ps_set (i := 2) nd rfl (.inr rfl) (pe_op op_add pe_int (pe_k c__law_pick hr (by decide) (by rfl) (pa_cons (pv 0) (pa_cons pe_int pa_nil)))))
 (pss_one (ps_ret (pe_tupleOf (by rfl) z_tuple (pe_lc (own := [("_law_k", 3)]) rfl nd (pi_list (pe_k c__law_divisors hr (by decide) (by rfl) (pa_cons (pv 1) pa_nil))) (blkOk_by (N := N__law_some) (sc := defScope s__law_some) (by decide +kernel)) (fun _ _ _ _ _ => pg_name (i := 3) nd rfl (Or.inl rfl)) (fun _ _ _ _ _ => pts_one (pt_cmpR op_eq (pe_k c__law_pick hr (by decide) (by rfl) (pa_cons (pv 0) (pa_cons (pv 2) pa_nil))) pe_int (nomark _))) (fun _ _ _ _ _ => (pv 3))))))), ?_⟩
    refine ⟨_, rfl, d, c, cells, B, 2, rfl, F, by omega, by decide, by decide, fun r H1 hr1 F1 k1 => ⟨_, _, rfl, rfl, ?_⟩⟩
    refine ⟨_, rfl, n, rfl, n1, by omega, fun a H2 s2 ea => ?_⟩
    have F2 := F1.same s2
    have ll : (dvs n).length ≤ n := by
      unfold dvs
      exact Nat.le_trans (List.length_filter_le _ _) (by rw [List.length_map, List.length_range]; exact Nat.le_refl _)
    refine ⟨a, rfl, ⟨_, .inl (.inl ea)⟩, fun R hR => ?_⟩
    have nRd : R ≠ d := fun z => by
      obtain ⟨sp, ov, tn, e, _⟩ := F2.ex
      rw [← z, hR] at e
      cases e
    have nRc : c ≠ R := fun z => by
      have e := F2.cl
      rw [z, hR] at e
      cases e
    refine lc_it (walk_list (xs := nV (dvs n))) (fun j H' => ∃ ss : List Nat, ss.Sublist ((dvs n).take j) ∧ FeedAt H' d c cells (B + 1 + j) ∧ Kp d H2 H' ∧ H' a = some (.lst (nV (dvs n))) ∧ H' R = some (.lst (nV ss)))
      ⟨[], List.nil_sublist _, F2.same (same_new hR), (same_new hR).kp, (same_new hR) _ _ ea, upd_same⟩ (fun j H' _ ⟨_, _, _, _, e, _⟩ => .inl (.inl e)) ?_ ?_
    · rintro j x G G' hj ⟨ss, h3, FG, kG, eA, eR⟩ ⟨eH, hx⟩
      obtain rfl := eH.symm
      rw [nV_len] at hj
      obtain ⟨t, ht, rfl⟩ := nV_get hx
      have et : (dvs n).take (j + 1) = (dvs n).take j ++ [t] := by rw [List.take_succ, ht]; rfl
      refine ⟨rfl, _, rfl, _, rfl, d, c, cells, B + 1 + j, 2 + r, by rw [Int.natCast_add]; rfl, FG, by omega, by omega, by omega, fun r2 H4 h4 F4 k4 => ⟨rfl, _, rfl, ?_⟩⟩
      have eR4 := k4 _ _ nRd eR
      have eA4 := k4 _ _ (FG.neL eA) eA
      refine ite2 (fun _ => ?_) (fun _ => ?_)
      · refine ⟨_, rfl, _, eR4, ?_, ss ++ [t], ?_, ?_, ?_, ?_, ?_⟩
        · rw [nV_len]
          have := h3.length_le
          rw [List.length_take] at this
          exact small1000 (by omega)
        · rw [et]
          exact h3.append (List.Sublist.refl _)
        · obtain ⟨sp, ov, tn, q1, q2⟩ := F4.ex
          exact ⟨⟨sp, ov, tn, by rw [upd_ne nRd.symm]; exact q1, q2⟩, by rw [upd_ne nRc]; exact F4.cl, F4.few⟩
        · intro b o hb' ho
          rw [upd_ne (ne_of_none ho hR)]
          exact k4 b o hb' (kG b o hb' ho)
        · rw [upd_ne (ne_of_none ea hR)]
          exact eA4
        · rw [upd_same]
          unfold nV
          rw [List.map_append]
          rfl
      · refine ⟨ss, ?_, F4, kG.trans k4, eA4, eR4⟩
        rw [et]
        exact h3.trans (List.sublist_append_left _ _)
    · rintro G ⟨ss, h3, FG, kG, eA, eR⟩
      rw [nV_len, List.take_length] at h3
      rw [nV_len] at FG
      refine .inl ⟨R, _, rfl, .inl (.inl eR), fun t ht => ?_⟩
      exact q ss t _ h3 ((FG.same (same_new ht)).mono (by omega)) (((k1.trans s2.kp).trans kG).trans (same_new ht).kp) upd_same
end
end K8

set_option Elab.async false
set_option linter.all false
set_option maxRecDepth 100000
/-! Data of any kind: its types; what tests of kinds say of it. -/
namespace Gd
open PySem PySem.Spec PyProof.Rows L2
theorem _root_.L2.Same.sqT {K : PySem.W.Frag} {H H' : Hp} {a : Addr} {xs : List V} (e : Same H H') (h : SqT K H a xs) : SqT K H' a xs := by
  rcases h with (h | ⟨o, h⟩) | h
  · exact .inl (.inl (e _ _ h))
  · exact .inl (.inr ⟨o, e _ _ h⟩)
  · exact .inr h
mutual
theorem dp_same {K : PySem.W.Frag} {H H' : Hp} (s : Same H H') : ∀ {v : V} {d : PyData}, Dp K H v d → Dp K H' v d
  | _, _, .non => .non
  | _, _, .bl b => .bl b
  | _, _, .int i => .int i
  | _, _, .str x => .str x
  | _, _, .lst h t => .lst (s.seq h) (dps_same s t)
  | _, _, .tup h t => .tup (Same.sqT s h) (dps_same s t)
theorem dps_same {K : PySem.W.Frag} {H H' : Hp} (s : Same H H') : ∀ {vs : List V} {ds : List PyData}, DpAll K H vs ds → DpAll K H' vs ds
  | _, _, .nil => .nil
  | _, _, .cons h t => .cons (dp_same s h) (dps_same s t)
end
theorem _root_.L2.Dp.same {K : PySem.W.Frag} {H H' : Hp} {v : V} {d : PyData} (h : Dp K H v d) (s : Same H H') : Dp K H' v d := dp_same s h
theorem _root_.L2.DpAll.same {K : PySem.W.Frag} {H H' : Hp} {vs : List V} {ds : List PyData} (h : DpAll K H vs ds) (s : Same H H') : DpAll K H' vs ds := dps_same s h
theorem _root_.L2.DpAll.len {K : PySem.W.Frag} {H : Hp} : ∀ {vs : List V} {ds : List PyData}, DpAll K H vs ds → vs.length = ds.length
  | _, _, .nil => rfl
  | _, _, .cons _ t => by rw [List.length_cons, List.length_cons, t.len]
theorem _root_.L2.DpAll.get {K : PySem.W.Frag} {H : Hp} : ∀ {vs : List V} {ds : List PyData} {i : Nat} {v : V}, DpAll K H vs ds → vs[i]? = some v → ∃ d, ds[i]? = some d ∧ Dp K H v d
  | _, _, 0, v, .cons h t, e => ⟨_, rfl, by cases e; exact h⟩
  | _, _, i + 1, v, .cons h t, e => t.get (i := i) e
def tyD : PyData → String
  | .none => "NoneType"
  | .bool _ => "bool"
  | .int _ => "int"
  | .str _ => "str"
  | .list _ => "list"
  | .tuple _ => "tuple"
  | .dict _ => "dict"
theorem ty_of {K : PySem.W.Frag} {H : Hp} {v : V} {d : PyData} (h : Dp K H v d) : TyX K H v (.type (tyD d)) := by
  cases h with
  | non => exact .base .non
  | bl b => exact .base (.bl b)
  | int i => exact .base (.int i)
  | str x => exact .base (.str x)
  | lst h t =>
    rcases h with (h | ⟨o, h⟩) | ⟨o, its, n, l, c, _⟩
    · exact .base (.lst h)
    · exact .base (.frz h)
    · exact .kList l c
  | tup h t =>
    rcases h with (h | ⟨o, h⟩) | ⟨o, its, n, l, c, _⟩
    · exact .base (.tup h)
    · exact .fTuple h
    · exact .kTuple l c
def isI : PyData → Bool
  | .int _ => true
  | _ => false
/-- a tuple of whole numbers, or not -/
def intsD : PyData → Option (List Int)
  | .tuple ds => ds.foldr (fun d r => match d, r with | .int i, some l => some (i :: l) | _, _ => none) (some [])
  | _ => none
theorem intsD_all (ds : List PyData) : (ds.all isI = true ↔ ∃ ns, intsD (.tuple ds) = some ns) ∧ ∀ ns, intsD (.tuple ds) = some ns → ds = ns.map PyData.int := by
  induction ds with
  | nil => exact ⟨⟨fun _ => ⟨[], rfl⟩, fun _ => rfl⟩, fun ns h => by cases h; rfl⟩
  | cons d ds ih =>
    cases d with
    | int i =>
      constructor
      · rw [List.all_cons]
        show (true && ds.all isI) = true ↔ _
        rw [Bool.true_and, ih.1]
        constructor
        · rintro ⟨ns, h⟩
          refine ⟨i :: ns, ?_⟩
          show (match PyData.int i, intsD (.tuple ds) with | .int i, some l => some (i :: l) | _, _ => none) = _
          rw [h]
        · rintro ⟨ns, h⟩
          have h : (match PyData.int i, intsD (.tuple ds) with | .int i, some l => some (i :: l) | _, _ => none) = some ns := h
          cases z : intsD (.tuple ds) with
          | none => rw [z] at h; cases h
          | some l => exact ⟨l, rfl⟩
      · intro ns h
        have h : (match PyData.int i, intsD (.tuple ds) with | .int i, some l => some (i :: l) | _, _ => none) = some ns := h
        cases z : intsD (.tuple ds) with
        | none => rw [z] at h; cases h
        | some l =>
          rw [z] at h
          cases h
          rw [ih.2 l z]
          rfl
    | none => exact ⟨⟨fun h => (by cases h), fun ⟨_, h⟩ => (by cases h)⟩, fun _ h => (by cases h)⟩
    | bool b => exact ⟨⟨fun h => (by cases h), fun ⟨_, h⟩ => (by cases h)⟩, fun _ h => (by cases h)⟩
    | str b => exact ⟨⟨fun h => (by cases h), fun ⟨_, h⟩ => (by cases h)⟩, fun _ h => (by cases h)⟩
    | list b => exact ⟨⟨fun h => (by cases h), fun ⟨_, h⟩ => (by cases h)⟩, fun _ h => (by cases h)⟩
    | tuple b => exact ⟨⟨fun h => (by cases h), fun ⟨_, h⟩ => (by cases h)⟩, fun _ h => (by cases h)⟩
    | dict b => exact ⟨⟨fun h => (by cases h), fun ⟨_, h⟩ => (by cases h)⟩, fun _ h => (by cases h)⟩
theorem intsD_map (ns : List Int) : intsD (.tuple (ns.map PyData.int)) = some ns := by
  induction ns with
  | nil => rfl
  | cons n ns ih =>
    show (match PyData.int n, intsD (.tuple (ns.map PyData.int)) with | .int i, some l => some (i :: l) | _, _ => none) = _
    rw [ih]
def areI (d : PyData) : Bool := (intsD d).isSome
theorem areI_tuple (ds : List PyData) : areI (.tuple ds) = ds.all isI := by
  unfold areI
  have h := (intsD_all ds).1
  cases z : intsD (.tuple ds) with
  | none =>
    cases y : ds.all isI with
    | false => rfl
    | true =>
      obtain ⟨ns, e⟩ := h.mp y
      rw [z] at e
      cases e
  | some ns => exact (h.mpr ⟨ns, z⟩).symm
theorem _root_.L2.Dp.ints {K : PySem.W.Frag} {H : Hp} {v : V} {d : PyData} {ns : List Int} (h : Dp K H v d) (e : intsD d = some ns) : ∃ a, v = .ref a ∧ SqT K H a (ns.map V.int) ∧ d = .tuple (ns.map PyData.int) := by
  cases h with
  | non => cases e
  | bl b => cases e
  | int i => cases e
  | str x => cases e
  | lst h t => cases e
  | @tup a xs ds h t =>
    have q := (intsD_all ds).2 ns e
    refine ⟨a, rfl, ?_, by rw [q]⟩
    have key : ∀ {xs : List V} {ds : List PyData} {ns : List Int}, DpAll K H xs ds → ds = ns.map PyData.int → xs = ns.map V.int := by
      intro xs
      induction xs with
      | nil =>
        intro ds ns t e
        cases t
        cases ns with
        | nil => rfl
        | cons _ _ => cases e
      | cons x xs ih =>
        intro ds ns t e
        cases t with
        | cons h t =>
          cases ns with
          | nil => cases e
          | cons n ns =>
            rw [List.map_cons] at e
            obtain ⟨rfl, e2⟩ := List.cons.inj e
            cases h
            rw [ih t e2]
            rfl
    rw [← key t q]
    exact h
def sizeD : PyData → Bool
  | .int i => decide (1 ≤ i)
  | _ => false
def ascI : List Int → Bool
  | a :: b :: t => decide (a < b) && ascI (b :: t)
  | _ => true
theorem ascI_pw : ∀ {ns : List Int}, ns.Pairwise (· < ·) → ascI ns = true
  | [], _ => rfl
  | [_], _ => rfl
  | a :: b :: t, h => by
    rw [List.pairwise_cons] at h
    show (decide (a < b) && ascI (b :: t)) = true
    rw [ascI_pw h.2, decide_eq_true (h.1 b List.mem_cons_self)]
    rfl
theorem ascI_eq : ∀ ns : List Int, ((List.range (ns.length - 1)).map fun i => decide (ns.getD i 0 < ns.getD (i + 1) 0)).all id = ascI ns
  | [] => rfl
  | [_] => rfl
  | a :: b :: t => by
    have ih := ascI_eq (b :: t)
    rw [show (a :: b :: t).length - 1 = ((b :: t).length - 1) + 1 by simp, List.range_succ_eq_map, List.map_cons, List.all_cons, List.map_map]
    show (decide (a < b) && _) = (decide (a < b) && ascI (b :: t))
    rw [← ih]
    congr 1
def setD (d : PyData) : Bool := match intsD d with
  | some ns => ascI ns
  | none => false
def divI (n : Nat) (i : Int) : Bool := decide (1 ≤ i) && decide ((n : Int) % i = 0)
def divD (n : Nat) : PyData → Bool
  | .int i => divI n i
  | _ => false
def dsetD (n : Nat) (d : PyData) : Bool := match intsD d with
  | some ns => ascI ns && ns.all (divI n)
  | none => false
theorem kd_int {K : PySem.W.Frag} (d : PyData) : PySem.W.kitOne K (.type (tyD d)) (.type "int") = some (match d with | .int _ => true | .bool _ => true | _ => false) := by
  cases d with
  | none => exact kit_ty (show kitB "NoneType" "int" = some false by decide +kernel)
  | bool x => exact kit_ty (show kitB "bool" "int" = some true by decide +kernel)
  | int x => exact kit_ty (show kitB "int" "int" = some true by decide +kernel)
  | str x => exact kit_ty (show kitB "str" "int" = some false by decide +kernel)
  | list x => exact kit_ty (show kitB "list" "int" = some false by decide +kernel)
  | tuple x => exact kit_ty (show kitB "tuple" "int" = some false by decide +kernel)
  | dict x => exact kit_ty (show kitB "dict" "int" = some false by decide +kernel)
theorem kd_bool {K : PySem.W.Frag} (d : PyData) : PySem.W.kitOne K (.type (tyD d)) (.type "bool") = some (match d with | .bool _ => true | _ => false) := by
  cases d with
  | none => exact kit_ty (show kitB "NoneType" "bool" = some false by decide +kernel)
  | bool x => exact kit_ty (show kitB "bool" "bool" = some true by decide +kernel)
  | int x => exact kit_ty (show kitB "int" "bool" = some false by decide +kernel)
  | str x => exact kit_ty (show kitB "str" "bool" = some false by decide +kernel)
  | list x => exact kit_ty (show kitB "list" "bool" = some false by decide +kernel)
  | tuple x => exact kit_ty (show kitB "tuple" "bool" = some false by decide +kernel)
  | dict x => exact kit_ty (show kitB "dict" "bool" = some false by decide +kernel)
theorem kd_tuple {K : PySem.W.Frag} (d : PyData) : PySem.W.kitOne K (.type (tyD d)) (.type "tuple") = some (match d with | .tuple _ => true | _ => false) := by
  cases d with
  | none => exact kit_ty (show kitB "NoneType" "tuple" = some false by decide +kernel)
  | bool x => exact kit_ty (show kitB "bool" "tuple" = some false by decide +kernel)
  | int x => exact kit_ty (show kitB "int" "tuple" = some false by decide +kernel)
  | str x => exact kit_ty (show kitB "str" "tuple" = some false by decide +kernel)
  | list x => exact kit_ty (show kitB "list" "tuple" = some false by decide +kernel)
  | tuple x => exact kit_ty (show kitB "tuple" "tuple" = some true by decide +kernel)
  | dict x => exact kit_ty (show kitB "dict" "tuple" = some false by decide +kernel)
theorem kd_list {K : PySem.W.Frag} (d : PyData) : PySem.W.kitOne K (.type (tyD d)) (.type "list") = some (match d with | .list _ => true | _ => false) := by
  cases d with
  | none => exact kit_ty (show kitB "NoneType" "list" = some false by decide +kernel)
  | bool x => exact kit_ty (show kitB "bool" "list" = some false by decide +kernel)
  | int x => exact kit_ty (show kitB "int" "list" = some false by decide +kernel)
  | str x => exact kit_ty (show kitB "str" "list" = some false by decide +kernel)
  | list x => exact kit_ty (show kitB "list" "list" = some true by decide +kernel)
  | tuple x => exact kit_ty (show kitB "tuple" "list" = some false by decide +kernel)
  | dict x => exact kit_ty (show kitB "dict" "list" = some false by decide +kernel)
theorem kd_str {K : PySem.W.Frag} (d : PyData) : PySem.W.kitOne K (.type (tyD d)) (.type "str") = some (match d with | .str _ => true | _ => false) := by
  cases d with
  | none => exact kit_ty (show kitB "NoneType" "str" = some false by decide +kernel)
  | bool x => exact kit_ty (show kitB "bool" "str" = some false by decide +kernel)
  | int x => exact kit_ty (show kitB "int" "str" = some false by decide +kernel)
  | str x => exact kit_ty (show kitB "str" "str" = some true by decide +kernel)
  | list x => exact kit_ty (show kitB "list" "str" = some false by decide +kernel)
  | tuple x => exact kit_ty (show kitB "tuple" "str" = some false by decide +kernel)
  | dict x => exact kit_ty (show kitB "dict" "str" = some false by decide +kernel)
/-- a part of a tuple, the whole or a new one -/
theorem slK {K : PySem.W.Frag} {H : Hp} {a : Addr} {xs : List V} {lo hi : Option Int} {Q : V → Hp → Prop} (ha : SqT K H a xs) (hw : HT.sIx xs.length 0 lo = 0 ∧ HT.sIx xs.length xs.length hi = xs.length → cutV xs lo hi = xs)
    (k : ∀ (b : Addr) (H' : Hp), Same H H' → SqT K H' b (cutV xs lo hi) → Q (.ref b) H') : rSlA K (.ref a) lo hi H Q :=
  ⟨a, xs, rfl, ha, fun c => k a H (Same.refl _) (by rw [hw c]; exact ha), fun _ p hp => k p _ (same_new hp) (.inl (.inl upd_same))⟩
end Gd

set_option Elab.async false
set_option linter.all false
set_option maxRecDepth 100000
set_option maxHeartbeats 4000000
set_option exponentiation.threshold 20000
namespace K8
open PySem PySem.Spec PyProof.Rows L2 Gd Pv RZ Po Nm
section
variable {P : Program} {w : World} {K : PySem.W.Frag} {mg : Str → Option Value} {base : Heap}
def spIsIntD (K : PySem.W.Frag) : Sp := fun vs H Q _ => ∃ (v : V) (d : PyData), vs = [v] ∧ Dp K H v d ∧ Q (.bl (isI d)) H
theorem c_is_integerD (D : At K mg "is_integer" s_is_integer ["thing"]) (z_isinstance : mg "isinstance" = none) (z_int : mg "int" = none) (z_bool : mg "bool" = none) : Cal P w K mg base 1 "is_integer" (spIsIntD K) := by
  refine okC D sc_is_integer (fun vs H Q E h => ?_) (fun f cdv A outer s H vs Q E hr h => ?_)
  · obtain ⟨v, d, rfl, _⟩ := h
    rfl
  · obtain ⟨v, d, rfl, hd, q⟩ := h
    have nd := sc_is_integer.nd
    refine ⟨_, (pss_one (ps_ret (pe_and (pe_callB call_isi (by rfl) z_isinstance (by decide +kernel) (pa_cons (pv 0) (pa_cons (pe_bltn (by rfl) z_int (by decide +kernel) (v := .ty "int") rfl) pa_nil))) (pe_one (pe_not (pe_callB call_isi (by rfl) z_isinstance (by decide +kernel) (pa_cons (pv 0) (pa_cons (pe_bltn (by rfl) z_bool (by decide +kernel) (v := .ty "bool") rfl) pa_nil)))))))), ?_⟩
    have ty := ty_of hd
    refine ⟨_, rfl, _, _, _, _, _, rfl, .ty "int", ty, kd_int d, _, rfl, ?_⟩
    cases d with
    | int i => exact iteT ⟨_, rfl, _, _, _, _, _, rfl, .ty "bool", ty, kd_bool _, _, rfl, q⟩
    | bool b => exact iteT ⟨_, rfl, _, _, _, _, _, rfl, .ty "bool", ty, kd_bool _, _, rfl, q⟩
    | none => exact iteF q
    | str x => exact iteF q
    | list x => exact iteF q
    | tuple x => exact iteF q
    | dict x => exact iteF q
def spIsSizeD (K : PySem.W.Frag) : Sp := fun vs H Q _ => ∃ (v : V) (d : PyData), vs = [v] ∧ Dp K H v d ∧ Q (.bl (sizeD d)) H
theorem c_is_sizeD (D : At K mg "is_size" s_is_size ["thing"]) (c_is_integer : Cal P w K mg base 1 "is_integer" (spIsIntD K)) : Cal P w K mg base 2 "is_size" (spIsSizeD K) := by
  refine okC D sc_is_size (fun vs H Q E h => ?_) (fun f cdv A outer s H vs Q E hr h => ?_)
  · obtain ⟨v, d, rfl, _⟩ := h
    rfl
  · obtain ⟨v, d, rfl, hd, q⟩ := h
    have nd := sc_is_size.nd
    refine ⟨_, (pss_one (ps_ret (pe_and (pe_k c_is_integer hr (by decide) (by rfl) (pa_cons (pv 0) pa_nil)) (pe_one (pe_cmpR op_ge (pv 0) pe_int (nomark _)))))), ?_⟩
    refine ⟨_, rfl, v, d, rfl, hd, isI d, rfl, ?_⟩
    cases hd with
    | int i => exact iteT ⟨_, rfl, i, 1, rfl, rfl, q⟩
    | non => exact iteF q
    | bl b => exact iteF q
    | str x => exact iteF q
    | lst h t => exact iteF q
    | tup h t => exact iteF q
def spAreIntsD (K : PySem.W.Frag) : Sp := fun vs H Q _ => ∃ (v : V) (d : PyData), vs = [v] ∧ Dp K H v d ∧ (∀ ds, d = .tuple ds → ds.length ≤ 900) ∧ ∀ H', Same H H' → Q (.bl (areI d)) H'
theorem c_are_integersD (D : At K mg "are_integers" s_are_integers ["thing"]) (c_is_integer : Cal P w K mg base 1 "is_integer" (spIsIntD K)) (z_isinstance : mg "isinstance" = none) (z_tuple : mg "tuple" = none) (z_all : mg "all" = none) :
    Cal P w K mg base 2 "are_integers" (spAreIntsD K) := by
  refine okC D sc_are_integers (fun vs H Q E h => ?_) (fun f cdv A outer s H vs Q E hr h => ?_)
  · obtain ⟨v, d, rfl, _⟩ := h
    rfl
  · obtain ⟨v, d, rfl, hd, hz, q⟩ := h
    have nd := sc_are_integers.nd
    refine ⟨_, (pss_one (ps_ret (pe_and (pe_callB call_isi (by rfl) z_isinstance (by decide +kernel) (pa_cons (pv 0) (pa_cons (pe_bltn (by rfl) z_tuple (by decide +kernel) (v := .ty "tuple") rfl) pa_nil))) (pe_one (pe_callB (cr_all rfl) (by rfl) z_all (by decide +kernel) (pa_cons (pe_lc (own := [("each", 1)]) rfl nd (pi_tup (pv 0)) (blkOk_by (N := N_are_integers) (sc := defScope s_are_integers) (by decide +kernel)) (fun _ _ _ _ _ => pg_name (i := 1) nd rfl (Or.inl rfl)) (fun _ _ _ _ _ => pts_nil) (fun _ _ _ _ _ => (pe_k c_is_integer hr (by decide) (by rfl) (pa_cons (pv 1) pa_nil)))) pa_nil)))))), ?_⟩
    have ty := ty_of hd
    refine ⟨_, rfl, _, _, _, _, _, rfl, .ty "tuple", ty, kd_tuple d, _, rfl, ?_⟩
    cases hd with
    | non => exact iteF (q H (Same.refl _))
    | bl b => exact iteF (q H (Same.refl _))
    | int b => exact iteF (q H (Same.refl _))
    | str b => exact iteF (q H (Same.refl _))
    | lst h t => exact iteF (q H (Same.refl _))
    | @tup a xs ds h t =>
      have ll : xs.length ≤ 900 := by
        rw [t.len]
        exact hz ds rfl
      refine iteT ?_
      refine ⟨_, rfl, a, rfl, ⟨_, h⟩, fun R hR => lc_it (walk_tup (xs := xs)) (fun i H' => Same H H' ∧ H' R = some (.lst (((ds.take i).map isI).map V.bl))) ⟨same_new hR, upd_same⟩ (fun _ _ _ z => Same.sqT z.1 h) ?_ ?_⟩
      · rintro i x G G' hi ⟨sG, eG⟩ ⟨eH, hx⟩
        obtain rfl := eH.symm
        obtain ⟨d, ed, hd⟩ := t.get hx
        refine ⟨rfl, _, rfl, x, d, rfl, hd.same sG, _, eG, ?_, same_own sG hR, ?_⟩
        · rw [List.length_map, List.length_map, List.length_take]
          exact small1000 (by omega)
        · rw [upd_same, List.take_succ, ed, List.map_append, List.map_append]
          rfl
      · rintro G ⟨sG, eG⟩
        rw [t.len, List.take_length] at eG
        refine ⟨R, _, rfl, .inl (.inl eG), ?_⟩
        have z := q G sG
        rw [areI_tuple] at z
        rw [show (ds.map isI).all id = ds.all isI by rw [List.all_map]; rfl]
        exact z
def spSetD (K : PySem.W.Frag) : Sp := fun vs H Q _ => ∃ (v : V) (d : PyData), vs = [v] ∧ Dp K H v d ∧ (∀ ds, d = .tuple ds → ds.length ≤ 900) ∧ ∀ H', Same H H' → Q (.bl (setD d)) H'
theorem getI {ns : List Int} {i : Nat} {x : V} (h : (ns.map V.int)[i]? = some x) : x = .int (ns.getD i 0) := by
  rw [List.getElem?_map] at h
  cases z : ns[i]? with
  | none => rw [z] at h; cases h
  | some y =>
    rw [z] at h
    cases h
    rw [List.getD_eq_getElem?_getD, z]
    rfl
theorem c_is_integer_setD (D : At K mg "is_integer_set" s_is_integer_set ["thing"]) (c_are_integers : Cal P w K mg base 2 "are_integers" (spAreIntsD K)) (z_all : mg "all" = none) (z_zip : mg "zip" = none) : Cal P w K mg base 3 "is_integer_set" (spSetD K) := by
  refine okC D sc_is_integer_set (fun vs H Q E h => ?_) (fun f cdv A outer s H vs Q E hr h => ?_)
  · obtain ⟨v, d, rfl, _⟩ := h
    rfl
  · obtain ⟨v, d, rfl, hd, hz, q⟩ := h
    have nd := sc_is_integer_set.nd
    refine ⟨_, (pss_one (ps_ret (pe_and (pe_k c_are_integers hr (by decide) (by rfl) (pa_cons (pv 0) pa_nil)) (pe_one (pe_callB (cr_all rfl) (by rfl) z_all (by decide +kernel) (pa_cons (pe_lc (own := [("low", 1), ("high", 2)]) rfl nd (pi_zipA (by rfl) z_zip (pa_cons (pv 0) (pa_cons (pe_slice sl_tupA (pv 0) (po_some pe_int) po_none) pa_nil))) (blkOk_by (N := N_is_integer_set) (sc := defScope s_is_integer_set) (by decide +kernel)) (g := gTup K 2 (gCons (gName 1) (gCons (gName 2) gNil))) (fun _ _ _ _ _ => (pg_tup rfl (pgs_cons (pg_name (i := 1) nd rfl (.inl rfl)) (pgs_cons (pg_name (i := 2) nd rfl (.inl rfl)) pgs_nil)))) (fun _ _ _ _ _ => pts_nil) (fun _ _ _ _ _ => (pe_cmpR op_lt (pv 1) (pv 2) (nomark _)))) pa_nil)))))), ?_⟩
    refine ⟨_, rfl, v, d, rfl, hd, hz, fun H1 s1 => ⟨_, rfl, ?_⟩⟩
    cases e : intsD d with
    | none =>
      rw [show areI d = false by unfold areI; rw [e]; rfl]
      have z := q H1 s1
      rw [show setD d = false by unfold setD; rw [e]] at z
      exact iteF z
    | some ss =>
      rw [show areI d = true by unfold areI; rw [e]; rfl]
      refine iteT ?_
      obtain ⟨a, rfl, ha, rfl⟩ := (hd.same s1).ints e
      have hn2 : ss.length ≤ 900 := by
        have := hz _ rfl
        rwa [List.length_map] at this
      refine ⟨_, rfl, _, rfl, _, rfl, ?_⟩
      dsimp only [tNoPart]
      refine slK ha (fun c => ?_) fun b H2 s2 hb => ?_
      · have h1 := c.1
        rw [List.length_map, show (1 : Int) = ((1 : Nat) : Int) from rfl, HT.sIx_nat] at h1
        have h2 : ss = [] := List.eq_nil_of_length_eq_zero (by omega)
        rw [h2]
        rfl
      rw [cut1] at hb
      refine ⟨a, b, _, _, rfl, .inr ⟨Same.sqT s2 ha, hb, fun R hR => lc_it (walk_zT (xs := ss.map V.int) (ys := (ss.drop 1).map V.int) (n := (ss.drop 1).length) (by rw [List.length_map, List.length_drop]; omega) (by rw [List.length_map]; omega) (.inr (by rw [List.length_map])))
          (fun i H' => Same H2 H' ∧ H' R = some (.lst (((List.range i).map fun i => decide (ss.getD i 0 < ss.getD (i + 1) 0)).map V.bl))) ⟨same_new hR, upd_same⟩ (fun _ _ _ z => ⟨Same.sqT (s2.trans z.1) ha, Same.sqT z.1 hb⟩) ?_ ?_⟩⟩
      · rintro i x G G' hi ⟨sG, eG⟩ ⟨T, x1, x2, rfl, nT, rfl, e1, e2⟩
        rw [List.length_drop] at hi
        have g1 := getI e1
        have g2 := getI e2
        have g3 : (ss.drop 1).getD i 0 = ss.getD (i + 1) 0 := by
          rw [List.getD_eq_getElem?_getD, List.getElem?_drop, List.getD_eq_getElem?_getD, Nat.add_comm]
        rw [g3] at g2
        subst g1 g2
        have sT := same_new (o := .tup [V.int (ss.getD i 0), .int (ss.getD (i + 1) 0)]) nT
        refine ⟨T, _, rfl, .inl (.inl upd_same), rfl, _, _, rfl, _, _, rfl, rfl, rfl, _, rfl, _, rfl, _, _, rfl, rfl, ?_⟩
        refine ⟨_, sT _ _ eG, ?_, same_own (sG.trans sT) hR, ?_⟩
        · rw [List.length_map, List.length_map, List.length_range]
          exact small1000 (by omega)
        · rw [upd_same, List.range_succ, List.map_append, List.map_append]
          rfl
      · rintro G ⟨sG, eG⟩
        refine ⟨R, _, rfl, .inl (.inl eG), ?_⟩
        have z := q G (s1.trans (s2.trans sG))
        rw [show setD (.tuple (ss.map PyData.int)) = ascI ss by unfold setD; rw [intsD_map]] at z
        rw [List.length_drop, ascI_eq]
        exact z
def spDivD (K : PySem.W.Frag) : Sp := fun vs H Q _ => ∃ (n : Nat) (v : V) (d : PyData), vs = [.int (n : Nat), v] ∧ Dp K H v d ∧ Q (.bl (divD n d)) H
theorem c_is_divisorD (D : At K mg "is_divisor" s_is_divisor ["number", "thing"]) (c_is_size : Cal P w K mg base 2 "is_size" (spIsSizeD K)) : Cal P w K mg base 3 "is_divisor" (spDivD K) := by
  refine okC D sc_is_divisor (fun vs H Q E h => ?_) (fun f cdv A outer s H vs Q E hr h => ?_)
  · obtain ⟨n, v, d, rfl, _⟩ := h
    rfl
  · obtain ⟨n, v, d, rfl, hd, q⟩ := h
    have nd := sc_is_divisor.nd
    refine ⟨_, (pss_one (ps_ret (pe_and (pe_k c_is_size hr (by decide) (by rfl) (pa_cons (pv 1) pa_nil)) (pe_one (pe_cmpR op_eq (pe_op op_modN (pv 0) (pv 1)) pe_int (nomark _)))))), ?_⟩
    refine ⟨_, rfl, v, d, rfl, hd, _, rfl, ?_⟩
    cases hd with
    | int i =>
      refine ite2 (fun c => ?_) (fun c => ?_)
      · have c1 : 1 ≤ i := of_decide_eq_true c
        refine ⟨_, rfl, _, rfl, _, _, rfl, rfl, by omega, rfl, ?_⟩
        have z : divD n (.int i) = decide (V.int ((n : Int).fmod i) = V.int 0) := by
          show (decide (1 ≤ i) && decide ((n : Int) % i = 0)) = _
          rw [decide_eq_true c1, Bool.true_and, Int.fmod_eq_emod_of_nonneg _ (by omega)]
          by_cases y : (n : Int) % i = 0
          · rw [decide_eq_true y, decide_eq_true (by rw [y])]
          · rw [decide_eq_false y, decide_eq_false fun x => y (V.int.inj x)]
        rw [z] at q
        exact q
      · have c1 : ¬ 1 ≤ i := fun z => c (decide_eq_true z)
        have z : divD n (.int i) = false := by
          show (decide (1 ≤ i) && decide ((n : Int) % i = 0)) = _
          rw [decide_eq_false c1]
          rfl
        rw [z] at q
        exact q
    | non => exact iteF q
    | bl b => exact iteF q
    | str x => exact iteF q
    | lst h t => exact iteF q
    | tup h t => exact iteF q
def spDsetD (K : PySem.W.Frag) : Sp := fun vs H Q _ => ∃ (n : Nat) (v : V) (d : PyData), vs = [.int (n : Nat), v] ∧ Dp K H v d ∧ (∀ ds, d = .tuple ds → ds.length ≤ 900) ∧ ∀ H', Same H H' → Q (.bl (dsetD n d)) H'
theorem c_is_divisor_setD (D : At K mg "is_divisor_set" s_is_divisor_set ["number", "thing"]) (c_is_integer_set : Cal P w K mg base 3 "is_integer_set" (spSetD K)) (c_is_divisor : Cal P w K mg base 3 "is_divisor" (spDivD K)) (z_all : mg "all" = none) : Cal P w K mg base 4 "is_divisor_set" (spDsetD K) := by
  refine okC D sc_is_divisor_set (fun vs H Q E h => ?_) (fun f cdv A outer s H vs Q E hr h => ?_)
  · obtain ⟨n, v, d, rfl, _⟩ := h
    rfl
  · obtain ⟨n, v, d, rfl, hd, hz, q⟩ := h
    have nd := sc_is_divisor_set.nd
    refine ⟨_, (pss_one (ps_ret (pe_and (pe_k c_is_integer_set hr (by decide) (by rfl) (pa_cons (pv 1) pa_nil)) (pe_one (pe_callB (cr_all rfl) (by rfl) z_all (by decide +kernel) (pa_cons (pe_lc (own := [("divisor", 2)]) rfl nd (pi_tup (pv 1)) (blkOk_by (N := N_is_divisor_set) (sc := defScope s_is_divisor_set) (by decide +kernel)) (fun _ _ _ _ _ => pg_name (i := 2) nd rfl (Or.inl rfl)) (fun _ _ _ _ _ => pts_nil) (fun _ _ _ _ _ => (pe_k c_is_divisor hr (by decide) (by rfl) (pa_cons (pv 0) (pa_cons (pv 2) pa_nil))))) pa_nil)))))), ?_⟩
    refine ⟨_, rfl, v, d, rfl, hd, hz, fun H1 s1 => ⟨_, rfl, ?_⟩⟩
    cases e : intsD d with
    | none =>
      rw [show setD d = false by unfold setD; rw [e]]
      have z := q H1 s1
      rw [show dsetD n d = false by unfold dsetD; rw [e]] at z
      exact iteF z
    | some ss =>
      rw [show setD d = ascI ss by unfold setD; rw [e]]
      have ez : dsetD n d = (ascI ss && ss.all (divI n)) := by unfold dsetD; rw [e]
      rw [ez] at q
      obtain ⟨a, rfl, ha, rfl⟩ := (hd.same s1).ints e
      have hn2 : ss.length ≤ 900 := by
        have := hz _ rfl
        rwa [List.length_map] at this
      refine ite2 (fun c => ?_) (fun c => ?_)
      · refine ⟨_, rfl, a, rfl, ⟨_, ha⟩, fun R hR => lc_it (walk_tup (xs := ss.map V.int)) (fun i H' => Same H1 H' ∧ H' R = some (.lst (((ss.take i).map (divI n)).map V.bl))) ⟨same_new hR, upd_same⟩ (fun _ _ _ z => Same.sqT z.1 ha) ?_ ?_⟩
        · rintro i x G G' hi ⟨sG, eG⟩ ⟨eH, hx⟩
          obtain rfl := eH.symm
          rw [List.length_map] at hi
          rw [List.getElem?_map, List.getElem?_eq_getElem hi] at hx
          obtain rfl : x = .int ss[i] := (Option.some.inj hx).symm
          refine ⟨rfl, _, rfl, _, rfl, n, _, _, rfl, .int ss[i], _, eG, ?_, same_own sG hR, ?_⟩
          · rw [List.length_map, List.length_map, List.length_take]
            exact small1000 (by omega)
          · rw [upd_same, List.take_succ, List.getElem?_eq_getElem hi, List.map_append, List.map_append]
            rfl
        · rintro G ⟨sG, eG⟩
          rw [List.length_map, List.take_length] at eG
          refine ⟨R, _, rfl, .inl (.inl eG), ?_⟩
          have z := q G (s1.trans sG)
          rw [c, Bool.true_and] at z
          rw [show (ss.map (divI n)).all id = ss.all (divI n) by rw [List.all_map]; rfl]
          exact z
      · have c1 : ascI ss = false := by
          cases z : ascI ss with
          | false => rfl
          | true => exact absurd z c
        have z := q H1 s1
        rw [c1, Bool.false_and] at z
        exact z
end
end K8

set_option Elab.async false
set_option linter.all false
set_option maxRecDepth 100000
set_option maxHeartbeats 4000000
/-! Defs that raise: what a name promises, errors of two fields. -/
namespace Gd
open PySem PySem.Spec PyProof.Rows L2
structure CalX (P : Program) (w : World) (K : PySem.W.Frag) (mg : Str → Option Value) (base : Heap) (k : Nat) (x : Str) (sp : Sp) : Prop where
  ex : ∃ f fd ps, mg x = some (.ref f) ∧ PySem.W.keepIn K (.ref f) = true ∧ Binds K fd ps [] ∧ FnOk P w K mg base (L2.CX P w) k f fd ps sp
section
variable {P : Program} {w : World} {K : PySem.W.Frag} {mg : Str → Option Value} {base : Heap}
theorem okCX {x : String} {st : Stmt} {N ps : List Str} {k : Nat} {sp : Sp} (D : At K mg x st ps) (S : FnScope N ps (defScope st)) (len : ∀ vs H Q E, sp vs H Q E → vs.length = ps.length)
    (body : ∀ (f : Addr) (cdv : Value) (A : Around) (outer : List Env) (s : Shared) (H : Hp) (vs : List V) (Q : VK) (E : XK), Room k (A.deeper (envOfC x (defScope st) s.heap.objs.size f cdv)) → sp vs H Q E →
      ∃ t, PSs (cxOf (L2.CX P w) P w K mg base N x (defScope st) f cdv A outer s H E) (defBody st) t ∧ t { nx := fun _ H' => Q .non H', rt := Q } (start N vs) H) : CalX P w K mg base (k + 1) x sp := by
  obtain ⟨f, fd, hm, F, hb⟩ := D.ex
  exact ⟨f, fd, ps, hm, F.kp, hb, F.okX S len fun cdv A outer s H vs Q E hr h => body f cdv A outer s H vs Q E hr h⟩
end
section
variable {X : Cx} {j k : Nat} {sp : Sp} {x : Str} {p pos : Pos} {e : Expr} {es : List Expr} {t : TA} {W : WX}
theorem pe_kX (c : CalX X.prog X.w X.K X.mg X.base k x sp) (tk : Takes X W) (hr : Room j X.A) (hk : k ≤ j) (hg : Gl X x) (ha : PA X (e :: es) t) (hdb : (x == ("__debug__" : Str)) = false := by decide)
    (he : starEach (e :: es) X.env = (false, eval e X.env) :: starEach es X.env := by rfl) (hpl : (backTo pos (starEach es X.env)).any (·.1) = false := by rfl) :
    PE X (.Call (.Name x p) (e :: es) [] pos) (tCallS sp (WE W) t) := by
  obtain ⟨f, fd, ps, hm, hkp, hb, F⟩ := c.ex
  exact pe_callS F (hr.mono hk) hg hm hkp hb (fun σ => passAt tk σ) ha hdb he hpl
end
/-- an error of the class at C with two fields, new -/
def XdAt (H : Hp) (d : Addr) (f1 f2 : Str) (v1 v2 : V) : Prop := ∃ fs, H d = some (.xd fs) ∧ fs.lookup f1 = some v1 ∧ fs.lookup f2 = some v2
/-- what such a class's __init__ does -/
def spInit2 (f1 f2 : Str) (C : Addr) : Sp := fun vs H Q _ => ∃ (a : Addr) (v1 v2 : V), vs = [.ref a, v1, v2] ∧ H a = some (exo a C none) ∧
  ∀ d, H d = none → d ≠ a → Q .non (upd (upd (upd H d (exd d [(f1, v1)])) a (exo a C (some d))) d (exd d [(f2, v2), (f1, v1)]))
/-- what the text says of such a class: its __init__ stores two fields -/
structure Err2 (K : PySem.W.Frag) (mg : Str → Option Value) (x : Str) (f1 f2 : Str) (C : Addr) : Prop where
  mgC : mg x = some (.ref C)
  oex : OexC K C
  ne : f1 ≠ f2
  init : ∃ fI, PySem.W.findIn K (.ref C) "__init__" = some (some (.ref fI)) ∧ PySem.W.typeIn K (.ref fI) = some (.type "function") ∧ ∀ (P : Program) (w : World) (base : Heap), ∃ fd ps, Binds K fd ps [] ∧ FnOk P w K mg base CX0 1 fI fd ps (spInit2 f1 f2 C)
section
variable {X : Cx} {W : WX} {e1 e2 : Expr} {t : TA} {p pos pos2 : Pos} {j : Nat} {x f1 f2 : Str} {C : Addr}
theorem ps_raise2 (hc : X.calm = true) (tk : Takes X W) (T : Err2 X.K X.mg x f1 f2 C) (hr : Room j X.A) (hj : 2 ≤ j) (hg : Gl X x) (ha : PA X [e1, e2] t) (hx : Passes CX0 X (fun _ _ _ => False)) (hdb : (x == ("__debug__" : Str)) = false := by decide)
    (he : starEach [e1, e2] X.env = (false, eval e1 X.env) :: starEach [e2] X.env := by rfl) (hpl : (backTo pos (starEach [e2] X.env)).any (·.1) = false := by rfl) :
    PS X (.Raise (some (.Call (.Name x p) [e1, e2] [] pos)) none pos2) (fun _ σ H => tMkO C (spInit2 f1 f2 C) [] t σ H fun cls d H' => W cls d σ H') := by
  obtain ⟨fI, iC, tI, hF⟩ := T.init
  obtain ⟨fd, ps, hb, F⟩ := hF X.prog X.w X.base
  exact ps_raise (pos := pos2) hc tk (pmk_oex (p := p) (dvs := []) T.oex iC tI F (hr.mono hj) hb .nil hx hg T.mgC ha hdb he hpl)
end
/-- its reading, behind the two values -/
theorem made2 {K : PySem.W.Frag} {mg : Str → Option Value} {x f1 f2 : Str} {C : Addr} {H : Hp} {v1 v2 : V} {Q : XK} (T : Err2 K mg x f1 f2 C) (k : ∀ (d : Addr) (H' : Hp), Same H H' → XdAt H' d f1 f2 v1 v2 → Q (.ref C) (some d) H') :
    [v1, v2].length ≤ 1000 ∧ ∀ a, H a = none → spInit2 f1 f2 C (.ref a :: ([v1, v2] ++ [])) (upd H a (exo a C none))
      (fun v H2 => v = .non ∧ ∃ (d : Addr) (fs : List (Str × V)), H2 a = some (exo a C (some d)) ∧ H2 d = some (exd d fs) ∧ H d = none ∧ Q (.ref C) (some d) (upd (del H2 a) d (.xd fs))) (fun _ _ _ => False) := by
  refine ⟨(by show 2 ≤ 1000; decide), fun a ha => ⟨a, v1, v2, rfl, upd_same, fun d hd hne => ⟨rfl, d, [(f2, v2), (f1, v1)], ?_, upd_same, ?_, k d _ ?_ ?_⟩⟩⟩
  · rw [upd_ne hne.symm, upd_same]
  · rwa [upd_ne hne] at hd
  · have hd2 : H d = none := by rwa [upd_ne hne] at hd
    intro b o e
    have n1 : b ≠ d := fun z => by rw [z, hd2] at e; cases e
    have n2 : b ≠ a := fun z => by rw [z, ha] at e; cases e
    rw [upd_ne n1, del_ne n2, upd_ne n1, upd_ne n2, upd_ne n1, upd_ne n2]
    exact e
  · refine ⟨_, upd_same, ?_, ?_⟩
    · show List.lookup f1 [(f2, v2), (f1, v1)] = _
      rw [List.lookup_cons]
      rw [show (f1 == f2) = false from beq_false_of_ne T.ne]
      simp
    · simp
end Gd

set_option Elab.async false
set_option linter.all false
set_option maxRecDepth 100000
set_option maxHeartbeats 4000000
set_option exponentiation.threshold 20000
namespace K8
open PySem PySem.Spec PyProof.Rows L2 Gd Pv RZ Po Nm
section
variable {P : Program} {w : World} {K : PySem.W.Frag} {mg : Str → Option Value} {base : Heap}
def clsBody : Stmt → List Stmt
  | .ClassDef (body := b) .. => b
  | _ => []
abbrev s_NotUsable_init : Stmt := (clsBody (topS 5)).getD 0 (.Pass ⟨0, 0, 0, 0⟩)
theorem sc_NotUsable_init : FnScope ["self", "word", "at"] ["self", "word", "at"] (defScope s_NotUsable_init) := ⟨rfl, rfl, rfl, by decide +kernel, rfl, by decide +kernel, by decide +kernel⟩
theorem nu_err {K : PySem.W.Frag} {mg : Str → Option Value} {C fI : Addr} {fd : FuncData} (mgC : mg "NotUsable" = some (.ref C)) (oex : OexC K C) (n1 : PySem.W.findIn K (.ref C) "word" = some none) (n2 : PySem.W.findIn K (.ref C) "at" = some none)
    (iC : PySem.W.findIn K (.ref C) "__init__" = some (some (.ref fI))) (tI : PySem.W.typeIn K (.ref fI) = some (.type "function")) (F : Fun K "__init__" "NotUsable.__init__" s_NotUsable_init fI fd) (hb : Binds K fd ["self", "word", "at"] []) : Err2 K mg "NotUsable" "word" "at" C := by
  refine ⟨mgC, oex, by decide, fI, iC, tI, fun P w base => ⟨fd, _, hb, F.ok sc_NotUsable_init (fun vs H Q E h => ?_) fun cdv A outer s H vs Q E hr h => ?_⟩⟩
  · obtain ⟨a, v1, v2, rfl, _⟩ := h
    rfl
  · obtain ⟨a, v1, v2, rfl, ha, q⟩ := h
    refine ⟨_, pss_cons (ps_ost (pv 0) (pv 1)) (pss_one (ps_ost (pv 0) (pv 2))), ?_⟩
    refine ⟨_, rfl, _, rfl, a, C, rfl, oex, n1, .inl ⟨ha, fun d hd hne => ?_⟩⟩
    refine ⟨_, rfl, _, rfl, a, C, rfl, oex, n2, .inr ⟨d, _, upd_same, ?_, (by show 1 ≤ 900; decide), q d hd hne⟩⟩
    rw [upd_ne hne, upd_same]
/-- the error of a value that is not as stated -/
def Nu (C : Addr) (word : Str) (H : Hp) (E : XK) : Prop := ∀ (d : Addr) (H' : Hp), Same H H' → XdAt H' d "word" "at" (.str word) (.int (-1)) → E (.ref C) (some d) H'
theorem Nu.same {C : Addr} {word : Str} {H H' : Hp} {E : XK} (s : Same H H') (h : Nu C word H E) : Nu C word H' E := fun d G s2 => h d G (s.trans s2)
def spNeedX (C : Addr) : Sp := fun vs H _ E => ∃ word, vs = [.bl false, .str word] ∧ Nu C word H E
theorem c_needX {C : Addr} (T : Err2 K mg "NotUsable" "word" "at" C) (D : At K mg "need" s_need ["fits", "word"]) : CalX P w K mg base 3 "need" (spNeedX C) := by
  refine okCX D sc_need (fun vs H Q E h => ?_) (fun f cdv A outer s H vs Q E hr h => ?_)
  · obtain ⟨word, rfl, _⟩ := h
    rfl
  · obtain ⟨word, rfl, q⟩ := h
    have nd := sc_need.nd
    refine ⟨_, (pss_one (ps_if (pt_not (pt_val (pv 0)))
      (pss_one (ps_raise2 rfl (takes_of rfl rfl rfl rfl) T hr (by decide) (by rfl) (pa_cons (pv 1) (pa_cons (pe_un un_neg pe_int) pa_nil)) pass0))
      pss_nil)), ?_⟩
    refine ⟨_, rfl, false, rfl, iteT ?_⟩
    exact ⟨_, rfl, _, rfl, made2 T q⟩
/-- need_divisors of what is none -/
def spNeedDX (C : Addr) (K : PySem.W.Frag) : Sp := fun vs H _ E => ∃ (v1 v2 : V) (d1 : PyData), vs = [v1, v2] ∧ Dp K H v1 d1 ∧
  ((sizeD d1 = false ∧ Nu C "size" H E) ∨ ∃ (n : Nat) (d2 : PyData), v1 = .int (n : Nat) ∧ 1 ≤ n ∧ Dp K H v2 d2 ∧ (∀ ds, d2 = .tuple ds → ds.length ≤ 900) ∧ dsetD n d2 = false ∧ Nu C "divisors" H E)
theorem c_need_divisorsX {C : Addr} (D : At K mg "need_divisors" s_need_divisors ["size", "divisors"]) (c_needX : CalX P w K mg base 3 "need" (spNeedX C)) (c_need : Cal P w K mg base 1 "need" spNeed) (c_is_size : Cal P w K mg base 2 "is_size" (spIsSizeD K)) (c_is_divisor_set : Cal P w K mg base 4 "is_divisor_set" (spDsetD K)) :
    CalX P w K mg base 5 "need_divisors" (spNeedDX C K) := by
  refine okCX D sc_need_divisors (fun vs H Q E h => ?_) (fun f cdv A outer s H vs Q E hr h => ?_)
  · obtain ⟨v1, v2, d1, rfl, _⟩ := h
    rfl
  · obtain ⟨v1, v2, d1, rfl, h1, h⟩ := h
    have nd := sc_need_divisors.nd
    rcases h with ⟨z1, q⟩ | ⟨n, d2, rfl, n1, h2, hz, z2, q⟩
    · refine ⟨_, (pss_cons (ps_expr (pe_kX c_needX (takes_of rfl rfl rfl rfl) hr (by decide) (by rfl) (pa_cons (pe_k c_is_size hr (by decide) (by rfl) (pa_cons (pv 0) pa_nil)) (pa_cons pe_str pa_nil))))
        (pss_one ps_never)), ?_⟩
      exact ⟨_, rfl, _, d1, rfl, h1, "size", by rw [z1], q⟩
    · refine ⟨_, (pss_cons (ps_expr (pe_k c_need hr (by decide) (by rfl) (pa_cons (pe_k c_is_size hr (by decide) (by rfl) (pa_cons (pv 0) pa_nil)) (pa_cons pe_str pa_nil))))
        (pss_one (ps_expr (pe_kX c_needX (takes_of rfl rfl rfl rfl) hr (by decide) (by rfl) (pa_cons (pe_k c_is_divisor_set hr (by decide) (by rfl) (pa_cons (pv 0) (pa_cons (pv 1) pa_nil))) (pa_cons pe_str pa_nil)))))), ?_⟩
      refine ⟨_, rfl, _, _, rfl, .int n, _, by rw [show sizeD (.int (n : Nat)) = true from decide_eq_true (by omega)], ?_⟩
      refine ⟨_, rfl, _, rfl, n, _, d2, rfl, h2, hz, fun H1 s1 => ⟨"divisors", by rw [z2], q.same s1⟩⟩
end
end K8

set_option Elab.async false
set_option linter.all false
set_option maxRecDepth 100000
/-! Polynomials told by their values. -/
namespace Po
open Pv Nm
theorem ev_cons (t x : Int) (xs : List Int) : ev t (x :: xs) = ev t xs * t + x := rfl
theorem ev_zero : ∀ {xs : List Int}, (∀ t : Int, 2 ≤ t → ev t xs = 0) → ∀ x ∈ xs, x = 0
  | [], _, x, hx => absurd hx List.not_mem_nil
  | y :: ys, h, x, hx => by
    have y0 : y = 0 := by
      have h1 := h ((y.natAbs : Int) + 2) (by omega)
      rw [ev_cons] at h1
      have d : ((y.natAbs : Int) + 2) ∣ y := ⟨-ev ((y.natAbs : Int) + 2) ys, by rw [Int.mul_neg, Int.mul_comm]; omega⟩
      exact Int.eq_zero_of_dvd_of_natAbs_lt_natAbs d (by omega)
    rcases List.mem_cons.mp hx with z | z
    · rw [z, y0]
    · refine ev_zero (fun t ht => ?_) x z
      have h1 := h t ht
      rw [ev_cons, y0, Int.add_zero] at h1
      rcases Int.mul_eq_zero.mp h1 with q | q
      · exact q
      · omega
theorem ev_add_of {t : Int} {n : Nat} {F G : Int → Int} : ev t (of n fun i => F i - G i) = ev t (of n F) - ev t (of n G) := by
  induction n generalizing F G with
  | zero => rfl
  | succ n ih =>
    have e : ∀ F : Int → Int, of (n + 1) F = F 0 :: of n fun i => F (i + 1) := fun F => by
      unfold of
      rw [List.range_succ_eq_map, List.map_cons, List.map_map]
      congr 1
    rw [e, e F, e G, ev_cons, ev_cons, ev_cons, ih, Int.sub_mul]
    omega
theorem co_padP {xs : List Int} {m : Nat} (h : xs.length ≤ m) : xs ++ List.replicate (m - xs.length) 0 = of m (co xs) := by
  refine List.ext_getElem (by rw [List.length_append, List.length_replicate, of_len]; omega) fun i h1 h2 => ?_
  rw [of_len] at h2
  have z := of_get (F := co xs) h2
  rw [List.getElem?_eq_getElem (by rw [of_len]; exact h2)] at z
  rw [Option.some.inj z]
  by_cases y : i < xs.length
  · rw [List.getElem_append_left y, co_get y]
  · rw [List.getElem_append_right (by omega), List.getElem_replicate, co_big (by omega)]
theorem ev_of_co {t : Int} {xs : List Int} {n : Nat} (h : xs.length ≤ n) : ev t (of n (co xs)) = ev t xs := by
  rw [← co_padP h]
  have key : ∀ (xs : List Int) (k : Nat), ev t (xs ++ List.replicate k 0) = ev t xs := by
    intro xs k
    induction xs with
    | nil =>
      induction k with
      | zero => rfl
      | succ k ih =>
        rw [List.replicate_succ]
        show ev t (List.replicate k 0) * t + 0 = 0
        rw [show ev t (List.replicate k 0) = 0 from ih]
        omega
    | cons x xs ih =>
      show ev t (xs ++ List.replicate k 0) * t + x = ev t xs * t + x
      rw [ih]
  exact key xs _
theorem ev_inj {xs ys : List Int} (h : ∀ t : Int, 2 ≤ t → ev t xs = ev t ys) (i : Int) : co xs i = co ys i := by
  by_cases z : 0 ≤ i
  · obtain ⟨j, rfl⟩ := Int.eq_ofNat_of_zero_le z
    have h2 := ev_zero (xs := of (max (max xs.length ys.length) (j + 1)) fun i => co xs i - co ys i) (fun t ht => by
      rw [ev_add_of, ev_of_co (by omega), ev_of_co (by omega), h t ht, Int.sub_self])
    have h3 := of_get (n := max (max xs.length ys.length) (j + 1)) (F := fun i => co xs i - co ys i) (j := j) (by omega)
    have h4 := h2 _ (List.mem_of_getElem? h3)
    show co xs (j : Int) = co ys (j : Int)
    have h5 : co xs (j : Int) - co ys (j : Int) = 0 := h4
    omega
  · rw [co_neg (by omega), co_neg (by omega)]
theorem nf_ev {xs ys : List Int} (hx : Nf xs) (hy : Nf ys) (h : ∀ t : Int, 2 ≤ t → ev t xs = ev t ys) : xs = ys := nf_ext hx hy (ev_inj h)
theorem ev_tr (t : Int) (xs : List Int) : ev t (tr xs) = ev t xs := by
  rw [← ev_of_co (t := t) (Nat.le_max_left (tr xs).length xs.length), ← ev_of_co (t := t) (Nat.le_max_right (tr xs).length xs.length)]
  exact congrArg (ev t) (of_congr fun j _ => co_tr xs j)
theorem ml_assoc (a b c : List Int) : ml (ml a b) c = ml a (ml b c) := nf_ev (nf_tr _) (nf_tr _) fun t _ => by rw [ev_ml, ev_ml, ev_ml, ev_ml, Int.mul_assoc]
/-- monic ones: product and degree -/
theorem mo_ml {f g : List Int} (hf : Mo f) (hg : Mo g) : Mo (ml f g) ∧ (ml f g).length + 1 = f.length + g.length := by
  have l1 := hf.len
  have l2 := hg.len
  have top : co (ml f g) (((f.length - 1) + (g.length - 1) : Nat) : Int) = 1 := by
    rw [co_ml]
    obtain ⟨k, hk⟩ : ∃ k, f.length = k + 1 := ⟨f.length - 1, by omega⟩
    rw [hk]
    show S k _ + co f (k : Int) * co g _ = 1
    have e1 : S k (fun j => co f j * co g ((((k + 1 - 1) + (g.length - 1) : Nat) : Int) - j)) = 0 := by
      rw [show (fun j : Int => co f j * co g ((((k + 1 - 1) + (g.length - 1) : Nat) : Int) - j)) = _ from rfl]
      refine (S_congr (G := fun _ => 0) fun j hj => ?_).trans (by induction k with | zero => rfl | succ k ih => exact S_zero _)
      rw [hg.big _ (by omega), Int.mul_zero]
    rw [e1, Int.zero_add, show (((k + 1 - 1) + (g.length - 1) : Nat) : Int) - (k : Int) = ((g.length - 1 : Nat) : Int) by omega, hg.top, Int.mul_one]
    have := hf.top
    rwa [show f.length - 1 = k by omega] at this
  have big : ∀ i : Int, (((f.length - 1) + (g.length - 1) : Nat) : Int) < i → co (ml f g) i = 0 := fun i hi => by
    rw [co_ml]
    exact mu_big (m := g.length) (fun _ => co_big) i (by omega)
  have nf := nf_tr (of (f.length + g.length) (mu f.length (co f) (co g)))
  have e : (ml f g).length = (f.length - 1) + (g.length - 1) + 1 := by
    rcases nf with z | ⟨ys, y, hy, z⟩
    · have z : ml f g = [] := z
      rw [z, co_nil] at top
      omega
    · have z : ml f g = ys ++ [y] := z
      have h1 : co (ml f g) (ys.length : Int) = y := by
        rw [z, co_append, if_neg (by omega), Int.sub_self]
        rfl
      rw [z, List.length_append, List.length_singleton]
      rcases Nat.lt_trichotomy ys.length ((f.length - 1) + (g.length - 1)) with q | q | q
      · rw [co_big (by rw [z, List.length_append, List.length_singleton]; omega)] at top
        omega
      · omega
      · rw [big _ (by omega)] at h1
        exact absurd h1.symm hy
  refine ⟨?_, by omega⟩
  rcases snoc_cases (ml f g) with z | ⟨ys, y, z⟩
  · rw [z] at e
    cases e
  · refine ⟨ys, ?_⟩
    rw [z, List.length_append, List.length_singleton] at e
    rw [z, co_append, if_neg (by omega), show (((f.length - 1) + (g.length - 1) : Nat) : Int) - ((ys.length : Nat) : Int) = 0 by omega] at top
    have : y = 1 := top
    rw [z, this]
end Po

set_option Elab.async false
set_option linter.all false
set_option maxRecDepth 100000
/-! Division told by values; products of a clock's own polynomials. -/
namespace Po
open Pv Nm
theorem run_fac (d : Nat) (B : Int → Int) : ∀ (m : Nat) (R : Int → Int) (i : Int), R i = mu m (co (fac d B m R)) B i + run d B m R i
  | 0, R, i => by
    show R i = S 0 _ + R i
    show R i = 0 + R i
    omega
  | m + 1, R, i => by
    have h := run_fac d B m (stp d B R m) i
    have hl := fac_len d B m (stp d B R m)
    have e1 : mu (m + 1) (co (fac d B (m + 1) R)) B i = mu m (co (fac d B m (stp d B R m))) B i + R ((m : Int) + d) * B (i - m) := by
      show S m (fun j => co (fac d B m (stp d B R m) ++ [R ((m : Int) + d)]) j * B (i - j)) + co (fac d B m (stp d B R m) ++ [R ((m : Int) + d)]) (m : Int) * B (i - m) = _
      congr 1
      · refine S_congr fun j hj => ?_
        rw [co_append, if_pos (by rw [hl]; omega)]
      · congr 1
        rw [co_append, if_neg (by rw [hl]; omega), hl, Int.sub_self]
        rfl
    rw [e1]
    show _ = _ + run d B m (stp d B R m) i
    have h2 : stp d B R m i = R i - R ((m : Int) + d) * B (i - m) := rfl
    omega
theorem ev_div {xs ds : List Int} (m : Mo ds) (h : ds.length ≤ xs.length + 1) (t : Int) : ev t xs = ev t (ql xs ds) * ev t ds + ev t (rs xs ds) := by
  have l1 := m.len
  have hq : (ql xs ds).length = xs.length - (ds.length - 1) := fac_len _ _ _ _
  have e1 : ∀ i, co xs i - co (ml (ql xs ds) ds) i = run (ds.length - 1) (co ds) (xs.length - (ds.length - 1)) (co xs) i := fun i => by
    have h1 := run_fac (ds.length - 1) (co ds) (xs.length - (ds.length - 1)) (co xs) i
    rw [co_ml, hq]
    show co xs i - mu _ (co (fac (ds.length - 1) (co ds) (xs.length - (ds.length - 1)) (co xs))) _ i = _
    omega
  have hml := Nat.le_trans (tr_len (of ((ql xs ds).length + ds.length) (mu (ql xs ds).length (co (ql xs ds)) (co ds)))) (Nat.le_of_eq (of_len _ _))
  have hml2 : (ml (ql xs ds) ds).length ≤ xs.length + ds.length := Nat.le_trans hml (by omega)
  have e2 := ev_add_of (t := t) (n := xs.length + ds.length) (F := co xs) (G := co (ml (ql xs ds) ds))
  rw [ev_of_co (by omega), ev_of_co hml2, ev_ml] at e2
  have top : ∀ i : Int, ((ds.length - 1 : Nat) : Int) ≤ i → run (ds.length - 1) (co ds) (xs.length - (ds.length - 1)) (co xs) i = 0 := run_top m.top m.big _ _ fun i hi => co_big (by omega)
  have neg : ∀ i : Int, i < 0 → run (ds.length - 1) (co ds) (xs.length - (ds.length - 1)) (co xs) i = 0 := run_neg (fun i hi => co_neg hi) _ _ fun i hi => co_neg hi
  have e3 : ev t (of (xs.length + ds.length) fun i => co xs i - co (ml (ql xs ds) ds) i) = ev t (rs xs ds) := by
    rw [show (fun i => co xs i - co (ml (ql xs ds) ds) i) = run (ds.length - 1) (co ds) (xs.length - (ds.length - 1)) (co xs) from funext e1, ← ev_tr]
    unfold rs
    refine (congrArg (ev t) (tr_win neg (fun i hi => top i (by omega)) fun i hi => top i (by omega)) : ev t (tr (of (xs.length + ds.length) _)) = ev t (tr (of xs.length _)))
  rw [e3] at e2
  omega
theorem top_ml {f g : List Int} (h0 : 0 < f.length) (hg : Mo g) : co (ml f g) (((f.length - 1) + (g.length - 1) : Nat) : Int) = co f ((f.length - 1 : Nat) : Int) := by
  have l2 := hg.len
  rw [co_ml]
  obtain ⟨k, hk⟩ : ∃ k, f.length = k + 1 := ⟨f.length - 1, by omega⟩
  rw [hk]
  show S k _ + co f (k : Int) * co g _ = co f (k : Int)
  have e1 : S k (fun j => co f j * co g ((((k + 1 - 1) + (g.length - 1) : Nat) : Int) - j)) = 0 := by
    refine (S_congr (G := fun _ => 0) fun j hj => ?_).trans (S_zero _)
    rw [hg.big _ (by omega), Int.mul_zero]
  rw [e1, Int.zero_add, show (((k + 1 - 1) + (g.length - 1) : Nat) : Int) - (k : Int) = ((g.length - 1 : Nat) : Int) by omega, hg.top, Int.mul_one]
theorem len_ml_nf {w g : List Int} (hw : Nf w) (h0 : w ≠ []) (hg : Mo g) : g.length ≤ (ml w g).length := by
  rcases hw with z | ⟨ys, y, hy, z⟩
  · exact absurd z h0
  · have l2 := hg.len
    have hl : w.length = ys.length + 1 := by rw [z, List.length_append, List.length_singleton]
    have h1 := top_ml (f := w) (by omega) hg
    have h2 : co w ((w.length - 1 : Nat) : Int) = y := by
      rw [show w.length - 1 = ys.length by omega, z, co_append, if_neg (by omega), Int.sub_self]
      rfl
    rw [h2] at h1
    refine Classical.byContradiction fun c => hy ?_
    rw [← h1, co_big (by omega)]
/-- what divides leaves nothing -/
theorem rs_zero {xs ds : List Int} (m : Mo ds) (h : ds.length ≤ xs.length + 1) : rs xs ds = [] ↔ ∃ q, ∀ t : Int, 2 ≤ t → ev t xs = ev t q * ev t ds := by
  constructor
  · intro e
    refine ⟨ql xs ds, fun t _ => ?_⟩
    have := ev_div m h t
    rw [e] at this
    rw [this]
    show _ + 0 = _
    omega
  · rintro ⟨q, hq⟩
    have e1 : ∀ t : Int, 2 ≤ t → ev t (rs xs ds) = ev t (ml (tr (of (max q.length (ql xs ds).length) fun i => co q i - co (ql xs ds) i)) ds) := fun t ht => by
      have h1 := ev_div m h t
      rw [ev_ml, ev_tr, ev_add_of, ev_of_co (by omega), ev_of_co (by omega), Int.sub_mul, ← hq t ht]
      omega
    have e2 := nf_ev (nf_tr _) (nf_tr _) e1
    refine Classical.byContradiction fun c => ?_
    have l1 := m.len
    have l3 : (rs xs ds).length ≤ ds.length - 1 := by
      rw [← rl_rs m h]
      refine Nat.le_trans (tr_len _) ?_
      unfold rl
      rw [of_len]
      exact Nat.le_refl _
    by_cases z : tr (of (max q.length (ql xs ds).length) fun i => co q i - co (ql xs ds) i) = []
    · rw [z] at e1
      exact c (nf_ev (nf_tr _) (.inl rfl) fun t ht => by rw [e1 t ht, ev_ml]; show 0 * _ = 0; omega)
    · have l2 := len_ml_nf (nf_tr _) z m
      have e3 : rs xs ds = ml (tr (of (max q.length (ql xs ds).length) fun i => co q i - co (ql xs ds) i)) ds := e2
      rw [← e3] at l2
      omega
/-! ### products of the polynomials of divisors -/
def facL (ss : List Nat) : List Int := ss.foldl (fun f d => ml f (cz d)) [1]
def evP (t : Int) (ss : List Nat) : Int := ss.foldr (fun d p => ev t (cz d) * p) 1
def dgP (ss : List Nat) : Nat := ss.foldr (fun d p => ((cz d).length - 1) + p) 0
theorem evP_cons (t : Int) (d : Nat) (ss : List Nat) : evP t (d :: ss) = ev t (cz d) * evP t ss := rfl
theorem ev_one (t : Int) : ev t [1] = 1 := by
  show 0 * t + 1 = 1
  omega
theorem fac_go (t : Int) : ∀ (ss : List Nat) (f : List Int), ev t (ss.foldl (fun f d => ml f (cz d)) f) = ev t f * evP t ss
  | [], f => (Int.mul_one _).symm
  | d :: ss, f => by
    show ev t (ss.foldl _ (ml f (cz d))) = _
    rw [fac_go t ss, ev_ml, evP_cons, Int.mul_assoc]
theorem ev_fac (t : Int) (ss : List Nat) : ev t (facL ss) = evP t ss := by
  show ev t (ss.foldl _ [1]) = _
  rw [fac_go, ev_one, Int.one_mul]
theorem mo_go : ∀ (ss : List Nat) (f : List Int), Mo f → (∀ d ∈ ss, Mo (cz d)) → Mo (ss.foldl (fun f d => ml f (cz d)) f) ∧ (ss.foldl (fun f d => ml f (cz d)) f).length = f.length + dgP ss
  | [], f, h, _ => ⟨h, rfl⟩
  | d :: ss, f, h, k => by
    have m := k d List.mem_cons_self
    have l := m.len
    obtain ⟨a, b⟩ := mo_ml h m
    obtain ⟨x, y⟩ := mo_go ss (ml f (cz d)) a fun e he => k e (List.mem_cons_of_mem _ he)
    refine ⟨x, ?_⟩
    show (ss.foldl _ (ml f (cz d))).length = f.length + (((cz d).length - 1) + dgP ss)
    rw [y]
    omega
theorem mo_fac {ss : List Nat} (k : ∀ d ∈ ss, Mo (cz d)) : Mo (facL ss) ∧ (facL ss).length = 1 + dgP ss := mo_go ss [1] mo_one k
theorem evP_perm {t : Int} {ss ts : List Nat} (h : ss.Perm ts) : evP t ss = evP t ts := by
  induction h with
  | nil => rfl
  | cons x _ ih => rw [evP_cons, evP_cons, ih]
  | swap x y l => rw [evP_cons, evP_cons, evP_cons, evP_cons, ← Int.mul_assoc, ← Int.mul_assoc, Int.mul_comm (ev t (cz y))]
  | trans _ _ h1 h2 => rw [h1, h2]
theorem dgP_perm {ss ts : List Nat} (h : ss.Perm ts) : dgP ss = dgP ts := by
  induction h with
  | nil => rfl
  | cons x _ ih =>
    show _ + dgP _ = _ + dgP _
    rw [ih]
  | swap x y l =>
    show ((cz y).length - 1) + (((cz x).length - 1) + dgP l) = ((cz x).length - 1) + (((cz y).length - 1) + dgP l)
    omega
  | trans _ _ h1 h2 => rw [h1, h2]
theorem evP_app (t : Int) (ss ts : List Nat) : evP t (ss ++ ts) = evP t ss * evP t ts := by
  induction ss with
  | nil => rw [List.nil_append]; show _ = 1 * _; rw [Int.one_mul]
  | cons d ss ih => rw [List.cons_append, evP_cons, evP_cons, ih, Int.mul_assoc]
theorem dgP_app (ss ts : List Nat) : dgP (ss ++ ts) = dgP ss + dgP ts := by
  induction ss with
  | nil => rw [List.nil_append]; show _ = 0 + _; rw [Nat.zero_add]
  | cons d ss ih =>
    rw [List.cons_append]
    show _ + dgP (ss ++ ts) = (_ + dgP ss) + dgP ts
    rw [ih, Nat.add_assoc]
/-- all together make the clock's own -/
theorem chkM_b : ((List.range 12).all fun i => decide (finM [1] (dv0 (i + 25)) = cl (i + 25))) = true := by decide +kernel
theorem czm36 {n : Nat} (h1 : 1 ≤ n) (h2 : n ≤ 36) : facL (dv0 n) = cl n := by
  have key : finM [1] (dv0 n) = cl n := by
    by_cases z : n ≤ 24
    · exact (czm h1 z).2
    · have := List.all_eq_true.mp chkM_b (n - 25) (List.mem_range.mpr (by omega))
      rw [show n - 25 + 25 = n by omega] at this
      exact of_decide_eq_true this
  have go : ∀ (ss : List Nat) (f : List Int), finM f ss = ss.foldl (fun f d => ml f (cz d)) f := by
    intro ss
    induction ss with
    | nil => intro f; rfl
    | cons d ss ih =>
      intro f
      show finM (tr (mulL f (cz d))) ss = ss.foldl _ (ml f (cz d))
      rw [ih, mulL_ml]
  rw [← key, go]
  rfl
end Po

set_option Elab.async false
set_option linter.all false
set_option maxRecDepth 100000
/-! Where a product of these is silent; voices that a rule carries on. -/
namespace Po
open Pv Nm
theorem ev_rep0 (t : Int) (k : Nat) (xs : List Int) : ev t (List.replicate k 0 ++ xs) = t ^ k * ev t xs := by
  induction k with
  | zero => rw [Int.pow_zero, Int.one_mul]; rfl
  | succ k ih =>
    show ev t (List.replicate k 0 ++ xs) * t + 0 = _
    rw [ih, Int.pow_succ, Int.add_zero, Int.mul_assoc, Int.mul_assoc, Int.mul_comm t]
theorem ev_cl (t : Int) {n : Nat} (hn : 1 ≤ n) : ev t (cl n) = t ^ n - 1 := by
  obtain ⟨k, rfl⟩ : ∃ k, n = k + 1 := ⟨n - 1, by omega⟩
  show ev t (List.replicate (k + 1 - 1) 0 ++ [1]) * t + -1 = _
  rw [ev_rep0, ev_one, Int.mul_one, Int.pow_succ]
  rfl
def chkD (n : Nat) : Bool := (dv0 n).all fun d => (List.range 9).any fun k => decide ((((k : Int) + 2) ^ n - 1) / ev ((k : Int) + 2) (cz d) % ev ((k : Int) + 2) (cz d) ≠ 0)
theorem chkD_a : ((List.range 36).all fun i => chkD (i + 1)) = true := by decide +kernel
theorem chkD_ok {n d : Nat} (h1 : 1 ≤ n) (h2 : n ≤ 36) (hd : d ∈ dv0 n) : ∃ t : Int, 2 ≤ t ∧ (t ^ n - 1) / ev t (cz d) % ev t (cz d) ≠ 0 := by
  have h := List.all_eq_true.mp chkD_a (n - 1) (List.mem_range.mpr (by omega))
  rw [show n - 1 + 1 = n by omega] at h
  obtain ⟨k, _, hk⟩ := List.any_eq_true.mp (List.all_eq_true.mp h d hd)
  exact ⟨(k : Int) + 2, by omega, of_decide_eq_true hk⟩
/-- the polynomial of these is silent at these, nowhere else -/
theorem sil_fac {n d : Nat} {ss : List Nat} {v : List Int} (h1 : 1 ≤ n) (h2 : n ≤ 36) (hs : ss.Sublist (dv0 n)) (hd : d ∈ dv0 n) (m : Mo (cz d)) (hl : (cz d).length ≤ v.length + 1) (hv : ∀ t : Int, 2 ≤ t → ev t v = evP t ss) : rs v (cz d) = [] ↔ d ∈ ss := by
  rw [rs_zero m hl]
  constructor
  · rintro ⟨q, hq⟩
    refine Classical.byContradiction fun c => ?_
    obtain ⟨ts, p⟩ := hs.exists_perm_append
    have hdt : d ∈ ts := by
      rcases List.mem_append.mp (p.mem_iff.mp hd) with z | z
      · exact absurd z c
      · exact z
    obtain ⟨t, ht, hn⟩ := chkD_ok h1 h2 hd
    have e1 : t ^ n - 1 = evP t ss * (ev t (cz d) * evP t (ts.erase d)) := by
      rw [← ev_cl t h1, ← czm36 h1 h2, ev_fac, evP_perm p, evP_app, evP_perm (List.perm_cons_erase hdt), evP_cons]
    rw [← hv t ht, hq t ht] at e1
    have z0 : ev t (cz d) ≠ 0 := fun z => hn (by rw [z, Int.emod_zero, Int.ediv_zero])
    refine hn ?_
    rw [e1, show ev t q * ev t (cz d) * (ev t (cz d) * evP t (ts.erase d)) = (ev t q * ev t (cz d) * evP t (ts.erase d)) * ev t (cz d) by
      rw [Int.mul_assoc, Int.mul_assoc, Int.mul_assoc, Int.mul_comm (evP t (ts.erase d))], Int.mul_ediv_cancel _ z0]
    rw [show ev t q * ev t (cz d) * evP t (ts.erase d) = (ev t q * evP t (ts.erase d)) * ev t (cz d) by rw [Int.mul_assoc, Int.mul_assoc, Int.mul_comm (ev t (cz d))], Int.mul_emod_left]
  · intro hm
    refine ⟨facL (ss.erase d), fun t ht => ?_⟩
    rw [hv t ht, ev_fac, evP_perm (List.perm_cons_erase hm), evP_cons, Int.mul_comm]
/-! ### carried on -/
/-- the next one that the rule tells -/
def nxt (r v : List Int) : Int := -(co r 0) * S (r.length - 1) fun k => co r (k + 1) * co v ((v.length : Int) - (k + 1))
def car (r : List Int) : Nat → List Int → List Int
  | 0, v => v
  | m + 1, v => car r m (v ++ [nxt r v])
theorem car_len (r : List Int) : ∀ (m : Nat) (v : List Int), (car r m v).length = v.length + m
  | 0, _ => rfl
  | m + 1, v => by
    show (car r m (v ++ [nxt r v])).length = _
    rw [car_len r m, List.length_append, List.length_singleton]
    omega
theorem car_pre (r : List Int) : ∀ (m : Nat) (v : List Int), ∃ u, car r m v = v ++ u
  | 0, v => ⟨[], (List.append_nil v).symm⟩
  | m + 1, v => by
    obtain ⟨u, h⟩ := car_pre r m (v ++ [nxt r v])
    exact ⟨nxt r v :: u, by show car r m (v ++ [nxt r v]) = _; rw [h, List.append_assoc]; rfl⟩
theorem car_rule {r : List Int} (r0 : co r 0 * co r 0 = 1) : ∀ (m : Nat) (v : List Int) (b : Nat), r.length - 1 ≤ v.length → v.length ≤ b → b < v.length + m → S (r.length - 1 + 1) (fun k => co r k * co (car r m v) ((b : Int) - k)) = 0
  | 0, v, b, _, h1, h2 => by omega
  | m + 1, v, b, hr, h1, h2 => by
    show S (r.length - 1 + 1) (fun k => co r k * co (car r m (v ++ [nxt r v])) ((b : Int) - k)) = 0
    by_cases z : b = v.length
    · subst z
      obtain ⟨u, hu⟩ := car_pre r m (v ++ [nxt r v])
      rw [hu, S_front]
      have e1 : co ((v ++ [nxt r v]) ++ u) ((v.length : Int) - 0) = nxt r v := by
        rw [Int.sub_zero, co_append, if_pos (by rw [List.length_append, List.length_singleton]; omega), co_append, if_neg (by omega), Int.sub_self]
        rfl
      have e2 : S (r.length - 1) (fun j => co r (j + 1) * co ((v ++ [nxt r v]) ++ u) ((v.length : Int) - (j + 1))) = S (r.length - 1) fun k => co r (k + 1) * co v ((v.length : Int) - (k + 1)) := S_congr fun j hj => by
        rw [co_append, if_pos (by rw [List.length_append, List.length_singleton]; omega), co_append, if_pos (by omega)]
      rw [e1, e2]
      unfold nxt
      rw [← Int.mul_assoc, Int.mul_neg, r0, Int.neg_mul, Int.one_mul]
      omega
    · exact car_rule r0 m _ b (by rw [List.length_append, List.length_singleton]; omega) (by rw [List.length_append, List.length_singleton]; omega) (by rw [List.length_append, List.length_singleton]; omega)
theorem _root_.Int.one_lt_two_pow_of_pos (t : Int) (n : Nat) (ht : 2 ≤ t) (hn : 1 ≤ n) : 1 < t ^ n := by
  obtain ⟨k, rfl⟩ : ∃ k, n = k + 1 := ⟨n - 1, by omega⟩
  clear hn
  induction k with
  | zero => rw [Int.pow_succ, Int.pow_zero, Int.one_mul]; omega
  | succ k ih =>
    rw [Int.pow_succ]
    have := Int.mul_le_mul_of_nonneg_left ht (by omega : 0 ≤ t ^ (k + 1))
    omega
/-- what such a rule carries on is a multiple of what the rule lacks of the clock's own -/
theorem car_mult {r f ws : List Int} {n : Nat} (m : Mo r) (r0 : co r 0 * co r 0 = 1) (hw : ws.length = r.length - 1) (hn : r.length - 1 ≤ n) (n1 : 1 ≤ n) (hc : ∀ t : Int, 2 ≤ t → ev t r * ev t f = t ^ n - 1) :
    ∃ B, ∀ t : Int, 2 ≤ t → ev t (car r (n - (r.length - 1)) ws) = ev t f * ev t B := by
  have l1 := m.len
  obtain ⟨d, hd⟩ : ∃ d, r.length = d + 1 := ⟨r.length - 1, by omega⟩
  obtain ⟨v, hv⟩ : ∃ v, v = car r (n - (r.length - 1)) ws := ⟨_, rfl⟩
  rw [← hv]
  have lv : v.length = n := by rw [hv, car_len, hw]; omega
  have mid : ∀ b : Nat, d ≤ b → b < n → co (ml r v) (b : Int) = 0 := fun b h1 h2 => by
    have h := car_rule r0 (n - (r.length - 1)) ws b (by omega) (by omega) (by omega)
    rw [← hv] at h
    rw [co_ml, hd]
    rw [show r.length - 1 = d by omega] at h
    exact h
  have big : ∀ i : Int, ((n + d : Nat) : Int) ≤ i → co (ml r v) i = 0 := fun i hi => by
    rw [co_ml]
    exact mu_big (m := v.length) (fun _ => co_big) i (by omega)
  -- low and high parts
  have split : ∀ t : Int, ev t (ml r v) = ev t (of d (co (ml r v))) + t ^ n * ev t (of d fun i => co (ml r v) (i + n)) := fun t => by
    have e1 : ∀ i, co (ml r v) i = co (of d (co (ml r v)) ++ (List.replicate (n - d) 0 ++ of d fun i => co (ml r v) (i + n))) i := fun i => by
      by_cases i0 : i < 0
      · rw [co_neg i0, co_neg i0]
      · obtain ⟨j, rfl⟩ := Int.eq_ofNat_of_zero_le (by omega : 0 ≤ i)
        show co (ml r v) (j : Int) = co _ (j : Int)
        rw [co_append, of_len]
        by_cases z1 : (j : Int) < (d : Int)
        · rw [if_pos z1, co_of (by omega)]
        · rw [if_neg z1, co_append, List.length_replicate]
          by_cases z2 : (j : Int) - (d : Int) < ((n - d : Nat) : Int)
          · rw [if_pos z2, co_rep]
            exact mid j (by omega) (by omega)
          · rw [if_neg z2]
            by_cases z3 : j < n + d
            · have e : (j : Int) - (d : Int) - ((n - d : Nat) : Int) = ((j - n : Nat) : Int) := by omega
              rw [e, co_of (by omega)]
              congr 1
              omega
            · rw [big _ (by omega), co_big (by rw [of_len]; omega)]
    have e2 : ml r v = tr (of d (co (ml r v)) ++ (List.replicate (n - d) 0 ++ of d fun i => co (ml r v) (i + n))) :=
      (nf_tr _ : Nf (ml r v)).tr.symm.trans (tr_ext e1)
    have app : ∀ xs ys : List Int, ev t (xs ++ ys) = ev t xs + t ^ xs.length * ev t ys := fun xs ys => by
      induction xs with
      | nil => show _ = 0 + t ^ 0 * _; rw [Int.pow_zero]; show ev t ys = _; omega
      | cons x xs ih =>
        show ev t (xs ++ ys) * t + x = (ev t xs * t + x) + t ^ (xs.length + 1) * ev t ys
        rw [ih, Int.add_mul, Int.pow_succ, Int.mul_assoc, Int.mul_comm (ev t ys) t, ← Int.mul_assoc]
        omega
    calc ev t (ml r v) = ev t (of d (co (ml r v)) ++ (List.replicate (n - d) 0 ++ of d fun i => co (ml r v) (i + n))) := by
          rw [← ev_tr t (of d _ ++ _), ← e2]
      _ = _ := by
          rw [app, of_len, ev_rep0, ← Int.mul_assoc, ← Int.pow_add, show d + (n - d) = n by omega]
  refine ⟨of d fun i => co (ml r v) (i + n), fun t ht => ?_⟩
  have zero : ∀ t : Int, ev t (of d fun _ => 0) = 0 := fun t => by
    have := ev_rep0 t d []
    rw [List.append_nil] at this
    rw [of_const, this]
    show t ^ d * 0 = 0
    omega
  have eC : ∀ t : Int, ev t (of d fun i => co (ml r v) i - (0 - co (ml r v) (i + n))) = ev t (of d (co (ml r v))) + ev t (of d fun i => co (ml r v) (i + n)) := fun t => by
    rw [ev_add_of (F := co (ml r v)) (G := fun i => 0 - co (ml r v) (i + n)), ev_add_of (F := fun _ => 0) (G := fun i => co (ml r v) (i + n)), zero]
    omega
  have hq : ∀ t : Int, 2 ≤ t → ev t (of d fun i => co (ml r v) i - (0 - co (ml r v) (i + n))) = ev t (of (max v.length (ml f (of d fun i => co (ml r v) (i + n))).length) fun i => co v i - co (ml f (of d fun i => co (ml r v) (i + n))) i) * ev t r := fun t ht => by
    have a1 := ev_of_co (t := t) (xs := v) (n := max v.length (ml f (of d fun i => co (ml r v) (i + n))).length) (Nat.le_max_left _ _)
    have a2 := ev_of_co (t := t) (xs := ml f (of d fun i => co (ml r v) (i + n))) (n := max v.length (ml f (of d fun i => co (ml r v) (i + n))).length) (Nat.le_max_right _ _)
    rw [eC, ev_add_of (F := co v), a1, a2, ev_ml]
    have h1 := split t
    rw [ev_ml] at h1
    have h2 := hc t ht
    have h3 : t ^ n = ev t r * ev t f + 1 := by omega
    rw [h3, Int.add_mul, Int.one_mul] at h1
    rw [Int.sub_mul, Int.mul_comm (ev t v), h1, Int.mul_comm (ev t f * _) (ev t r), ← Int.mul_assoc (ev t r)]
    omega
  have hz : rs (of d fun i => co (ml r v) i - (0 - co (ml r v) (i + n))) r = [] := (rs_zero m (by rw [of_len]; omega)).mpr ⟨_, hq⟩
  have e0 : ev t (of d fun i => co (ml r v) i - (0 - co (ml r v) (i + n))) = 0 := by
    have h := ev_div m (xs := of d fun i => co (ml r v) i - (0 - co (ml r v) (i + n))) (by rw [of_len]; omega) t
    rw [hz] at h
    have hql : ql (of d fun i => co (ml r v) i - (0 - co (ml r v) (i + n))) r = [] := List.eq_nil_of_length_eq_zero (by unfold ql; rw [fac_len, of_len]; omega)
    rw [hql] at h
    rw [h]
    show 0 * _ + 0 = 0
    omega
  rw [eC] at e0
  have h1 := split t
  rw [ev_ml] at h1
  have h2 := hc t ht
  have hp : 1 < t ^ n := by
    have := Int.one_lt_two_pow_of_pos t n ht n1
    exact this
  have hr : ev t r ≠ 0 := fun z => by
    rw [z, Int.zero_mul] at h2
    omega
  have h3 : t ^ n = ev t r * ev t f + 1 := by omega
  rw [h3, Int.add_mul, Int.one_mul] at h1
  have h4 : ev t r * ev t v = ev t r * (ev t f * ev t (of d fun i => co (ml r v) (i + n))) := by
    rw [← Int.mul_assoc]
    omega
  exact Int.eq_of_mul_eq_mul_left hr h4
end Po

set_option Elab.async false
set_option linter.all false
set_option maxRecDepth 100000
/-! The rule of some divisors: the product of the polynomials of the others. -/
namespace Po
open Pv Nm
theorem czo {d n : Nat} (hd : d ∈ dv0 n) (h2 : n ≤ 36) : Mo (cz d) := by
  unfold dv0 at hd
  obtain ⟨h3, _⟩ := List.mem_filter.mp hd
  obtain ⟨i, hi, rfl⟩ := List.mem_map.mp h3
  have := List.mem_range.mp hi
  exact (gz_mo (czs (n := 1 + i) (by omega) (by omega)).gz).1
theorem dg_all {n : Nat} (h1 : 1 ≤ n) (h2 : n ≤ 36) : dgP (dv0 n) = n := by
  have e := (mo_fac (ss := dv0 n) fun d hd => czo hd h2).2
  rw [czm36 h1 h2, cl_len (by omega)] at e
  omega
structure Rest (n : Nat) (ss ts : List Nat) : Prop where
  perm : (dv0 n).Perm (ss ++ ts)
theorem Rest.of {n : Nat} {ss : List Nat} (h : ss.Sublist (dv0 n)) : ∃ ts, Rest n ss ts := by
  obtain ⟨ts, p⟩ := h.exists_perm_append
  exact ⟨ts, ⟨p⟩⟩
theorem Rest.mo {n : Nat} {ss ts : List Nat} (R : Rest n ss ts) (h2 : n ≤ 36) : (∀ d ∈ ss, Mo (cz d)) ∧ ∀ d ∈ ts, Mo (cz d) :=
  ⟨fun d hd => czo (R.perm.mem_iff.mpr (List.mem_append_left _ hd)) h2, fun d hd => czo (R.perm.mem_iff.mpr (List.mem_append_right _ hd)) h2⟩
theorem Rest.dg {n : Nat} {ss ts : List Nat} (R : Rest n ss ts) (h1 : 1 ≤ n) (h2 : n ≤ 36) : dgP ss + dgP ts = n := by
  rw [← dgP_app, ← dgP_perm R.perm, dg_all h1 h2]
theorem Rest.ev {n : Nat} {ss ts : List Nat} (R : Rest n ss ts) (h1 : 1 ≤ n) (h2 : n ≤ 36) (t : Int) : ev t (facL ts) * evP t ss = t ^ n - 1 := by
  rw [ev_fac, Int.mul_comm, ← evP_app, ← evP_perm R.perm, ← ev_fac, czm36 h1 h2, ev_cl t h1]
theorem Rest.eq {n : Nat} {ss ts : List Nat} (R : Rest n ss ts) (h1 : 1 ≤ n) (h2 : n ≤ 36) : cl n = ml (facL ts) (facL ss) :=
  nf_ev (cl_mo n).nf (nf_tr _) fun t _ => by rw [ev_ml, ev_fac t ss, R.ev h1 h2, ev_cl t h1]
theorem Rest.exact {n : Nat} {ss ts : List Nat} (R : Rest n ss ts) (h1 : 1 ≤ n) (h2 : n ≤ 36) : qs (cl n) (facL ss) = facL ts ∧ rs (cl n) (facL ss) = [] := by
  obtain ⟨m1, m2⟩ := R.mo h2
  rw [R.eq h1 h2]
  exact div_ml (mo_fac m2).1.nf (mo_fac m1).1
theorem co_ml0 {a b : List Int} : co (ml a b) 0 = co a 0 * co b 0 := by
  rw [co_ml]
  cases a with
  | nil => rw [co_nil]; show (0 : Int) = _; omega
  | cons x xs =>
    rw [List.length_cons, show mu (xs.length + 1) (co (x :: xs)) (co b) 0 = S (xs.length + 1) fun j => co (x :: xs) j * co b (0 - j) from rfl, S_front]
    rw [show S xs.length (fun j => co (x :: xs) (j + 1) * co b (0 - (j + 1))) = 0 from (S_congr (G := fun _ => 0) fun j _ => by rw [co_neg (xs := b) (by omega), Int.mul_zero]).trans (S_zero _)]
    rw [Int.add_zero]
    rfl
theorem Rest.unit {n : Nat} {ss ts : List Nat} (R : Rest n ss ts) (h1 : 1 ≤ n) (h2 : n ≤ 36) : co (facL ts) 0 * co (facL ts) 0 = 1 := by
  have h := congrArg (fun l => co l 0) (R.eq h1 h2)
  have h : co (cl n) 0 = co (ml (facL ts) (facL ss)) 0 := h
  rw [co_ml0, show co (cl n) 0 = -1 from rfl] at h
  have d : co (facL ts) 0 ∣ 1 := ⟨-co (facL ss) 0, by rw [Int.mul_neg]; omega⟩
  have hn := Int.natAbs_dvd_natAbs.mpr d
  have h5 : (co (facL ts) 0).natAbs = 1 := Nat.dvd_one.mp hn
  have h6 : co (facL ts) 0 * co (facL ts) 0 = (((co (facL ts) 0).natAbs * (co (facL ts) 0).natAbs : Nat) : Int) := (Int.natAbs_mul_self).symm
  rw [h6, h5]
  rfl
/-- what the rule carries on is silent at each of these -/
theorem car_sil {n d : Nat} {ss ts : List Nat} {ws : List Int} (R : Rest n ss ts) (h1 : 1 ≤ n) (h2 : n ≤ 36) (hw : ws.length = dgP ts) (hd : d ∈ ss) (hl : (cz d).length ≤ n + 1) : rs (car (facL ts) (n - dgP ts) ws) (cz d) = [] := by
  obtain ⟨m1, m2⟩ := R.mo h2
  obtain ⟨m, l⟩ := mo_fac m2
  have g := R.dg h1 h2
  have e1 : (facL ts).length - 1 = dgP ts := by omega
  obtain ⟨B, hB⟩ := car_mult (f := facL ss) (n := n) (ws := ws) m (R.unit h1 h2) (by omega) (by omega) h1 fun t _ => by rw [ev_fac t ss]; exact R.ev h1 h2 t
  rw [e1] at hB
  refine (rs_zero (m1 d hd) (by rw [car_len, hw]; omega)).mpr ⟨ml (facL (ss.erase d)) B, fun t ht => ?_⟩
  rw [hB t ht, ev_fac, evP_perm (List.perm_cons_erase hd), evP_cons, ev_ml, ev_fac, Int.mul_comm (ev t (cz d)), Int.mul_assoc, Int.mul_assoc, Int.mul_comm (ev t (cz d))]
end Po

set_option Elab.async false
set_option linter.all false
set_option maxRecDepth 100000
set_option maxHeartbeats 4000000
set_option exponentiation.threshold 20000
namespace K8
open PySem PySem.Spec PyProof.Rows L2 Gd Pv RZ Po Nm
section
variable {P : Program} {w : World} {K : PySem.W.Frag} {mg : Str → Option Value} {base : Heap}
theorem nV_data {K : PySem.W.Frag} {H : Hp} {a : Addr} {ss : List Nat} (h : SqT K H a (nV ss)) : Dp K H (.ref a) (.tuple ((ss.map fun p : Nat => (p : Int)).map PyData.int)) := by
  refine .tup h ?_
  rw [nV_ints]
  exact dpInts _
theorem sub_mem {n : Nat} {ss : List Nat} (h : SubL n ss) {d : Nat} (hd : d ∈ ss) : 1 ≤ d ∧ d ≤ n ∧ d ∈ dvs n := ⟨dvs_pos (h.subset hd), dvs_le (h.subset hd), h.subset hd⟩
theorem sub_len {n : Nat} {ss : List Nat} (h : SubL n ss) (h1 : 1 ≤ n) (h2 : n ≤ 36) : ss.length ≤ 9 := by
  have key : ((List.range 37).all fun n => decide ((dv0 n).length ≤ 9)) = true := by decide +kernel
  have h3 := of_decide_eq_true (List.all_eq_true.mp key n (List.mem_range.mpr (by omega)))
  exact Nat.le_trans h.length_le h3
theorem dset_ok {n : Nat} {ss : List Nat} (h : SubL n ss) (h1 : 1 ≤ n) : dsetD n (.tuple ((ss.map fun p : Nat => (p : Int)).map PyData.int)) = true := by
  unfold dsetD
  rw [intsD_map]
  show (ascI _ && List.all _ _) = true
  rw [ascI_pw ?_, Bool.true_and, List.all_eq_true]
  · intro x hx
    obtain ⟨d, hd, rfl⟩ := List.mem_map.mp hx
    obtain ⟨d1, d2, d3⟩ := sub_mem h hd
    have h4 := (dvs_mem h1 d).mp d3
    unfold divI
    rw [decide_eq_true (by omega : (1 : Int) ≤ (d : Int)), Bool.true_and]
    refine decide_eq_true ?_
    have := Nat.mod_eq_zero_of_dvd h4
    omega
  · refine List.Pairwise.map _ (fun a b hab => ?_) (List.Pairwise.sublist h (dvs_asc n))
    show (a : Int) < (b : Int)
    omega
def spNeedDO (K : PySem.W.Frag) : Sp := fun vs H Q _ => ∃ (n : Nat) (a : Addr) (ss : List Nat), vs = [.int (n : Nat), .ref a] ∧ 1 ≤ n ∧ n ≤ 36 ∧ SubL n ss ∧ SqT K H a (nV ss) ∧ ∀ H', Same H H' → Q .non H'
theorem c_need_divisorsO (D : At K mg "need_divisors" s_need_divisors ["size", "divisors"]) (c_need : Cal P w K mg base 1 "need" spNeed) (c_is_size : Cal P w K mg base 2 "is_size" (spIsSizeD K)) (c_is_divisor_set : Cal P w K mg base 4 "is_divisor_set" (spDsetD K)) :
    Cal P w K mg base 5 "need_divisors" (spNeedDO K) := by
  refine okC D sc_need_divisors (fun vs H Q E h => ?_) (fun f cdv A outer s H vs Q E hr h => ?_)
  · obtain ⟨n, a, ss, rfl, _⟩ := h
    rfl
  · obtain ⟨n, a, ss, rfl, n1, n2, hs, ha, q⟩ := h
    have nd := sc_need_divisors.nd
    refine ⟨_, (pss_cons (ps_expr (pe_k c_need hr (by decide) (by rfl) (pa_cons (pe_k c_is_size hr (by decide) (by rfl) (pa_cons (pv 0) pa_nil)) (pa_cons pe_str pa_nil))))
 (pss_one (ps_expr (pe_k c_need hr (by decide) (by rfl) (pa_cons (pe_k c_is_divisor_set hr (by decide) (by rfl) (pa_cons (pv 0) (pa_cons (pv 1) pa_nil))) (pa_cons pe_str pa_nil)))))), ?_⟩
    refine ⟨_, rfl, _, _, rfl, .int n, _, by rw [show sizeD (.int (n : Nat)) = true from decide_eq_true (by omega)], ?_⟩
    refine ⟨_, rfl, _, rfl, n, _, _, rfl, nV_data ha, fun ds e => ?_, fun H1 s1 => ⟨_, by rw [dset_ok hs n1], q H1 s1⟩⟩
    injection e with e
    rw [← e, List.length_map, List.length_map]
    have := sub_len hs n1 n2
    omega
def spRoundP : Sp := fun vs H Q _ => ∃ n : Nat, vs = [.int (n : Nat)] ∧ 1 ≤ n ∧ n ≤ 900 ∧ ∀ (p : Addr) (H' : Hp), Same H H' → TAt H' p (cl n) → Q (.ref p) H'
theorem c_round_polynomial (D : At K mg "round_polynomial" s_round_polynomial ["size"]) : Cal P w K mg base 1 "round_polynomial" spRoundP := by
  refine okC D sc_round_polynomial (fun vs H Q E h => ?_) (fun f cdv A outer s H vs Q E hr h => ?_)
  · obtain ⟨n, rfl, _⟩ := h
    rfl
  · obtain ⟨n, rfl, n1, n2, q⟩ := h
    have nd := sc_round_polynomial.nd
    refine ⟨_, (pss_one (ps_ret (pe_op op_catA (pe_op op_catA (pe_tup (pa_cons (pe_un un_neg pe_int) pa_nil)) (pe_op op_repN (pe_tup (pa_cons pe_int pa_nil)) (pe_op op_sub (pv 0) pe_int))) (pe_tup (pa_cons pe_int pa_nil))))), ?_⟩
    refine ⟨_, rfl, (by show 1 ≤ sizeLine; decide), fun t1 ht1 => ?_⟩
    have s1 := same_new (o := .tup [V.int (-1)]) ht1
    have e1 : TAt (upd H t1 (.tup [V.int (-1)])) t1 [-1] := upd_same
    generalize upd H t1 (.tup [V.int (-1)]) = G1 at *
    refine ⟨(by show 1 ≤ sizeLine; decide), fun t2 ht2 => ?_⟩
    have s2 := same_new (o := .tup [V.int 0]) ht2
    have e2 : TAt (upd G1 t2 (.tup [V.int 0])) t2 [0] := upd_same
    generalize upd G1 t2 (.tup [V.int 0]) = G2 at *
    refine ⟨_, rfl, _, _, rfl, rfl, repK (m := n - 1) e2 (by omega) (by omega) fun t3 G3 s3 e3 => ?_⟩
    refine catK (e1.same (s2.trans s3)) e3 (by rw [List.length_replicate]; show 1 + _ ≤ _; omega) fun t4 G4 s4 e4 => ?_
    refine ⟨(by show 1 ≤ sizeLine; decide), fun t5 ht5 => ?_⟩
    have s5 := same_new (o := .tup [V.int 1]) ht5
    have e5 : TAt (upd G4 t5 (.tup [V.int 1])) t5 [1] := upd_same
    generalize upd G4 t5 (.tup [V.int 1]) = G5 at *
    refine catK (e4.same s5) e5 (by rw [List.length_append, List.length_replicate]; show 1 + _ + 1 ≤ _; omega) fun t6 G6 s6 e6 => ?_
    refine q t6 G6 (s1.trans (s2.trans (s3.trans (s4.trans (s5.trans s6))))) ?_
    have : cl n = ([-1] ++ List.replicate (n - 1) 0) ++ [1] := by unfold cl; simp
    rw [this]
    exact e6
theorem bd_fac : ∀ {ss : List Nat} {f : List Int} {c : Nat}, Bd c f → f.length ≤ 1000 → (∀ d ∈ ss, Mo (cz d) ∧ Bd 3 (cz d) ∧ (cz d).length ≤ 37) → f.length + 37 * ss.length ≤ 900 → Bd (c + 13 * ss.length) (ss.foldl (fun f d => ml f (cz d)) f)
  | [], f, c, h, _, _, _ => h
  | d :: ss, f, c, h, hl, k, hz => by
    obtain ⟨m, b, l⟩ := k d List.mem_cons_self
    rw [List.length_cons] at hz
    have lm := len_ml f (cz d)
    have z := bd_fac (ss := ss) (bd_ml h b hl) (by omega) (fun e he => k e (List.mem_cons_of_mem _ he)) (by omega)
    rw [List.length_cons]
    show Bd _ (ss.foldl _ (ml f (cz d)))
    exact z.mono (by omega)
theorem fac_ok {n : Nat} {ss : List Nat} (h : ∀ d ∈ ss, 1 ≤ d ∧ d ≤ n) (h2 : n ≤ 36) (hl : ss.length ≤ 9) : Mo (facL ss) ∧ Bd 118 (facL ss) ∧ (facL ss).length = 1 + dgP ss := by
  have k : ∀ d ∈ ss, Mo (cz d) ∧ Bd 3 (cz d) ∧ (cz d).length ≤ 37 := fun d hd => by
    obtain ⟨d1, d2⟩ := h d hd
    obtain ⟨a, b, c, e⟩ := cz_ok d1 (by omega)
    exact ⟨a, b, by omega⟩
  obtain ⟨m, l⟩ := mo_fac fun d hd => (k d hd).1
  refine ⟨m, ?_, l⟩
  have z := bd_fac (ss := ss) (f := [1]) (c := 1) (fun x hx => by rw [List.mem_singleton.mp hx]; decide) (by decide) k (by show 1 + _ ≤ _; omega)
  exact z.mono (by omega)
def spFac (K : PySem.W.Frag) : Sp := fun vs H Q _ => ∃ (n : Nat) (a : Addr) (ss : List Nat), vs = [.ref a] ∧ 1 ≤ n ∧ n ≤ 36 ∧ SubL n ss ∧ SqT K H a (nV ss) ∧ ∀ (p : Addr) (H' : Hp), Same H H' → TAt H' p (facL ss) → Q (.ref p) H'
theorem c_factor_of (D : At K mg "factor_of" s_factor_of ["divisors"]) (c_times : Cal P w K mg base 4 "times" spTimes) (c_cyclotomic : Cal P w K mg base 5 "cyclotomic" spCyc) : Cal P w K mg base 6 "factor_of" (spFac K) := by
  refine okC D sc_factor_of (fun vs H Q E h => ?_) (fun f cdv A outer s H vs Q E hr h => ?_)
  · obtain ⟨n, a, ss, rfl, _⟩ := h
    rfl
  · obtain ⟨n, a, ss, rfl, n1, n2, hs, ha, q⟩ := h
    have nd := sc_factor_of.nd
    have l9 := sub_len hs n1 n2
    refine ⟨_, (pss_cons (ps_set (i := 1) nd rfl (.inl rfl) (pe_tup (pa_cons pe_int pa_nil)))
 (pss_cons (ps_for PassesOwn.never rfl (pi_tup (pv 0)) (pg_name (i := 2) nd rfl (.inl rfl))
 (pss_one (ps_set (i := 1) nd rfl (.inl rfl) (pe_k c_times hr (by decide) (by rfl) (pa_cons (pv 1) (pa_cons (pe_k c_cyclotomic hr (by decide) (by rfl) (pa_cons (pv 2) pa_nil)) pa_nil))))))
 (pss_one (ps_ret (pv 1))))), ?_⟩
    refine ⟨(by show 1 ≤ sizeLine; decide), fun t ht => ?_⟩
    have st := same_new (o := .tup [V.int 1]) ht
    have et : TAt (upd H t (.tup [V.int 1])) t [1] := upd_same
    generalize upd H t (.tup [V.int 1]) = H1 at *
    have ha1 := Same.sqT st ha
    refine ⟨_, rfl, a, rfl, ⟨_, ha1⟩, for_it (walk_tup (xs := nV ss)) (fun i σ H' => ∃ (pF : Addr) (y2 : Option V), σ = [some (.ref a), some (.ref pF), y2] ∧ Same H1 H' ∧ TAt H' pF (facL (ss.take i)))
      ⟨t, _, rfl, Same.refl _, et⟩ (fun i σ H' _ ⟨_, _, _, s, _⟩ => Same.sqT s ha1) ?_ ?_⟩
    · rintro i x σ G G' hi ⟨pF, y2, rfl, sG, eF⟩ ⟨eH, hx⟩
      obtain rfl := eH.symm
      rw [nV_len] at hi
      obtain ⟨d, hd, rfl⟩ := nV_get hx
      have dm : d ∈ ss := List.mem_of_getElem? hd
      obtain ⟨d1, d2, d3⟩ := sub_mem hs dm
      obtain ⟨mz, bz, _, lz⟩ := cz_ok d1 (by omega)
      have hsub : ∀ e ∈ ss.take i, 1 ≤ e ∧ e ≤ n := fun e he => ⟨(sub_mem hs (List.mem_of_mem_take he)).1, (sub_mem hs (List.mem_of_mem_take he)).2.1⟩
      obtain ⟨mf, bf, lf⟩ := fac_ok hsub n2 (by rw [List.length_take]; omega)
      have lf2 : dgP (ss.take i) ≤ 36 := by
        have hs2 : (ss.take i).Sublist (dv0 n) := (List.take_sublist i ss).trans hs
        obtain ⟨ts, R⟩ := Rest.of hs2
        have := R.dg n1 n2
        omega
      refine ⟨_, rfl, _, rfl, d, rfl, d1, by omega, fun pC G1 s1 eC => ?_⟩
      refine ⟨pF, pC, _, cz d, 118, 3, rfl, eF.same s1, eC, mf.nf, mz.nf, by omega, by omega, bf, bz, by decide, by decide, by decide, fun pN G2 s2 eN => ?_⟩
      refine ⟨pN, _, rfl, sG.trans (s1.trans s2), ?_⟩
      rw [List.take_succ, hd]
      unfold facL at eN ⊢
      rw [List.foldl_append]
      exact eN
    · rintro σ G ⟨pF, y2, rfl, sG, eF⟩
      rw [nV_len, List.take_length] at eF
      exact ⟨_, rfl, q pF G (st.trans sG) eF⟩
def spRank (K : PySem.W.Frag) : Sp := fun vs H Q _ => ∃ (n : Nat) (a : Addr) (ss : List Nat), vs = [.int (n : Nat), .ref a] ∧ 1 ≤ n ∧ n ≤ 36 ∧ SubL n ss ∧ SqT K H a (nV ss) ∧ ∀ H', Same H H' → Q (.int ((n - dgP ss : Nat) : Int)) H'
theorem dg_sum (ss : List Nat) : (ss.map fun d => (((cz d).length - 1 : Nat) : Int)).sum = (dgP ss : Nat) := by
  induction ss with
  | nil => rfl
  | cons d ss ih =>
    rw [List.map_cons, List.sum_cons, ih]
    show _ = ((((cz d).length - 1) + dgP ss : Nat) : Int)
    omega
theorem c_silent_rank (D : At K mg "silent_rank" s_silent_rank ["size", "divisors"]) (c_need_divisors : Cal P w K mg base 5 "need_divisors" (spNeedDO K)) (c_totient_of : Cal P w K mg base 4 "totient_of" spTot) (z_sum : mg "sum" = none) : Cal P w K mg base 6 "silent_rank" (spRank K) := by
  refine okC D sc_silent_rank (fun vs H Q E h => ?_) (fun f cdv A outer s H vs Q E hr h => ?_)
  · obtain ⟨n, a, ss, rfl, _⟩ := h
    rfl
  · obtain ⟨n, a, ss, rfl, n1, n2, hs, ha, q⟩ := h
    have nd := sc_silent_rank.nd
    have l9 := sub_len hs n1 n2
    refine ⟨_, (pss_cons (ps_expr (pe_k c_need_divisors hr (by decide) (by rfl) (pa_cons (pv 0) (pa_cons (pv 1) pa_nil))))
 (pss_one (ps_ret (pe_op op_sub (pv 0) (pe_callB (cr_sum rfl) (by rfl) z_sum (by decide +kernel) (pa_cons (pe_lc (own := [("divisor", 2)]) rfl nd (pi_tup (pv 1)) (blkOk_by (N := N_silent_rank) (sc := defScope s_silent_rank) (by decide +kernel)) (fun _ _ _ _ _ => pg_name (i := 2) nd rfl (Or.inl rfl)) (fun _ _ _ _ _ => pts_nil) (fun _ _ _ _ _ => (pe_k c_totient_of hr (by decide) (by rfl) (pa_cons (pv 2) pa_nil)))) pa_nil)))))), ?_⟩
    refine ⟨_, rfl, _, rfl, n, a, ss, rfl, n1, n2, hs, ha, fun H1 s1 => ?_⟩
    have ha1 := Same.sqT s1 ha
    refine ⟨_, rfl, _, rfl, a, rfl, ⟨_, ha1⟩, fun R hR => lc_it (walk_tup (xs := nV ss)) (fun i H' => Same H1 H' ∧ H' R = some (.lst (((ss.take i).map fun d => (((cz d).length - 1 : Nat) : Int)).map V.int)))
      ⟨same_new hR, upd_same⟩ (fun i H' _ z => Same.sqT z.1 ha1) ?_ ?_⟩
    · rintro i x G G' hi ⟨sG, eG⟩ ⟨eH, hx⟩
      obtain rfl := eH.symm
      rw [nV_len] at hi
      obtain ⟨d, hd, rfl⟩ := nV_get hx
      obtain ⟨d1, d2, d3⟩ := sub_mem hs (List.mem_of_getElem? hd)
      refine ⟨rfl, _, rfl, d, rfl, d1, by omega, fun ps G1 hp s2 => ?_⟩
      have C := czs d1 (by omega : d ≤ 200)
      obtain rfl := hp.uniq C.parts
      refine ⟨_, s2 _ _ eG, ?_, same_own (sG.trans s2) hR, ?_⟩
      · rw [List.length_map, List.length_map, List.length_take]
        exact small1000 (by omega)
      · rw [upd_same, List.take_succ, hd, List.map_append, List.map_append]
        show some (HO.lst (_ ++ [V.int ((totP (pf d) : Nat) : Int)])) = some (HO.lst (_ ++ [V.int (((cz d).length - 1 : Nat) : Int)]))
        rw [C.len, Nat.add_sub_cancel]
    · rintro G ⟨sG, eG⟩
      rw [nV_len, List.take_length] at eG
      refine ⟨R, _, rfl, .inl (.inl eG), _, _, rfl, rfl, ?_⟩
      have z := q G (s1.trans sG)
      obtain ⟨ts, R2⟩ := Rest.of (n := n) hs
      have hdg := R2.dg n1 n2
      rw [dg_sum]
      show Q (V.int ((n : Int) - ((dgP ss : Nat) : Int))) G
      rw [show ((n : Nat) : Int) - ((dgP ss : Nat) : Int) = ((n - dgP ss : Nat) : Int) by omega]
      exact z
def spRule (K : PySem.W.Frag) : Sp := fun vs H Q _ => ∃ (n : Nat) (a : Addr) (ss : List Nat), vs = [.int (n : Nat), .ref a] ∧ 1 ≤ n ∧ n ≤ 36 ∧ SubL n ss ∧ SqT K H a (nV ss) ∧ ∀ (ts : List Nat) (p : Addr) (H' : Hp), Rest n ss ts → Same H H' → TAt H' p (facL ts) → Q (.ref p) H'
theorem c_rule_of (D : At K mg "rule_of" s_rule_of ["size", "divisors"]) (c_exact_by : Cal P w K mg base 4 "exact_by" spExact) (c_round_polynomial : Cal P w K mg base 1 "round_polynomial" spRoundP) (c_factor_of : Cal P w K mg base 6 "factor_of" (spFac K)) : Cal P w K mg base 7 "rule_of" (spRule K) := by
  refine okC D sc_rule_of (fun vs H Q E h => ?_) (fun f cdv A outer s H vs Q E hr h => ?_)
  · obtain ⟨n, a, ss, rfl, _⟩ := h
    rfl
  · obtain ⟨n, a, ss, rfl, n1, n2, hs, ha, q⟩ := h
    have nd := sc_rule_of.nd
    have l9 := sub_len hs n1 n2
    obtain ⟨ts, R⟩ := Rest.of (n := n) hs
    obtain ⟨x1, x2⟩ := R.exact n1 n2
    obtain ⟨mf, bf, lf⟩ := fac_ok (fun e he => ⟨(sub_mem hs he).1, (sub_mem hs he).2.1⟩) n2 l9
    have hdg := R.dg n1 n2
    have lc := cl_len (n := n) (by omega)
    have bc : Bd 2 (cl n) := fun x hx => by
      unfold cl at hx
      rcases List.mem_cons.mp hx with y | y
      · subst y; decide
      · rcases List.mem_append.mp y with y | y
        · rw [(List.mem_replicate.mp y).2]; decide
        · rw [List.mem_singleton.mp y]; decide
    refine ⟨_, (pss_one (ps_ret (pe_k c_exact_by hr (by decide) (by rfl) (pa_cons (pe_k c_round_polynomial hr (by decide) (by rfl) (pa_cons (pv 0) pa_nil)) (pa_cons (pe_k c_factor_of hr (by decide) (by rfl) (pa_cons (pv 1) pa_nil)) pa_nil))))), ?_⟩
    refine ⟨_, rfl, n, rfl, n1, by omega, fun pR H1 s1 eR => ?_⟩
    refine ⟨_, rfl, n, a, ss, rfl, n1, n2, hs, Same.sqT s1 ha, fun pF H2 s2 eF => ?_⟩
    refine ⟨pR, pF, _, _, 2, 118, rfl, eR.same s2, eF, (cl_mo n).nf, mf, by omega, by omega, bc, bf, by decide, by omega, fun _ p H3 s3 e3 => ?_, fun z => absurd x2 z⟩
    rw [x1] at e3
    exact q ts p H3 R (s1.trans (s2.trans s3)) e3
end
end K8

set_option Elab.async false
set_option linter.all false
set_option maxRecDepth 100000
set_option maxHeartbeats 4000000
set_option exponentiation.threshold 20000
namespace K8
open PySem PySem.Spec PyProof.Rows L2 Gd Pv RZ Po Nm
section
variable {P : Program} {w : World} {K : PySem.W.Frag} {mg : Str → Option Value} {base : Heap}
theorem car_succ (r : List Int) : ∀ (m : Nat) (v : List Int), car r (m + 1) v = car r m v ++ [nxt r (car r m v)]
  | 0, v => rfl
  | m + 1, v => car_succ r m (v ++ [nxt r v])
theorem sum_of (n : Nat) (F : Int → Int) : (of n F).sum = S n F := by
  induction n with
  | zero => rfl
  | succ n ih =>
    have e : of (n + 1) F = of n F ++ [F n] := by unfold of; rw [List.range_succ, List.map_append]; rfl
    rw [e, List.sum_append, ih]
    show S n F + (F n + 0) = S n F + F n
    omega
theorem nxt_abs {r v : List Int} {c e : Nat} (hr : Bd e r) (hv : Bd c v) (u : (co r 0).natAbs = 1) (hl : r.length ≤ 37) : (nxt r v).natAbs < 2 ^ (c + e + 6) ∧ (S (r.length - 1) fun k => co r (k + 1) * co v ((v.length : Int) - (k + 1))).natAbs < 2 ^ (c + e + 6) := by
  have h1 := S_abs (n := r.length - 1) (F := fun k => co r (k + 1) * co v ((v.length : Int) - (k + 1))) (B := 2 ^ e * 2 ^ c) fun j _ => by
    rw [Int.natAbs_mul]
    exact Nat.mul_le_mul (Nat.le_of_lt (hr.co _)) (Nat.le_of_lt (hv.co _))
  have h2 : (r.length - 1) * (2 ^ e * 2 ^ c) ≤ 36 * (2 ^ e * 2 ^ c) := Nat.mul_le_mul_right _ (by omega)
  have h3 : (2 : Nat) ^ (c + e + 6) = 64 * (2 ^ e * 2 ^ c) := by rw [Nat.pow_add, Nat.pow_add, Nat.mul_comm (2 ^ c)]; rw [Nat.mul_comm]
  have h4 : 0 < 2 ^ e * 2 ^ c := Nat.mul_pos (Nat.pow_pos (by decide)) (Nat.pow_pos (by decide))
  have h5 : (S (r.length - 1) fun k => co r (k + 1) * co v ((v.length : Int) - (k + 1))).natAbs < 2 ^ (c + e + 6) := by omega
  refine ⟨?_, h5⟩
  unfold nxt
  rw [Int.natAbs_mul, Int.natAbs_neg, u, Nat.one_mul]
  exact h5
theorem bd_car {r : List Int} {e : Nat} (hr : Bd e r) (u : (co r 0).natAbs = 1) (hl : r.length ≤ 37) {c : Nat} {v : List Int} (hv : Bd c v) : ∀ m, Bd (c + (e + 6) * m) (car r m v)
  | 0 => hv
  | m + 1 => by
    have ih := bd_car hr u hl hv m
    rw [car_succ]
    intro x hx
    rcases List.mem_append.mp hx with z | z
    · exact Nat.lt_of_lt_of_le (ih x z) (Nat.pow_le_pow_right (by decide) (by rw [Nat.mul_succ]; omega))
    · rw [List.mem_singleton.mp z]
      have := (nxt_abs hr ih u hl).1
      rw [Nat.mul_succ]
      exact Nat.lt_of_lt_of_le this (Nat.pow_le_pow_right (by decide) (by omega))
theorem unit_abs {x : Int} (h : x * x = 1) : x.natAbs = 1 := by
  have h2 : x.natAbs * x.natAbs = 1 := by
    have := congrArg Int.natAbs h
    rwa [Int.natAbs_mul] at this
  exact Nat.dvd_one.mp ⟨_, h2.symm⟩
def spCar (K : PySem.W.Frag) : Sp := fun vs H Q _ => ∃ (n d c : Nat) (a b : Addr) (r ws : List Int), vs = [.int (n : Nat), .ref a, .ref b] ∧ n ≤ 36 ∧ d ≤ n ∧ TAt H a r ∧ r.length = d + 1 ∧ co r 0 * co r 0 = 1 ∧ Bd 118 r ∧ SqT K H b (ws.map V.int) ∧ ws.length = d ∧ Bd c ws ∧ c ≤ 200 ∧
  ∀ (p : Addr) (H' : Hp), Same H H' → TAt H' p (car r (n - d) ws) → Q (.ref p) H'
theorem c_carried_on (D : At K mg "carried_on" s_carried_on ["size", "rule", "weights"]) (z_len : mg "len" = none) (z_list : mg "list" = none) (z_range : mg "range" = none) (z_sum : mg "sum" = none) (z_tuple : mg "tuple" = none) : Cal P w K mg base 1 "carried_on" (spCar K) := by
  refine okC D sc_carried_on (fun vs H Q E h => ?_) (fun f cdv A outer s H vs Q E hr h => ?_)
  · obtain ⟨n, d, c, a, b, r, ws, rfl, _⟩ := h
    rfl
  · obtain ⟨n, d, c, a, b, r, ws, rfl, n2, hd, ha, lr, r0, br, hb, lw, bw, hc, q⟩ := h
    have nd := sc_carried_on.nd
    have u := unit_abs r0
    refine ⟨_, (pss_cons (ps_set (i := 3) nd rfl (.inl rfl) (pe_op op_sub (pe_callB call_len_seq (by rfl) z_len PySem.boot_len (pa_cons (pv 1) pa_nil)) pe_int))
 (pss_cons (ps_set (i := 4) nd rfl (.inr rfl) (pe_callTy call_list_of (by rfl) z_list (by decide +kernel) (pa_cons (pv 2) pa_nil)))
 (pss_cons (ps_for PassesOwn.never rfl (pi_range2 (by rfl) z_range (pa_cons (pv 3) (pa_cons (pv 0) pa_nil))) (pg_name (i := 5) nd rfl (.inr rfl))
 (pss_one (ps_expr (pe_bm PySem.F.plainAttrs_list PySem.F.slot_list_append PySem.F.type_list_append mt_append (pv 4) (pa_cons (pe_op op_mulW (pe_un un_neg (pe_ix ix_tup (pv 1) pe_int (fun _ _ => rfl))) (pe_callB (cr_sum rfl) (by rfl) z_sum (by decide +kernel) (pa_cons (pe_lc (own := [("k", 6)]) rfl nd (pi_range2 (by rfl) z_range (pa_cons pe_int (pa_cons (pe_op op_add (pv 3) pe_int) pa_nil))) (blkOk_by (N := N_carried_on) (sc := defScope s_carried_on) (by decide +kernel)) (fun _ _ _ _ _ => pg_name (i := 6) nd rfl (Or.inl rfl)) (fun _ _ _ _ _ => pts_nil) (fun _ _ _ _ _ => (pe_op op_mulW (pe_ix (r := rIxT K) ix_tup (pv 1) (pv 6) (fun _ _ => rfl)) (pe_ix (r := rIxL K) ix_list (pv 4) (pe_op op_sub (pv 5) (pv 6)) (fun _ _ => rfl))))) pa_nil))) pa_nil)))))
 (pss_one (ps_ret (pe_tupleOf (by rfl) z_tuple (pv 4))))))), ?_⟩
    refine ⟨_, rfl, a, _, rfl, .inr ha.sq, _, _, rfl, rfl, ?_⟩
    refine ⟨_, rfl, b, _, rfl, .inr hb, fun L hL => ?_⟩
    have sL := same_new (o := .lst (ws.map V.int)) hL
    have eL : LAt (upd H L (.lst (ws.map V.int))) L ws := upd_same
    generalize upd H L (.lst (ws.map V.int)) = H1 at sL eL ⊢
    refine ⟨_, rfl, _, rfl, (d : Int), (n : Int), by rw [List.length_map, lr]; show [V.int (((d + 1 : Nat) : Int) - 1), V.int (n : Nat)] = _; rw [show ((d + 1 : Nat) : Int) - 1 = (d : Int) by omega], ⟨by omega, by omega, by omega, by omega⟩, ?_⟩
    rw [show ((n : Int) - (d : Int)).toNat = n - d by omega]
    refine for_it walk_range (fun i σ H' => ∃ y5 y6 : Option V, σ = [some (.int (n : Nat)), some (.ref a), some (.ref b), some (.int (d : Nat)), some (.ref L), y5, y6] ∧ Same H H' ∧ LAt H' L (car r i ws))
      ⟨_, _, by rw [List.length_map, lr]; show [_, _, _, some (V.int (((d + 1 : Nat) : Int) - 1)), _, _, _] = _; rw [show ((d + 1 : Nat) : Int) - 1 = (d : Int) by omega], sL, eL⟩ (fun _ _ _ _ _ => True.intro) ?_ ?_
    · rintro i x σ G G' hi ⟨y5, y6, rfl, sG, eG⟩ ⟨eH, rfl⟩
      obtain rfl := eH.symm
      have lc := car_len r i ws
      have bc := bd_car (e := 118) br u (by omega) bw i
      have hbits : c + (118 + 6) * i ≤ 200 + 124 * 36 := by
        have := Nat.mul_le_mul_left 124 (by omega : i ≤ 36)
        omega
      have ha1 := ha.same sG
      refine ⟨_, rfl, .inl ⟨rfl, _, .inl (.inl eG)⟩, ?_⟩
      refine ⟨_, rfl, a, _, _, _, rfl, rfl, ha1.sq, at_co (j := 0) (by omega) rfl, _, rfl, ?_⟩
      refine ⟨_, rfl, _, _, rfl, rfl, 1, (d : Int) + 1, rfl, ⟨by omega, by omega, by omega, by omega⟩, fun R hR => ?_⟩
      rw [show ((d : Int) + 1 - 1).toNat = d by omega]
      have nRL : L ≠ R := fun z => by
        have e2 : G L = _ := eG
        rw [z, hR] at e2
        cases e2
      refine lcR (fun j : Nat => V.int (co r ((j : Int) + 1) * co (car r i ws) (((car r i ws).length : Int) - ((j : Int) + 1)))) hR (by omega) ?_ ?_
      · intro j H' Y hj sm h1
        refine ⟨rfl, _, rfl, _, rfl, a, _, _, _, rfl, rfl, (ha1.same sm).sq, at_co (j := j + 1) (by omega) (by omega), ?_⟩
        refine ⟨_, rfl, _, rfl, _, rfl, _, _, rfl, rfl, L, _, _, _, rfl, rfl, .inl (.inl (sm _ _ eG)), at_co (j := (car r i ws).length - (j + 1)) (by omega) (by omega), ?_⟩
        refine ⟨_, _, rfl, rfl, wide_mul (a := 118) (b := c + (118 + 6) * i + 1) (br.co _) (Nat.lt_trans (bc.co _) (Nat.pow_lt_pow_right (by decide) (by omega))) (by decide) (by omega) (by omega), ?_⟩
        have z := h1 H' (Same.refl _)
        rw [show ((j : Int) + 1) = ((j + 1 : Nat) : Int) by omega, show ((car r i ws).length : Int) - ((j + 1 : Nat) : Int) = (((car r i ws).length - (j + 1) : Nat) : Int) by omega] at z
        exact z
      · intro H' sm hd'
        have hd2 : H' R = some (.lst ((of d fun k => co r (k + 1) * co (car r i ws) (((car r i ws).length : Int) - (k + 1))).map V.int)) := by
          rw [hd']
          unfold of
          rw [List.map_map]
          rfl
        have na := nxt_abs br bc u (by omega)
        rw [show r.length - 1 = d by omega] at na
        refine ⟨R, _, rfl, .inl (.inl hd2), _, _, rfl, rfl, ?_⟩
        rw [sum_of]
        refine ⟨wide_mul (a := 2) (b := c + (118 + 6) * i + 118 + 6) (by rw [Int.natAbs_neg]; show (co r 0).natAbs < 2 ^ 2; rw [u]; decide) na.2 (by decide) (by omega) (by omega), L, _, _, rfl, rfl, sm _ _ eG, ?_, ?_⟩
        · rw [List.length_map, lc, sizeLine_eq]
          omega
        · refine ⟨_, _, rfl, same_own (sG.trans sm) hL, ?_⟩
          show upd H' L _ L = _
          rw [upd_same, car_succ, List.map_append]
          unfold nxt
          rw [show r.length - 1 = d by omega]
          rfl
    · rintro σ G ⟨y5, y6, rfl, sG, eG⟩
      refine ⟨_, rfl, .inl ⟨L, _, rfl, .inl (.inl eG), fun t ht => ?_⟩⟩
      exact q t _ (sG.trans (same_new ht)) upd_same
end
end K8

set_option Elab.async false
set_option linter.all false
set_option maxRecDepth 100000
set_option maxHeartbeats 4000000
set_option exponentiation.threshold 20000
namespace K8
open PySem PySem.Spec PyProof.Rows L2 Gd Pv RZ Po Nm
section
variable {P : Program} {w : World} {K : PySem.W.Frag} {mg : Str → Option Value} {base : Heap}
/-- the voice with 1 at one of the first beats -/
def unitL (d k : Nat) : List Int := of d (ind d [(k : Int)])
theorem unit_bd (d k : Nat) : Bd 1 (unitL d k) := bd_of fun j _ => by
  unfold ind
  split <;> decide
theorem rest_ok {n : Nat} {ss ts : List Nat} (R : Rest n ss ts) (h1 : 1 ≤ n) (h2 : n ≤ 36) : Mo (facL ts) ∧ Bd 118 (facL ts) ∧ (facL ts).length = dgP ts + 1 ∧ n - dgP ss = dgP ts ∧ dgP ts ≤ n := by
  have key : ((List.range 37).all fun n => decide ((dv0 n).length ≤ 9)) = true := by decide +kernel
  have h3 := of_decide_eq_true (List.all_eq_true.mp key n (List.mem_range.mpr (by omega)))
  have h4 := R.perm.length_eq
  rw [List.length_append] at h4
  have hm : ∀ d ∈ ts, 1 ≤ d ∧ d ≤ n := fun d hd => by
    have : d ∈ dvs n := R.perm.mem_iff.mpr (List.mem_append_right _ hd)
    exact ⟨dvs_pos this, dvs_le this⟩
  obtain ⟨a, b, c⟩ := fac_ok hm h2 (by omega)
  have := R.dg h1 h2
  exact ⟨a, b, by omega, by omega, by omega⟩
def spBasis (K : PySem.W.Frag) : Sp := fun vs H Q _ => ∃ (n : Nat) (a : Addr) (ss : List Nat), vs = [.int (n : Nat), .ref a] ∧ 1 ≤ n ∧ n ≤ 36 ∧ SubL n ss ∧ SqT K H a (nV ss) ∧
  ∀ (ts : List Nat) (p : Addr) (as : List Addr) (H' : Hp), Rest n ss ts → Same H H' → H' p = some (.tup (as.map V.ref)) → as.length = dgP ts → (∀ k b, as[k]? = some b → TAt H' b (car (facL ts) (n - dgP ts) (unitL (dgP ts) k))) → Q (.ref p) H'
theorem c_silent_basis (D : At K mg "silent_basis" s_silent_basis ["size", "divisors"]) (c_silent_rank : Cal P w K mg base 6 "silent_rank" (spRank K)) (c_rule_of : Cal P w K mg base 7 "rule_of" (spRule K)) (c_carried_on : Cal P w K mg base 1 "carried_on" (spCar K)) (c_voice_of : Cal P w K mg base 5 "voice_of" spVoiceOf)
    (z_range : mg "range" = none) (z_tuple : mg "tuple" = none) : Cal P w K mg base 8 "silent_basis" (spBasis K) := by
  refine okC D sc_silent_basis (fun vs H Q E h => ?_) (fun f cdv A outer s H vs Q E hr h => ?_)
  · obtain ⟨n, a, ss, rfl, _⟩ := h
    rfl
  · obtain ⟨n, a, ss, rfl, n1, n2, hs, ha, q⟩ := h
    have nd := sc_silent_basis.nd
    refine ⟨_, (pss_cons (ps_set (i := 2) nd rfl (.inr rfl) (pe_k c_silent_rank hr (by decide) (by rfl) (pa_cons (pv 0) (pa_cons (pv 1) pa_nil))))
 (pss_cons (ps_set (i := 3) nd rfl (.inr rfl) (pe_k c_rule_of hr (by decide) (by rfl) (pa_cons (pv 0) (pa_cons (pv 1) pa_nil))))
 (pss_one (ps_ret (pe_tupleOf (by rfl) z_tuple (pe_lc (own := [("beat", 4)]) rfl nd (pi_range1 (by rfl) z_range (pa_cons (pv 2) pa_nil)) (blkOk_by (N := N_silent_basis) (sc := defScope s_silent_basis) (by decide +kernel)) (fun _ _ _ _ _ => pg_name (i := 4) nd rfl (Or.inl rfl)) (fun _ _ _ _ _ => pts_nil) (fun _ _ _ _ _ => (pe_k c_carried_on hr (by decide) (by rfl) (pa_cons (pv 0) (pa_cons (pv 3) (pa_cons (pe_k c_voice_of hr (by decide) (by rfl) (pa_cons (pv 2) (pa_cons (pe_tup (pa_cons (pv 4) pa_nil)) pa_nil))) pa_nil))))))))))), ?_⟩
    refine ⟨_, rfl, _, rfl, n, a, ss, rfl, n1, n2, hs, ha, fun H1 s1 => ?_⟩
    refine ⟨_, rfl, _, rfl, n, a, ss, rfl, n1, n2, hs, Same.sqT s1 ha, fun ts pR H2 R s2 eR => ?_⟩
    obtain ⟨mt, bt, lt, hd, hle⟩ := rest_ok R n1 n2
    rw [hd]
    refine ⟨_, rfl, dgP ts, rfl, by omega, by omega, fun L hL => ?_⟩
    rw [Int.toNat_natCast]
    refine lc_it walk_range (fun i H' => ∃ as : List Addr, as.length = i ∧ Same H2 H' ∧ H' L = some (.lst (as.map V.ref)) ∧ ∀ k b, as[k]? = some b → TAt H' b (car (facL ts) (n - dgP ts) (unitL (dgP ts) k)))
      ⟨[], rfl, same_new hL, upd_same, fun k b h => by simp at h⟩ (fun _ _ _ _ => True.intro) ?_ ?_
    · rintro i x G G' hi ⟨as, rfl, sG, eG, hA⟩ ⟨eH, rfl⟩
      obtain rfl := eH.symm
      refine ⟨rfl, _, rfl, _, rfl, _, rfl, _, rfl, (by show 1 ≤ sizeLine; decide), fun t ht => ?_⟩
      have st := same_new (o := .tup [V.int (0 + (as.length : Int))]) ht
      have et : TAt (upd G t (.tup [V.int (0 + (as.length : Int))])) t [(as.length : Int)] := by
        show upd _ t _ t = _
        rw [upd_same, Int.zero_add]
        rfl
      generalize upd G t (.tup [V.int (0 + (as.length : Int))]) = G1 at st et ⊢
      refine ⟨t, [(as.length : Int)], dgP ts, rfl, et, ⟨List.pairwise_singleton _ _, fun x hx => by rw [List.mem_singleton.mp hx]; omega, fun x hx => by rw [List.mem_singleton.mp hx]; omega⟩, by omega, by omega, fun pU G2 s3 eU => ?_⟩
      refine ⟨n, dgP ts, 1, pR, pU, facL ts, unitL (dgP ts) as.length, rfl, n2, hle, eR.same (sG.trans (st.trans s3)), lt, R.unit n1 n2, bt, eU.sq, by unfold unitL; rw [of_len], unit_bd _ _, by decide, fun pV G3 s4 eV => ?_⟩
      have sA := st.trans (s3.trans s4)
      have eG3 := sA _ _ eG
      refine ⟨_, eG3, by rw [List.length_map]; exact small1000 (by omega), as ++ [pV], by rw [List.length_append]; rfl, same_own (sG.trans sA) hL, by rw [upd_same, List.map_append]; rfl, fun k b h => ?_⟩
      by_cases z : k < as.length
      · rw [List.getElem?_append_left z] at h
        exact TAt.own ((hA k b h).same sA) eG3
      · rw [List.getElem?_append_right (by omega)] at h
        have hk : k - as.length = 0 := by
          cases y : k - as.length with
          | zero => rfl
          | succ m => rw [y] at h; simp at h
        rw [hk] at h
        have hb : pV = b := by simpa using h
        have hke : k = as.length := by omega
        rw [← hb, hke]
        exact TAt.own eV eG3
    · rintro G ⟨as, la, sG, eG, hA⟩
      refine .inl ⟨L, _, rfl, .inl (.inl eG), fun t ht => ?_⟩
      have st := same_new (o := .tup (as.map V.ref)) ht
      exact q ts t as _ R (s1.trans (s2.trans (sG.trans st))) upd_same la fun k b h => (hA k b h).same st
def spFrom (K : PySem.W.Frag) : Sp := fun vs H Q _ => ∃ (n : Nat) (a b : Addr) (ss : List Nat) (ws : List Int), vs = [.int (n : Nat), .ref a, .ref b] ∧ 1 ≤ n ∧ n ≤ 36 ∧ SubL n ss ∧ SqT K H a (nV ss) ∧ TAt H b ws ∧ ws.length = n - dgP ss ∧ Bd 200 ws ∧
  ∀ (ts : List Nat) (p : Addr) (H' : Hp), Rest n ss ts → Same H H' → TAt H' p (car (facL ts) (n - dgP ts) ws) → Q (.ref p) H'
theorem c_silent_from (D : At K mg "silent_from" s_silent_from ["size", "divisors", "weights"]) (c_silent_rank : Cal P w K mg base 6 "silent_rank" (spRank K)) (c_need : Cal P w K mg base 1 "need" spNeed) (c_are_integers : Cal P w K mg base 2 "are_integers" (spAreIntsD K)) (c_rule_of : Cal P w K mg base 7 "rule_of" (spRule K)) (c_carried_on : Cal P w K mg base 1 "carried_on" (spCar K))
    (z_len : mg "len" = none) : Cal P w K mg base 8 "silent_from" (spFrom K) := by
  refine okC D sc_silent_from (fun vs H Q E h => ?_) (fun f cdv A outer s H vs Q E hr h => ?_)
  · obtain ⟨n, a, b, ss, ws, rfl, _⟩ := h
    rfl
  · obtain ⟨n, a, b, ss, ws, rfl, n1, n2, hs, ha, hb, lw, bw, q⟩ := h
    have nd := sc_silent_from.nd
    refine ⟨_, (pss_cons (ps_set (i := 3) nd rfl (.inl rfl) (pe_k c_silent_rank hr (by decide) (by rfl) (pa_cons (pv 0) (pa_cons (pv 1) pa_nil))))
 (pss_cons (ps_expr (pe_k c_need hr (by decide) (by rfl) (pa_cons (pe_and (pe_k c_are_integers hr (by decide) (by rfl) (pa_cons (pv 2) pa_nil)) (pe_one (pe_cmpR op_eq (pe_callB call_len_seq (by rfl) z_len PySem.boot_len (pa_cons (pv 2) pa_nil)) (pv 3) (nomark _)))) (pa_cons pe_str pa_nil))))
 (pss_one (ps_ret (pe_k c_carried_on hr (by decide) (by rfl) (pa_cons (pv 0) (pa_cons (pe_k c_rule_of hr (by decide) (by rfl) (pa_cons (pv 0) (pa_cons (pv 1) pa_nil))) (pa_cons (pv 2) pa_nil)))))))), ?_⟩
    refine ⟨_, rfl, _, rfl, n, a, ss, rfl, n1, n2, hs, ha, fun H1 s1 => ?_⟩
    refine ⟨_, rfl, _, _, rfl, dpT (hb.same s1), fun ds e => ?_, fun H2 s2 => ?_⟩
    · injection e with e
      rw [← e, List.length_map]
      omega
    have hb2 := hb.same (s1.trans s2)
    refine ⟨_, rfl, ?_⟩
    rw [show areI (dT ws) = true by show (intsD (.tuple (ws.map PyData.int))).isSome = true; rw [intsD_map]; rfl]
    refine iteT ⟨_, rfl, b, _, rfl, .inr hb2.sq, _, rfl, rfl, _, by rw [List.length_map, lw, decide_eq_true rfl], ?_⟩
    refine ⟨_, rfl, _, rfl, _, rfl, n, a, ss, rfl, n1, n2, hs, Same.sqT (s1.trans s2) ha, fun ts pR H3 R s3 eR => ?_⟩
    obtain ⟨mt, bt, lt, hd, hle⟩ := rest_ok R n1 n2
    exact ⟨_, rfl, n, dgP ts, 200, pR, b, facL ts, ws, rfl, n2, hle, eR, lt, R.unit n1 n2, bt, (hb2.same s3).sq, by omega, bw, by decide, fun p H4 s4 e4 => q ts p H4 R (s1.trans (s2.trans (s3.trans s4))) e4⟩
/-- the voice that is told -/
def silV (n : Nat) (ss : List Nat) : List Int := if dgP ss < n then of n (co (facL ss)) else List.replicate n 0
def spSilV (K : PySem.W.Frag) : Sp := fun vs H Q _ => ∃ (n : Nat) (a : Addr) (ss : List Nat), vs = [.int (n : Nat), .ref a] ∧ 1 ≤ n ∧ n ≤ 36 ∧ SubL n ss ∧ SqT K H a (nV ss) ∧ ∀ (p : Addr) (H' : Hp), Same H H' → TAt H' p (silV n ss) → Q (.ref p) H'
theorem c_silent_voice (D : At K mg "silent_voice" s_silent_voice ["size", "divisors"]) (c_need_divisors : Cal P w K mg base 5 "need_divisors" (spNeedDO K)) (c_factor_of : Cal P w K mg base 6 "factor_of" (spFac K)) (c_padded : Cal P w K mg base 1 "padded" spPad) (z_len : mg "len" = none) : Cal P w K mg base 7 "silent_voice" (spSilV K) := by
  refine okC D sc_silent_voice (fun vs H Q E h => ?_) (fun f cdv A outer s H vs Q E hr h => ?_)
  · obtain ⟨n, a, ss, rfl, _⟩ := h
    rfl
  · obtain ⟨n, a, ss, rfl, n1, n2, hs, ha, q⟩ := h
    have nd := sc_silent_voice.nd
    obtain ⟨ts, R⟩ := Rest.of (n := n) hs
    have lf := (mo_fac (R.mo n2).1).2
    refine ⟨_, (pss_cons (ps_expr (pe_k c_need_divisors hr (by decide) (by rfl) (pa_cons (pv 0) (pa_cons (pv 1) pa_nil))))
 (pss_cons (ps_set (i := 2) nd rfl (.inl rfl) (pe_k c_factor_of hr (by decide) (by rfl) (pa_cons (pv 1) pa_nil)))
 (pss_one (ps_ret (pe_ifExp (pt_cmpR op_le (pe_callB call_len_seq (by rfl) z_len PySem.boot_len (pa_cons (pv 2) pa_nil)) (pv 0) (nomark _)) (pe_k c_padded hr (by decide) (by rfl) (pa_cons (pv 2) (pa_cons (pv 0) pa_nil))) (pe_op op_repN (pe_tup (pa_cons pe_int pa_nil)) (pv 0))))))), ?_⟩
    refine ⟨_, rfl, _, rfl, n, a, ss, rfl, n1, n2, hs, ha, fun H1 s1 => ?_⟩
    refine ⟨_, rfl, n, a, ss, rfl, n1, n2, hs, Same.sqT s1 ha, fun pF H2 s2 eF => ?_⟩
    refine ⟨_, rfl, pF, _, rfl, .inr eF.sq, _, rfl, _, _, rfl, rfl, _, rfl, ite2 (fun c => ?_) (fun c => ?_)⟩
    · have c1 : ((facL ss).length : Int) ≤ (n : Int) := by
        have := of_decide_eq_true c
        rwa [List.length_map] at this
      refine ⟨_, rfl, _, rfl, pF, _, n, rfl, eF, by omega, by omega, fun p H3 s3 e3 => q p H3 (s1.trans (s2.trans s3)) ?_⟩
      unfold silV
      rw [if_pos (by omega)]
      exact e3
    · have c1 : ¬ ((facL ss).length : Int) ≤ (n : Int) := fun z => c (decide_eq_true (by rw [List.length_map]; exact z))
      refine ⟨(by show 1 ≤ sizeLine; decide), fun t ht => ?_⟩
      have st := same_new (o := .tup [V.int 0]) ht
      have et : TAt (upd H2 t (.tup [V.int 0])) t [0] := upd_same
      refine ⟨_, rfl, repK (m := n) et rfl (by omega) fun p H3 s3 e3 => q p H3 (s1.trans (s2.trans (st.trans s3))) ?_⟩
      unfold silV
      rw [if_neg (by omega)]
      exact e3
end
end K8

set_option Elab.async false
set_option linter.all false
set_option maxRecDepth 100000
set_option maxHeartbeats 4000000
set_option exponentiation.threshold 20000
namespace K8
open PySem PySem.Spec PyProof.Rows L2 Gd Pv RZ Po Nm
section
variable {P : Program} {w : World} {K : PySem.W.Frag} {mg : Str → Option Value} {base : Heap}
theorem c_silent_rankX {C : Addr} (D : At K mg "silent_rank" s_silent_rank ["size", "divisors"]) (c_need_divisorsX : CalX P w K mg base 5 "need_divisors" (spNeedDX C K)) : CalX P w K mg base 6 "silent_rank" (spNeedDX C K) := by
  refine okCX D sc_silent_rank (fun vs H Q E h => ?_) (fun f cdv A outer s H vs Q E hr h => ?_)
  · obtain ⟨v1, v2, d1, rfl, _⟩ := h
    rfl
  · obtain ⟨v1, v2, d1, rfl, h⟩ := h
    have nd := sc_silent_rank.nd
    refine ⟨_, (pss_cons (ps_expr (pe_kX c_need_divisorsX (takes_of rfl rfl rfl rfl) hr (by decide) (by rfl) (pa_cons (pv 0) (pa_cons (pv 1) pa_nil)))) (pss_one ps_never)), ?_⟩
    exact ⟨_, rfl, _, rfl, v1, v2, d1, rfl, h⟩
theorem c_silent_voiceX {C : Addr} (D : At K mg "silent_voice" s_silent_voice ["size", "divisors"]) (c_need_divisorsX : CalX P w K mg base 5 "need_divisors" (spNeedDX C K)) : CalX P w K mg base 6 "silent_voice" (spNeedDX C K) := by
  refine okCX D sc_silent_voice (fun vs H Q E h => ?_) (fun f cdv A outer s H vs Q E hr h => ?_)
  · obtain ⟨v1, v2, d1, rfl, _⟩ := h
    rfl
  · obtain ⟨v1, v2, d1, rfl, h⟩ := h
    have nd := sc_silent_voice.nd
    refine ⟨_, (pss_cons (ps_expr (pe_kX c_need_divisorsX (takes_of rfl rfl rfl rfl) hr (by decide) (by rfl) (pa_cons (pv 0) (pa_cons (pv 1) pa_nil)))) (pss_cons ps_never (pss_one ps_never))), ?_⟩
    exact ⟨_, rfl, _, rfl, v1, v2, d1, rfl, h⟩
theorem c_silent_basisX {C : Addr} (D : At K mg "silent_basis" s_silent_basis ["size", "divisors"]) (c_silent_rankX : CalX P w K mg base 6 "silent_rank" (spNeedDX C K)) : CalX P w K mg base 7 "silent_basis" (spNeedDX C K) := by
  refine okCX D sc_silent_basis (fun vs H Q E h => ?_) (fun f cdv A outer s H vs Q E hr h => ?_)
  · obtain ⟨v1, v2, d1, rfl, _⟩ := h
    rfl
  · obtain ⟨v1, v2, d1, rfl, h⟩ := h
    have nd := sc_silent_basis.nd
    refine ⟨_, (pss_cons (ps_set (i := 2) nd rfl (.inr rfl) (pe_kX c_silent_rankX (takes_of rfl rfl rfl rfl) hr (by decide) (by rfl) (pa_cons (pv 0) (pa_cons (pv 1) pa_nil)))) (pss_cons ps_never (pss_one ps_never))), ?_⟩
    exact ⟨_, rfl, _, rfl, v1, v2, d1, rfl, h⟩
/-- silent_from of what is none: a size, divisors, or weights -/
def spFromX (C : Addr) (K : PySem.W.Frag) : Sp := fun vs H Q E => ∃ (v1 v2 v3 : V), vs = [v1, v2, v3] ∧ (spNeedDX C K [v1, v2] H Q E ∨
  ∃ (n : Nat) (a : Addr) (ss : List Nat) (d3 : PyData), v1 = .int (n : Nat) ∧ v2 = .ref a ∧ 1 ≤ n ∧ n ≤ 36 ∧ SubL n ss ∧ SqT K H a (nV ss) ∧ Dp K H v3 d3 ∧ (∀ ds, d3 = .tuple ds → ds.length ≤ 900) ∧ (∀ ns, intsD d3 = some ns → ns.length ≠ n - dgP ss) ∧ Nu C "weights" H E)
theorem c_silent_fromX {C : Addr} (D : At K mg "silent_from" s_silent_from ["size", "divisors", "weights"]) (c_silent_rankX : CalX P w K mg base 6 "silent_rank" (spNeedDX C K)) (c_needX : CalX P w K mg base 3 "need" (spNeedX C)) (c_silent_rank : Cal P w K mg base 6 "silent_rank" (spRank K))
    (c_are_integers : Cal P w K mg base 2 "are_integers" (spAreIntsD K)) (z_len : mg "len" = none) : CalX P w K mg base 7 "silent_from" (spFromX C K) := by
  refine okCX D sc_silent_from (fun vs H Q E h => ?_) (fun f cdv A outer s H vs Q E hr h => ?_)
  · obtain ⟨v1, v2, v3, rfl, _⟩ := h
    rfl
  · obtain ⟨v1, v2, v3, rfl, h⟩ := h
    have nd := sc_silent_from.nd
    rcases h with h | ⟨n, a, ss, d3, rfl, rfl, n1, n2, hs, ha, h3, hz, hw, q⟩
    · refine ⟨_, (pss_cons (ps_set (i := 3) nd rfl (.inl rfl) (pe_kX c_silent_rankX (takes_of rfl rfl rfl rfl) hr (by decide) (by rfl) (pa_cons (pv 0) (pa_cons (pv 1) pa_nil)))) (pss_cons ps_never (pss_one ps_never))), ?_⟩
      exact ⟨_, rfl, _, rfl, h⟩
    · refine ⟨_, (pss_cons (ps_set (i := 3) nd rfl (.inl rfl) (pe_k c_silent_rank hr (by decide) (by rfl) (pa_cons (pv 0) (pa_cons (pv 1) pa_nil))))
 (pss_cons (ps_expr (pe_kX c_needX (takes_of rfl rfl rfl rfl) hr (by decide) (by rfl) (pa_cons (pe_and (pe_k c_are_integers hr (by decide) (by rfl) (pa_cons (pv 2) pa_nil)) (pe_one (pe_cmpR op_eq (pe_callB call_len_seq (by rfl) z_len PySem.boot_len (pa_cons (pv 2) pa_nil)) (pv 3) (nomark _)))) (pa_cons pe_str pa_nil))))
 (pss_one ps_never))), ?_⟩
      refine ⟨_, rfl, _, rfl, n, a, ss, rfl, n1, n2, hs, ha, fun H1 s1 => ?_⟩
      refine ⟨_, rfl, v3, d3, rfl, h3.same s1, hz, fun H2 s2 => ⟨_, rfl, ?_⟩⟩
      cases e : intsD d3 with
      | none =>
        rw [show areI d3 = false by unfold areI; rw [e]; rfl]
        exact iteF ⟨"weights", rfl, q.same (s1.trans s2)⟩
      | some ns =>
        rw [show areI d3 = true by unfold areI; rw [e]; rfl]
        obtain ⟨b, rfl, hb, rfl⟩ := (h3.same (s1.trans s2)).ints e
        refine iteT ⟨_, rfl, b, _, rfl, .inr hb, _, rfl, rfl, "weights", ?_, q.same (s1.trans s2)⟩
        rw [List.length_map]
        have hne : ¬ V.int (ns.length : Nat) = V.int ((n - dgP ss : Nat) : Int) := fun z => hw ns e (by have := V.int.inj z; omega)
        rw [decide_eq_false hne]
end
end K8

set_option Elab.async false
set_option linter.all false
set_option maxRecDepth 100000
set_option maxHeartbeats 4000000
set_option exponentiation.threshold 20000
namespace K8
open PySem PySem.Spec PyProof.Rows L2 Gd Pv RZ Po Nm
section
variable {P : Program} {w : World} {K : PySem.W.Frag} {mg : Str → Option Value} {base : Heap}
def isSc : PyData → Bool
  | .none => true
  | .bool _ => true
  | .int _ => true
  | .str _ => true
  | _ => false
/-- data of some depth, no list in it too long -/
def SmD : Nat → PyData → Prop
  | 0, d => isSc d = true
  | k + 1, d => isSc d = true ∨ ∃ ds, (d = .list ds ∨ d = .tuple ds) ∧ ds.length ≤ 900 ∧ ∀ e ∈ ds, SmD k e
def spSameR (K : PySem.W.Frag) (k : Nat) : Sp := fun vs H Q _ => ∃ (v1 v2 : V) (d : PyData), vs = [v1, v2] ∧ Dp K H v1 d ∧ Dp K H v2 d ∧ SmD k d ∧ ∀ H', Same H H' → Q (.bl true) H'
theorem c__law_same0 (D : At K mg "_law_same" s__law_same ["_law_due", "_law_told"]) (z_isinstance : mg "isinstance" = none) (z_tuple : mg "tuple" = none) (z_list : mg "list" = none) (z_str : mg "str" = none) (z_bool : mg "bool" = none) (z_int : mg "int" = none) :
    Cal P w K mg base 1 "_law_same" (spSameR K 0) := by
  refine okC D sc__law_same (fun vs H Q E h => ?_) (fun f cdv A outer s H vs Q E hr h => ?_)
  · obtain ⟨v1, v2, d, rfl, _⟩ := h
    rfl
  · obtain ⟨v1, v2, d, rfl, h1, h2, hs, q⟩ := h
    have nd := sc__law_same.nd
    refine ⟨_, (pss_cons (ps_if (PW.pt (pw_or (pt_val (pe_callB call_isi (by rfl) z_isinstance (by decide +kernel) (pa_cons (pv 0) (pa_cons (pe_bltn (by rfl) z_tuple (by decide +kernel) (v := .ty "tuple") rfl) pa_nil)))) (pw_or1 (pt_val (pe_callB call_isi (by rfl) z_isinstance (by decide +kernel) (pa_cons (pv 0) (pa_cons (pe_bltn (by rfl) z_list (by decide +kernel) (v := .ty "list") rfl) pa_nil)))))))
 (pss_cons ps_never (pss_cons ps_never (pss_one ps_never)))
 pss_nil)
 (pss_cons (ps_if (PW.pt (pw_or (pt_cmpR op_isN (pv 0) pe_non (nomark _)) (pw_or1 (pt_cmpR op_isN (pv 1) pe_non (nomark _)))))
 (pss_one (ps_ret (pe_and (pe_cmpR op_isN (pv 0) pe_non (nomark _)) (pe_one (pe_cmpR op_isN (pv 1) pe_non (nomark _))))))
 pss_nil)
 (pss_cons (ps_if (PW.pt (pw_or (pt_val (pe_callB call_isi (by rfl) z_isinstance (by decide +kernel) (pa_cons (pv 0) (pa_cons (pe_bltn (by rfl) z_str (by decide +kernel) (v := .ty "str") rfl) pa_nil)))) (pw_or1 (pt_val (pe_callB call_isi (by rfl) z_isinstance (by decide +kernel) (pa_cons (pv 1) (pa_cons (pe_bltn (by rfl) z_str (by decide +kernel) (v := .ty "str") rfl) pa_nil)))))))
 (pss_one (ps_ret (pe_and (pe_callB call_isi (by rfl) z_isinstance (by decide +kernel) (pa_cons (pv 0) (pa_cons (pe_bltn (by rfl) z_str (by decide +kernel) (v := .ty "str") rfl) pa_nil))) (pe_and (pe_callB call_isi (by rfl) z_isinstance (by decide +kernel) (pa_cons (pv 1) (pa_cons (pe_bltn (by rfl) z_str (by decide +kernel) (v := .ty "str") rfl) pa_nil))) (pe_one (pe_cmpR op_eq (pv 0) (pv 1) (nomark _)))))))
 pss_nil)
 (pss_cons (ps_if (PW.pt (pw_or (pt_val (pe_callB call_isi (by rfl) z_isinstance (by decide +kernel) (pa_cons (pv 0) (pa_cons (pe_bltn (by rfl) z_bool (by decide +kernel) (v := .ty "bool") rfl) pa_nil)))) (pw_or1 (pt_val (pe_callB call_isi (by rfl) z_isinstance (by decide +kernel) (pa_cons (pv 1) (pa_cons (pe_bltn (by rfl) z_bool (by decide +kernel) (v := .ty "bool") rfl) pa_nil)))))))
 (pss_one (ps_ret (pe_and (pe_callB call_isi (by rfl) z_isinstance (by decide +kernel) (pa_cons (pv 0) (pa_cons (pe_bltn (by rfl) z_bool (by decide +kernel) (v := .ty "bool") rfl) pa_nil))) (pe_and (pe_callB call_isi (by rfl) z_isinstance (by decide +kernel) (pa_cons (pv 1) (pa_cons (pe_bltn (by rfl) z_bool (by decide +kernel) (v := .ty "bool") rfl) pa_nil))) (pe_one (pe_cmpR op_eq (pv 0) (pv 1) (nomark _)))))))
 pss_nil)
 (pss_one (ps_ret (pe_and (pe_callB call_isi (by rfl) z_isinstance (by decide +kernel) (pa_cons (pv 0) (pa_cons (pe_bltn (by rfl) z_int (by decide +kernel) (v := .ty "int") rfl) pa_nil))) (pe_and (pe_callB call_isi (by rfl) z_isinstance (by decide +kernel) (pa_cons (pv 1) (pa_cons (pe_bltn (by rfl) z_int (by decide +kernel) (v := .ty "int") rfl) pa_nil))) (pe_one (pe_cmpR op_eq (pv 0) (pv 1) (nomark _))))))))))), ?_⟩
    have t1 := ty_of h1
    have t2 := ty_of h2
    have hs : isSc d = true := hs
    have q := q H (Same.refl _)
    refine ⟨_, rfl, _, _, _, _, _, rfl, .ty "tuple", t1, kd_tuple d, _, rfl, ?_⟩
    cases h1 with
    | lst _ _ => cases hs
    | tup _ _ => cases hs
    | non =>
      cases h2
      refine iteF ⟨_, rfl, _, _, _, _, _, rfl, .ty "list", t1, kd_list _, _, rfl, iteF ?_⟩
      refine ⟨_, rfl, rfl, _, rfl, ite2 (fun _ => ?_) (fun c => absurd (decide_eq_true rfl) c)⟩
      refine ⟨_, rfl, rfl, _, rfl, ite2 (fun _ => ⟨_, rfl, rfl, ?_⟩) (fun c => absurd (decide_eq_true rfl) c)⟩
      rw [decide_eq_true rfl]
      exact q
    | bl b =>
      cases h2
      refine iteF ⟨_, rfl, _, _, _, _, _, rfl, .ty "list", t1, kd_list _, _, rfl, iteF ?_⟩
      refine ⟨_, rfl, rfl, _, rfl, ite2 (fun c => absurd (of_decide_eq_true c) (by intro z; cases z)) (fun _ => ⟨_, rfl, rfl, _, rfl, ite2 (fun c => absurd (of_decide_eq_true c) (by intro z; cases z)) (fun _ => ?_)⟩)⟩
      refine ⟨_, rfl, _, _, _, _, _, rfl, .ty "str", t1, kd_str _, _, rfl, iteF ⟨_, rfl, _, _, _, _, _, rfl, .ty "str", t2, kd_str _, _, rfl, iteF ?_⟩⟩
      refine ⟨_, rfl, _, _, _, _, _, rfl, .ty "bool", t1, kd_bool _, _, rfl, iteT ?_⟩
      refine ⟨_, rfl, _, _, _, _, _, rfl, .ty "bool", t1, kd_bool _, _, rfl, iteT ⟨_, rfl, _, _, _, _, _, rfl, .ty "bool", t2, kd_bool _, _, rfl, iteT ⟨_, rfl, _, rfl, rfl, ?_⟩⟩⟩
      rw [decide_eq_true rfl]
      exact q
    | int b =>
      cases h2
      refine iteF ⟨_, rfl, _, _, _, _, _, rfl, .ty "list", t1, kd_list _, _, rfl, iteF ?_⟩
      refine ⟨_, rfl, rfl, _, rfl, ite2 (fun c => absurd (of_decide_eq_true c) (by intro z; cases z)) (fun _ => ⟨_, rfl, rfl, _, rfl, ite2 (fun c => absurd (of_decide_eq_true c) (by intro z; cases z)) (fun _ => ?_)⟩)⟩
      refine ⟨_, rfl, _, _, _, _, _, rfl, .ty "str", t1, kd_str _, _, rfl, iteF ⟨_, rfl, _, _, _, _, _, rfl, .ty "str", t2, kd_str _, _, rfl, iteF ?_⟩⟩
      refine ⟨_, rfl, _, _, _, _, _, rfl, .ty "bool", t1, kd_bool _, _, rfl, iteF ⟨_, rfl, _, _, _, _, _, rfl, .ty "bool", t2, kd_bool _, _, rfl, iteF ?_⟩⟩
      refine ⟨_, rfl, _, _, _, _, _, rfl, .ty "int", t1, kd_int _, _, rfl, iteT ⟨_, rfl, _, _, _, _, _, rfl, .ty "int", t2, kd_int _, _, rfl, iteT ⟨_, rfl, _, rfl, rfl, ?_⟩⟩⟩
      rw [decide_eq_true rfl]
      exact q
    | str b =>
      cases h2
      refine iteF ⟨_, rfl, _, _, _, _, _, rfl, .ty "list", t1, kd_list _, _, rfl, iteF ?_⟩
      refine ⟨_, rfl, rfl, _, rfl, ite2 (fun c => absurd (of_decide_eq_true c) (by intro z; cases z)) (fun _ => ⟨_, rfl, rfl, _, rfl, ite2 (fun c => absurd (of_decide_eq_true c) (by intro z; cases z)) (fun _ => ?_)⟩)⟩
      refine ⟨_, rfl, _, _, _, _, _, rfl, .ty "str", t1, kd_str _, _, rfl, iteT ?_⟩
      refine ⟨_, rfl, _, _, _, _, _, rfl, .ty "str", t1, kd_str _, _, rfl, iteT ⟨_, rfl, _, _, _, _, _, rfl, .ty "str", t2, kd_str _, _, rfl, iteT ⟨_, rfl, _, rfl, rfl, ?_⟩⟩⟩
      rw [decide_eq_true rfl]
      exact q
end
end K8

set_option Elab.async false
set_option linter.all false
set_option maxRecDepth 100000
set_option maxHeartbeats 4000000
set_option exponentiation.threshold 20000
namespace K8
open PySem PySem.Spec PyProof.Rows L2 Gd Pv RZ Po Nm
section
variable {P : Program} {w : World} {K : PySem.W.Frag} {mg : Str → Option Value} {base : Heap}
theorem _root_.Gd.Cal.both {j k : Nat} {x : Str} {sp sp' : Sp} (c : Cal P w K mg base j x sp) (d : Cal P w K mg base k x sp') (h : j ≤ k) : Cal P w K mg base k x (fun vs H Q E => sp vs H Q E ∨ sp' vs H Q E) := by
  obtain ⟨f, m1, k1, F1⟩ := c.ex
  obtain ⟨f2, m2, k2, F2⟩ := d.ex
  cases m1.symm.trans m2
  refine ⟨f, m1, k1, fun A outer s H us vs Q E hr e0 r z => ?_⟩
  rcases z with z | z
  · exact F1 A outer s H us vs Q E (hr.mono h) e0 r z
  · exact F2 A outer s H us vs Q E hr e0 r z
/-- of a list or a tuple, its items being at most so deep -/
def spSameC (K : PySem.W.Frag) (k : Nat) : Sp := fun vs H Q _ => ∃ (v1 v2 : V) (d : PyData) (ds : List PyData), vs = [v1, v2] ∧ Dp K H v1 d ∧ Dp K H v2 d ∧ (d = .list ds ∨ d = .tuple ds) ∧ ds.length ≤ 900 ∧ (∀ e ∈ ds, SmD k e) ∧ ∀ H', Same H H' → Q (.bl true) H'
theorem c__law_sameC {k : Nat} (D : At K mg "_law_same" s__law_same ["_law_due", "_law_told"]) (c__law_same : Cal P w K mg base (k + 1) "_law_same" (spSameR K k)) (z_isinstance : mg "isinstance" = none) (z_tuple : mg "tuple" = none) (z_list : mg "list" = none) (z_str : mg "str" = none) (z_bool : mg "bool" = none) (z_int : mg "int" = none)
    (z_len : mg "len" = none) (z_range : mg "range" = none) : Cal P w K mg base (k + 2) "_law_same" (spSameC K k) := by
  refine okC D sc__law_same (fun vs H Q E h => ?_) (fun f cdv A outer s H vs Q E hr h => ?_)
  · obtain ⟨v1, v2, d, ds, rfl, _⟩ := h
    rfl
  · obtain ⟨v1, v2, d, ds, rfl, h1, h2, hd, hz, hs, q⟩ := h
    have nd := sc__law_same.nd
    have hu64 := hr.units
    refine ⟨_, (pss_cons (ps_if (PW.pt (pw_or (pt_val (pe_callB call_isi (by rfl) z_isinstance (by decide +kernel) (pa_cons (pv 0) (pa_cons (pe_bltn (by rfl) z_tuple (by decide +kernel) (v := .ty "tuple") rfl) pa_nil)))) (pw_or1 (pt_val (pe_callB call_isi (by rfl) z_isinstance (by decide +kernel) (pa_cons (pv 0) (pa_cons (pe_bltn (by rfl) z_list (by decide +kernel) (v := .ty "list") rfl) pa_nil)))))))
 (pss_cons (ps_set (i := 2) nd rfl (.inl rfl) (pe_cmpR op_eq (pe_callB call_isi (by rfl) z_isinstance (by decide +kernel) (pa_cons (pv 0) (pa_cons (pe_bltn (by rfl) z_tuple (by decide +kernel) (v := .ty "tuple") rfl) pa_nil))) (pe_callB call_isi (by rfl) z_isinstance (by decide +kernel) (pa_cons (pv 1) (pa_cons (pe_bltn (by rfl) z_tuple (by decide +kernel) (v := .ty "tuple") rfl) pa_nil))) (nomark _)))
 (pss_cons (ps_if (PW.pt (pw_or (pt_not (pt_val (pv 2))) (pw_or (pt_cmpR op_ne (pe_callB call_isi (by rfl) z_isinstance (by decide +kernel) (pa_cons (pv 0) (pa_cons (pe_bltn (by rfl) z_list (by decide +kernel) (v := .ty "list") rfl) pa_nil))) (pe_callB call_isi (by rfl) z_isinstance (by decide +kernel) (pa_cons (pv 1) (pa_cons (pe_bltn (by rfl) z_list (by decide +kernel) (v := .ty "list") rfl) pa_nil))) (nomark _)) (pw_or1 (pt_cmpR op_ne (pe_callB call_len_seq (by rfl) z_len PySem.boot_len (pa_cons (pv 0) pa_nil)) (pe_callB call_len_seq (by rfl) z_len PySem.boot_len (pa_cons (pv 1) pa_nil)) (nomark _))))))
 (pss_one (ps_ret pe_bl))
 pss_nil)
 (pss_one (ps_ret (pe_cmpR (op_eqD hu64) (pe_lc (own := [("_law_spot", 3)]) rfl nd (pi_range1 (by rfl) z_range (pa_cons (pe_callB call_len_seq (by rfl) z_len PySem.boot_len (pa_cons (pv 0) pa_nil)) pa_nil)) (blkOk_by (N := N__law_same) (sc := defScope s__law_same) (by decide +kernel)) (fun _ _ _ _ _ => pg_name (i := 3) nd rfl (Or.inl rfl)) (fun _ _ _ _ _ => pts_one (pt_not (pt_val (pe_k c__law_same hr (Nat.le_refl _) (by rfl) (pa_cons (pe_ix (r := rIx K) ix_seq (pv 0) (pv 3) (fun _ _ => rfl)) (pa_cons (pe_ix (r := rIx K) ix_seq (pv 1) (pv 3) (fun _ _ => rfl)) pa_nil)))))) (fun _ _ _ _ _ => (pv 3))) (pe_lst pa_nil) (nomark _))))))
 pss_nil)
 (pss_cons (ps_if (PW.pt (pw_or (pt_cmpR op_isN (pv 0) pe_non (nomark _)) (pw_or1 (pt_cmpR op_isN (pv 1) pe_non (nomark _)))))
 (pss_one (ps_ret (pe_and (pe_cmpR op_isN (pv 0) pe_non (nomark _)) (pe_one (pe_cmpR op_isN (pv 1) pe_non (nomark _))))))
 pss_nil)
 (pss_cons (ps_if (PW.pt (pw_or (pt_val (pe_callB call_isi (by rfl) z_isinstance (by decide +kernel) (pa_cons (pv 0) (pa_cons (pe_bltn (by rfl) z_str (by decide +kernel) (v := .ty "str") rfl) pa_nil)))) (pw_or1 (pt_val (pe_callB call_isi (by rfl) z_isinstance (by decide +kernel) (pa_cons (pv 1) (pa_cons (pe_bltn (by rfl) z_str (by decide +kernel) (v := .ty "str") rfl) pa_nil)))))))
 (pss_one (ps_ret (pe_and (pe_callB call_isi (by rfl) z_isinstance (by decide +kernel) (pa_cons (pv 0) (pa_cons (pe_bltn (by rfl) z_str (by decide +kernel) (v := .ty "str") rfl) pa_nil))) (pe_and (pe_callB call_isi (by rfl) z_isinstance (by decide +kernel) (pa_cons (pv 1) (pa_cons (pe_bltn (by rfl) z_str (by decide +kernel) (v := .ty "str") rfl) pa_nil))) (pe_one (pe_cmpR op_eq (pv 0) (pv 1) (nomark _)))))))
 pss_nil)
 (pss_cons (ps_if (PW.pt (pw_or (pt_val (pe_callB call_isi (by rfl) z_isinstance (by decide +kernel) (pa_cons (pv 0) (pa_cons (pe_bltn (by rfl) z_bool (by decide +kernel) (v := .ty "bool") rfl) pa_nil)))) (pw_or1 (pt_val (pe_callB call_isi (by rfl) z_isinstance (by decide +kernel) (pa_cons (pv 1) (pa_cons (pe_bltn (by rfl) z_bool (by decide +kernel) (v := .ty "bool") rfl) pa_nil)))))))
 (pss_one (ps_ret (pe_and (pe_callB call_isi (by rfl) z_isinstance (by decide +kernel) (pa_cons (pv 0) (pa_cons (pe_bltn (by rfl) z_bool (by decide +kernel) (v := .ty "bool") rfl) pa_nil))) (pe_and (pe_callB call_isi (by rfl) z_isinstance (by decide +kernel) (pa_cons (pv 1) (pa_cons (pe_bltn (by rfl) z_bool (by decide +kernel) (v := .ty "bool") rfl) pa_nil))) (pe_one (pe_cmpR op_eq (pv 0) (pv 1) (nomark _)))))))
 pss_nil)
 (pss_one (ps_ret (pe_and (pe_callB call_isi (by rfl) z_isinstance (by decide +kernel) (pa_cons (pv 0) (pa_cons (pe_bltn (by rfl) z_int (by decide +kernel) (v := .ty "int") rfl) pa_nil))) (pe_and (pe_callB call_isi (by rfl) z_isinstance (by decide +kernel) (pa_cons (pv 1) (pa_cons (pe_bltn (by rfl) z_int (by decide +kernel) (v := .ty "int") rfl) pa_nil))) (pe_one (pe_cmpR op_eq (pv 0) (pv 1) (nomark _))))))))))), ?_⟩
    have t1 := ty_of h1
    have t2 := ty_of h2
    rcases hd with rfl | rfl
    · cases h1 with | @lst a1 xs1 _ h1 d1 =>
      cases h2 with | @lst a2 xs2 _ h2 d2 =>
      have l1 := d1.len
      have l2 := d2.len
      refine ⟨_, rfl, _, _, _, _, _, rfl, .ty "tuple", t1, kd_tuple _, _, rfl, iteF ⟨_, rfl, _, _, _, _, _, rfl, .ty "list", t1, kd_list _, _, rfl, iteT ?_⟩⟩
      refine ⟨_, rfl, _, _, _, _, _, rfl, .ty "tuple", t1, kd_tuple _, _, rfl, _, _, _, _, _, rfl, .ty "tuple", t2, kd_tuple _, rfl, ?_⟩
      rw [decide_eq_true rfl]
      refine ⟨_, rfl, true, rfl, iteF ?_⟩
      refine ⟨_, rfl, _, _, _, _, _, rfl, .ty "list", t1, kd_list _, _, rfl, _, _, _, _, _, rfl, .ty "list", t2, kd_list _, rfl, ?_⟩
      refine ⟨_, rfl, ite2 (fun c => absurd c (by rw [decide_eq_true rfl]; decide)) fun _ => ?_⟩
      refine ⟨_, rfl, a1, _, rfl, .inl h1, _, rfl, a2, _, rfl, .inl h2, rfl, ?_⟩
      refine ⟨_, rfl, ite2 (fun c => ?_) fun _ => ?_⟩
      · rw [l1, l2] at c
        exact absurd c (by rw [decide_eq_true rfl]; decide)
      refine ⟨_, rfl, a1, _, rfl, .inl h1, (xs1.length : Nat), rfl, by omega, by omega, fun R hR => ?_⟩
      rw [Int.toNat_natCast]
      refine lc_it walk_range (fun i H' => Same H H' ∧ H' R = some (.lst [])) ⟨same_new hR, upd_same⟩ (fun _ _ _ _ => True.intro) ?_ ?_
      · rintro i x G G' hi ⟨sG, eG⟩ ⟨eH, rfl⟩
        obtain rfl := eH.symm
        have x1 : atI xs1 (0 + (i : Int)) = some xs1[i] := by
          rw [Int.zero_add]
          exact atI_nat (List.getElem?_eq_getElem hi)
        have x2 : atI xs2 (0 + (i : Int)) = some (xs2[i]'(by omega)) := by
          rw [Int.zero_add]
          exact atI_nat (List.getElem?_eq_getElem _)
        obtain ⟨e1, g1, p1⟩ := d1.get (List.getElem?_eq_getElem hi)
        obtain ⟨e2, g2, p2⟩ := d2.get (i := i) (List.getElem?_eq_getElem (by omega))
        have ee : e1 = e2 := Option.some.inj (g1.symm.trans g2)
        subst ee
        refine ⟨rfl, _, rfl, _, rfl, .inl ⟨a1, xs1, _, _, rfl, rfl, (sG.seq h1), x1, ?_⟩⟩
        refine ⟨_, rfl, _, rfl, .inl ⟨a2, xs2, _, _, rfl, rfl, (sG.seq h2), x2, ?_⟩⟩
        exact ⟨_, _, e1, rfl, p1.same sG, p2.same sG, hs e1 (List.mem_of_getElem? g1), fun H3 s3 => ⟨true, rfl, iteF ⟨sG.trans s3, s3 _ _ eG⟩⟩⟩
      · rintro G ⟨sG, eG⟩
        refine ⟨(by show 0 ≤ sizeLine; decide), fun z hz2 => ?_⟩
        have sz := same_new (o := .lst []) hz2
        exact ⟨.list [], .list [], .lst (.inl (.inl (sz _ _ eG))) .nil, .lst (.inl (.inl upd_same)) .nil, rfl, rfl, q _ (sG.trans sz)⟩
    · cases h1 with | @tup a1 xs1 _ h1 d1 =>
      cases h2 with | @tup a2 xs2 _ h2 d2 =>
      have l1 := d1.len
      have l2 := d2.len
      refine ⟨_, rfl, _, _, _, _, _, rfl, .ty "tuple", t1, kd_tuple _, _, rfl, iteT ?_⟩
      refine ⟨_, rfl, _, _, _, _, _, rfl, .ty "tuple", t1, kd_tuple _, _, rfl, _, _, _, _, _, rfl, .ty "tuple", t2, kd_tuple _, rfl, ?_⟩
      rw [decide_eq_true rfl]
      refine ⟨_, rfl, true, rfl, iteF ?_⟩
      refine ⟨_, rfl, _, _, _, _, _, rfl, .ty "list", t1, kd_list _, _, rfl, _, _, _, _, _, rfl, .ty "list", t2, kd_list _, rfl, ?_⟩
      refine ⟨_, rfl, ite2 (fun c => absurd c (by rw [decide_eq_true rfl]; decide)) fun _ => ?_⟩
      refine ⟨_, rfl, a1, _, rfl, .inr h1, _, rfl, a2, _, rfl, .inr h2, rfl, ?_⟩
      refine ⟨_, rfl, ite2 (fun c => ?_) fun _ => ?_⟩
      · rw [l1, l2] at c
        exact absurd c (by rw [decide_eq_true rfl]; decide)
      refine ⟨_, rfl, a1, _, rfl, .inr h1, (xs1.length : Nat), rfl, by omega, by omega, fun R hR => ?_⟩
      rw [Int.toNat_natCast]
      refine lc_it walk_range (fun i H' => Same H H' ∧ H' R = some (.lst [])) ⟨same_new hR, upd_same⟩ (fun _ _ _ _ => True.intro) ?_ ?_
      · rintro i x G G' hi ⟨sG, eG⟩ ⟨eH, rfl⟩
        obtain rfl := eH.symm
        have x1 : atI xs1 (0 + (i : Int)) = some xs1[i] := by
          rw [Int.zero_add]
          exact atI_nat (List.getElem?_eq_getElem hi)
        have x2 : atI xs2 (0 + (i : Int)) = some (xs2[i]'(by omega)) := by
          rw [Int.zero_add]
          exact atI_nat (List.getElem?_eq_getElem _)
        obtain ⟨e1, g1, p1⟩ := d1.get (List.getElem?_eq_getElem hi)
        obtain ⟨e2, g2, p2⟩ := d2.get (i := i) (List.getElem?_eq_getElem (by omega))
        have ee : e1 = e2 := Option.some.inj (g1.symm.trans g2)
        subst ee
        refine ⟨rfl, _, rfl, _, rfl, .inr (.inl ⟨a1, xs1, _, _, rfl, rfl, (Same.sqT sG h1), x1, ?_⟩)⟩
        refine ⟨_, rfl, _, rfl, .inr (.inl ⟨a2, xs2, _, _, rfl, rfl, (Same.sqT sG h2), x2, ?_⟩)⟩
        exact ⟨_, _, e1, rfl, p1.same sG, p2.same sG, hs e1 (List.mem_of_getElem? g1), fun H3 s3 => ⟨true, rfl, iteF ⟨sG.trans s3, s3 _ _ eG⟩⟩⟩
      · rintro G ⟨sG, eG⟩
        refine ⟨(by show 0 ≤ sizeLine; decide), fun z hz2 => ?_⟩
        have sz := same_new (o := .lst []) hz2
        exact ⟨.list [], .list [], .lst (.inl (.inl (sz _ _ eG))) .nil, .lst (.inl (.inl upd_same)) .nil, rfl, rfl, q _ (sG.trans sz)⟩
/-- _law_same of two values that are alike, at most k deep -/
theorem c__law_same (D : At K mg "_law_same" s__law_same ["_law_due", "_law_told"]) (z_isinstance : mg "isinstance" = none) (z_tuple : mg "tuple" = none) (z_list : mg "list" = none) (z_str : mg "str" = none) (z_bool : mg "bool" = none) (z_int : mg "int" = none) (z_len : mg "len" = none) (z_range : mg "range" = none) : ∀ k : Nat, Cal P w K mg base (k + 1) "_law_same" (spSameR K k)
  | 0 => c__law_same0 D z_isinstance z_tuple z_list z_str z_bool z_int
  | k + 1 => by
    have a := c__law_same0 (P := P) (w := w) (base := base) D z_isinstance z_tuple z_list z_str z_bool z_int
    have b := c__law_sameC (P := P) (w := w) (base := base) D (c__law_same D z_isinstance z_tuple z_list z_str z_bool z_int z_len z_range k) z_isinstance z_tuple z_list z_str z_bool z_int z_len z_range
    refine (a.both b (by omega)).imp fun vs H Q E h => ?_
    obtain ⟨v1, v2, d, e, h1, h2, hs, q⟩ := h
    rcases hs with hs | ⟨ds, hd, hl, hk⟩
    · exact .inl ⟨v1, v2, d, e, h1, h2, hs, q⟩
    · exact .inr ⟨v1, v2, d, ds, e, h1, h2, hd, hl, hk, q⟩
end
end K8

set_option Elab.async false
set_option linter.all false
set_option maxRecDepth 100000
set_option maxHeartbeats 4000000
set_option exponentiation.threshold 20000
namespace K8
open PySem PySem.Spec PyProof.Rows L2 Gd Pv RZ Po Nm
section
variable {P : Program} {w : World} {K : PySem.W.Frag} {mg : Str → Option Value} {base : Heap}
def rListO (K : PySem.W.Frag) : List V → Hp → VK → Prop := fun xs H Q => ∃ p ys, xs = [.ref p] ∧ (SqL K H p ys ∨ SqT K H p ys) ∧ ∀ l, H l = none → Q (.ref l) (upd H l (.lst ys))
def spIsSil (K : PySem.W.Frag) : Sp := fun vs H Q _ => ∃ (a D b : Addr) (xs : List Int) (n c : Nat) (kv : List (Nat × Addr)) (ss : List Nat), vs = [.ref a, .int (n : Nat), .ref D, .ref b] ∧ TAt H a xs ∧ CyAt H D kv ∧ kv.map (·.1) = dvs n ∧ SqT K H b (nV ss) ∧ SubL n ss ∧ xs.length = n ∧ 1 ≤ n ∧ n ≤ 36 ∧ Bd c xs ∧ c ≤ 80000 ∧
  (∀ d ∈ ss, rs xs (cz d) = []) ∧ ∀ H', Same H H' → Q (.bl true) H'
theorem c__law_is_silent (D : At K mg "_law_is_silent" s__law_is_silent ["_law_voice", "_law_size_here", "_law_cycles_here", "_law_some_here"]) (c__law_divided : Cal P w K mg base 1 "_law_divided" (spDivL K)) (c__law_cut : Cal P w K mg base 1 "_law_cut" spTrimL)
    (z_isinstance : mg "isinstance" = none) (z_tuple : mg "tuple" = none) (z_bool : mg "bool" = none) (z_int : mg "int" = none) (z_list : mg "list" = none) (z_len : mg "len" = none) : Cal P w K mg base 2 "_law_is_silent" (spIsSil K) := by
  refine okC D sc__law_is_silent (fun vs H Q E h => ?_) (fun f cdv A outer s0 H vs Q E hr h => ?_)
  · obtain ⟨a, D, b, xs, n, c, kv, ss, rfl, _⟩ := h
    rfl
  · obtain ⟨a, D, b, xs, n, c, kv, ss, rfl, ha, CY, hkv, hb, hss, lx, n1, n2, bx, hc, hsil, q⟩ := h
    have nd := sc__law_is_silent.nd
    have hu := hu_of hr
    have hu64 := hr.units
    have pw := kv_pw hkv
    have l9 := sub_len hss n1 n2
    refine ⟨_, (C8.pss_cut (ps_if (PW.pt (pw_or (pt_not (pt_val (pe_callB (r := rIsi K) (id := "isinstance") call_isi (by rfl) z_isinstance (by decide +kernel) (pa_cons (pv 0) (pa_cons (pe_bltn (by rfl) z_tuple (by decide +kernel) (v := .ty "tuple") rfl) pa_nil))))) (pw_or1 (pt_cmpR op_ne (pe_callB call_len_seq (by rfl) z_len PySem.boot_len (pa_cons (pv 0) pa_nil)) (pv 1) (nomark _)))))
 (pss_one (ps_ret pe_bl))
 pss_nil)
 (C8.pss_cut (ps_if (pt_cmpR (op_neD hu64) (pe_lc (own := [("_law_x", 4)]) rfl nd (pi_tup (pv 0)) (blkOk_by (N := N__law_is_silent) (sc := defScope s__law_is_silent) (by decide +kernel)) (fun _ _ _ _ _ => pg_name (i := 4) nd rfl (Or.inl rfl)) (fun _ _ _ _ _ => pts_one (PW.pt (pw_or (pt_val (pe_callB (r := rIsi K) (id := "isinstance") call_isi (by rfl) z_isinstance (by decide +kernel) (pa_cons (pv 4) (pa_cons (pe_bltn (by rfl) z_bool (by decide +kernel) (v := .ty "bool") rfl) pa_nil)))) (pw_or1 (pt_not (pt_val (pe_callB (r := rIsi K) (id := "isinstance") call_isi (by rfl) z_isinstance (by decide +kernel) (pa_cons (pv 4) (pa_cons (pe_bltn (by rfl) z_int (by decide +kernel) (v := .ty "int") rfl) pa_nil))))))))) (fun _ _ _ _ _ => (pv 4))) (pe_lst pa_nil) (nomark _))
 (pss_one (ps_ret pe_bl))
 pss_nil)
 (pss_one (ps_ret (pe_cmpR (op_eqD hu64) (pe_lc (own := [("_law_late", 5)]) rfl nd (pi_tup (pv 3)) (blkOk_by (N := N__law_is_silent) (sc := defScope s__law_is_silent) (by decide +kernel)) (fun _ _ _ _ _ => pg_name (i := 5) nd rfl (Or.inl rfl)) (fun _ _ _ _ _ => pts_one (pt_cmpR (r := rNeD K) (op_neD hu64) (pe_k c__law_cut hr (by decide) (by rfl) (pa_cons (pe_ix (r := rIxT K) ix_tup (pe_k c__law_divided hr (by decide) (by rfl) (pa_cons (pe_callTy (r := rListO K) (T := "list") call_list_of (by rfl) z_list (by decide +kernel) (pa_cons (pv 0) pa_nil)) (pa_cons (pe_dget hu (pv 2) (pv 5) (fun _ _ => rfl)) pa_nil))) pe_int (fun _ _ => rfl)) pa_nil)) (pe_tup pa_nil) (nomark _))) (fun _ _ _ _ _ => (pv 5))) (pe_lst pa_nil) (nomark _)))))), ?_⟩
    refine ⟨fun σ H' => σ = [some (.ref a), some (.int (n : Nat)), some (.ref D), some (.ref b), none, none] ∧ H' = H, ?_, ?_⟩
    · refine ⟨_, rfl, _, _, _, _, true, rfl, .ty "tuple", .base (.tup ha), kit_ty (by decide +kernel), true, rfl, iteF ?_⟩
      refine ⟨_, rfl, a, _, rfl, .inr ha.sq, _, rfl, rfl, _, rfl, ite2 (fun e => ?_) fun _ => ⟨rfl, rfl⟩⟩
      rw [List.length_map, lx, decide_eq_true rfl] at e
      cases e
    rintro σ H0 ⟨rfl, e0⟩
    obtain rfl := e0.symm
    refine ⟨fun σ H' => σ = [some (.ref a), some (.int (n : Nat)), some (.ref D), some (.ref b), none, none] ∧ Same H H', ?_, ?_⟩
    · refine ⟨_, rfl, a, rfl, ⟨_, ha.sq⟩, fun R hR => lc_it (walk_tup (xs := xs.map V.int)) (fun i H' => Same H H' ∧ H' R = some (.lst [])) ⟨same_new hR, upd_same⟩ (fun _ _ _ z => (ha.same z.1).sq) ?_ ?_⟩
      · rintro i x G G' hi ⟨sG, eG⟩ ⟨eH, hx⟩
        obtain rfl := eH.symm
        obtain rfl := getI hx
        refine ⟨rfl, _, rfl, _, _, _, _, false, rfl, .ty "bool", .base (.int _), kit_ty (by decide +kernel), false, rfl, iteF ?_⟩
        refine ⟨_, rfl, _, _, _, _, true, rfl, .ty "int", .base (.int _), kit_ty (by decide +kernel), true, rfl, iteF ?_⟩
        exact ⟨sG, eG⟩
      · rintro G ⟨sG, eG⟩
        refine ⟨(by show 0 ≤ sizeLine; decide), fun z hz => ?_⟩
        have sz := same_new (o := .lst []) hz
        refine ⟨.list [], .list [], .lst (.inl (.inl (sz _ _ eG))) .nil, .lst (.inl (.inl upd_same)) .nil, rfl, rfl, _, rfl, iteF ?_⟩
        exact ⟨rfl, sG.trans sz⟩
    rintro σ H1 ⟨rfl, s1⟩
    have hb1 := Same.sqT s1 hb
    have ha1 := ha.same s1
    have CY1 := CY.same s1
    refine ⟨_, rfl, b, rfl, ⟨_, hb1⟩, fun R hR => lc_it (walk_tup (xs := nV ss)) (fun i H' => Same H1 H' ∧ H' R = some (.lst [])) ⟨same_new hR, upd_same⟩ (fun _ _ _ z => Same.sqT z.1 hb1) ?_ ?_⟩
    · rintro i x G G' hi ⟨sG, eG⟩ ⟨eH, hx⟩
      obtain rfl := eH.symm
      obtain ⟨d, hd, rfl⟩ := nV_get hx
      have dm := List.mem_of_getElem? hd
      obtain ⟨d1, d2, d3⟩ := sub_mem hss dm
      obtain ⟨mo, b3, l200, _⟩ := cz_ok d1 (by omega)
      have lf := cz_fit d1 d2 n2
      obtain ⟨pa, pm⟩ := kv_mem hkv d3
      have CYG := CY1.same sG
      refine ⟨rfl, _, rfl, a, _, rfl, .inr (ha1.same sG).sq, fun t1 ht1 => ?_⟩
      have s2 := same_new (o := .lst (xs.map V.int)) ht1
      have e2 : LAt (upd G t1 (.lst (xs.map V.int))) t1 xs := upd_same
      generalize upd G t1 (.lst (xs.map V.int)) = G2 at s2 e2 ⊢
      have CY2 := CYG.same s2
      refine ⟨_, rfl, _, rfl, D, _, rfl, CyAt.lget (.inl CY2.dict) pw pm, ?_⟩
      refine ⟨t1, pa, xs, cz d, c, 3, rfl, e2, CY2.at_ _ pm, mo.len, by omega, by omega, by omega, bx, b3, by decide, by omega, fun t q1 q2 G3 s3 et3 f1 f2 => ?_⟩
      refine ⟨t, _, _, _, rfl, rfl, .inl (.inl et3), rfl, q2, _, rfl, f2, ?_, fun p4 G4 s4 e4 => ?_⟩
      · unfold Po.rl
        rw [of_len]
        omega
      rw [rl_rs mo (by omega), hsil d dm] at e4
      refine ⟨(by show 0 ≤ sizeLine; decide), fun z hz2 => ?_⟩
      have s5 := same_new (o := .tup []) hz2
      refine ⟨dT [], dT [], dpT (e4.same s5), dpT (show TAt _ z [] from upd_same), shT _, shT _, _, rfl, iteF ?_⟩
      have sA := (s2.trans (s3.trans s4)).trans s5
      exact ⟨sG.trans sA, sA _ _ eG⟩
    · rintro G ⟨sG, eG⟩
      refine ⟨(by show 0 ≤ sizeLine; decide), fun z hz => ?_⟩
      have sz := same_new (o := .lst []) hz
      exact ⟨.list [], .list [], .lst (.inl (.inl (sz _ _ eG))) .nil, .lst (.inl (.inl upd_same)) .nil, rfl, rfl, q _ (s1.trans (sG.trans sz))⟩
end
end K8

set_option Elab.async false
set_option linter.all false
set_option maxRecDepth 100000
/-! What the told voice is silent at; what is carried on is linear. -/
namespace Po
open Pv Nm
theorem filt_sub {p : Nat → Bool} : ∀ {ss ds : List Nat}, ss.Sublist ds → ds.Pairwise (· < ·) → (∀ d ∈ ds, (p d = true ↔ d ∈ ss)) → ds.filter p = ss
  | _, _, .slnil, _, _ => rfl
  | _, _, .cons (l₁ := ss) (l₂ := ds) a h, pw, hp => by
    have pw2 := List.pairwise_cons.mp pw
    have na : ¬ p a = true := fun z => Nat.lt_irrefl _ (pw2.1 a (h.subset ((hp a (List.mem_cons_self ..)).mp z)))
    rw [List.filter_cons_of_neg na]
    exact filt_sub h pw2.2 fun d hd => hp d (List.mem_cons_of_mem _ hd)
  | _, _, .cons₂ (l₁ := ss) (l₂ := ds) a h, pw, hp => by
    have pw2 := List.pairwise_cons.mp pw
    have ya : p a = true := (hp a (List.mem_cons_self ..)).mpr (List.mem_cons_self ..)
    rw [List.filter_cons_of_pos ya]
    refine congrArg (a :: ·) (filt_sub h pw2.2 fun d hd => ?_)
    rw [hp d (List.mem_cons_of_mem _ hd), List.mem_cons]
    refine ⟨fun z => z.resolve_left fun e => ?_, Or.inr⟩
    have := pw2.1 d hd
    omega
theorem czdeg_a : ((List.range 36).all fun i => decide (2 ≤ (cz (i + 1)).length)) = true := by decide +kernel
theorem czdeg {d : Nat} (h1 : 1 ≤ d) (h2 : d ≤ 36) : 2 ≤ (cz d).length := by
  have h := List.all_eq_true.mp czdeg_a (d - 1) (List.mem_range.mpr (by omega))
  have := of_decide_eq_true h
  rwa [Nat.sub_add_cancel h1] at this
theorem dg_nil {ts : List Nat} (h : ∀ d ∈ ts, 1 ≤ d ∧ d ≤ 36) (z : dgP ts = 0) : ts = [] := by
  cases ts with
  | nil => rfl
  | cons d us =>
    have := czdeg (h d (List.mem_cons_self ..)).1 (h d (List.mem_cons_self ..)).2
    have e : dgP (d :: us) = ((cz d).length - 1) + dgP us := rfl
    omega
theorem ev_zeros (t : Int) (n : Nat) : ev t (List.replicate n 0) = 0 := by
  have h := ev_rep0 t n []
  rw [List.append_nil] at h
  rw [h]
  show t ^ n * 0 = 0
  rw [Int.mul_zero]
theorem rs_zeros {n : Nat} {ds : List Int} (m : Mo ds) (h : ds.length ≤ n + 1) : rs (List.replicate n 0) ds = [] :=
  (rs_zero m (by rw [List.length_replicate]; exact h)).mpr ⟨[], fun t _ => by
    rw [ev_zeros]
    show (0 : Int) = 0 * _
    rw [Int.zero_mul]⟩
def lin (a : Int) (u v : List Int) : List Int := List.zipWith (fun x y => x + a * y) u v
theorem lin_len {a : Int} {u v : List Int} (h : u.length = v.length) : (lin a u v).length = u.length := by
  unfold lin
  rw [List.length_zipWith, h, Nat.min_self]
theorem co_lin {a : Int} : ∀ {u v : List Int}, u.length = v.length → ∀ i, co (lin a u v) i = co u i + a * co v i
  | [], [], _, i => by
    show co [] i = co [] i + a * co [] i
    rw [co_nil, Int.mul_zero, Int.add_zero]
  | x :: xs, y :: ys, h, i => by
    show co ((x + a * y) :: lin a xs ys) i = _
    rw [co_cons, co_cons, co_cons]
    split
    · rfl
    · exact co_lin (by simpa using h) _
theorem nxt_lin {r : List Int} {a : Int} {u v : List Int} (h : u.length = v.length) : nxt r (lin a u v) = nxt r u + a * nxt r v := by
  unfold nxt
  rw [lin_len h, ← h]
  rw [S_congr (G := fun k => co r (k + 1) * co u ((u.length : Int) - (k + 1)) + a * (co r (k + 1) * co v ((u.length : Int) - (k + 1)))) fun j _ => by
    rw [co_lin h, Int.mul_add, Int.mul_left_comm]]
  rw [S_add, S_mulL, Int.mul_add, Int.mul_left_comm]
theorem lin_snoc {a x y : Int} : ∀ {u v : List Int}, u.length = v.length → lin a (u ++ [x]) (v ++ [y]) = lin a u v ++ [x + a * y]
  | [], [], _ => rfl
  | p :: us, q :: vs, h => congrArg ((p + a * q) :: ·) (lin_snoc (by simpa using h))
theorem car_lin {r : List Int} {a : Int} : ∀ (m : Nat) {u v : List Int}, u.length = v.length → car r m (lin a u v) = lin a (car r m u) (car r m v)
  | 0, _, _, _ => rfl
  | m + 1, u, v, h => by
    show car r m (lin a u v ++ [nxt r (lin a u v)]) = lin a (car r m (u ++ [nxt r u])) (car r m (v ++ [nxt r v]))
    rw [nxt_lin h, ← lin_snoc h]
    exact car_lin m (by rw [List.length_append, List.length_append, h]; rfl)
theorem co_zeros (n : Nat) (i : Int) : co (List.replicate n 0) i = 0 := by
  induction n generalizing i with
  | zero => exact co_nil _
  | succ n ih =>
    rw [List.replicate_succ, co_cons]
    split
    · rfl
    · exact ih _
theorem car_zeros (r : List Int) : ∀ (m d : Nat), car r m (List.replicate d 0) = List.replicate (d + m) 0
  | 0, _ => rfl
  | m + 1, d => by
    show car r m (List.replicate d 0 ++ [nxt r (List.replicate d 0)]) = _
    have z : nxt r (List.replicate d 0) = 0 := by
      unfold nxt
      rw [(S_congr (G := fun _ => 0) fun j _ => by rw [co_zeros, Int.mul_zero]).trans (S_zero _), Int.mul_zero]
    rw [z, show List.replicate d (0 : Int) ++ [0] = List.replicate (d + 1) 0 from (List.replicate_succ' ..).symm, car_zeros r m (d + 1)]
    congr 1
    omega
/-- the first j of these weights -/
def fst (d j : Nat) (ws : List Int) : List Int := of d fun i => if i < (j : Int) then co ws i else 0
theorem fst_zero (d : Nat) (ws : List Int) : fst d 0 ws = List.replicate d 0 := by
  unfold fst of
  apply List.ext_getElem
  · simp
  · intro i h1 h2
    simp only [List.getElem_map, List.getElem_range, List.getElem_replicate]
    rw [if_neg (by omega)]
theorem fst_all {d : Nat} {ws : List Int} (h : ws.length = d) : fst d d ws = ws := by
  rw [← of_co h]
  unfold fst of
  apply List.map_congr_left
  intro i hi
  have := List.mem_range.mp hi
  have e := co_of (n := d) (F := co ws) this
  show (if (i : Int) < (d : Int) then _ else _) = _
  rw [if_pos (by omega)]
  exact e
end Po
namespace K8
open Pv Nm Po
theorem dv_rng {n d : Nat} (h : d ∈ dvs n) (h2 : n ≤ 36) : 1 ≤ d ∧ d ≤ 36 := ⟨dvs_pos h, by have := dvs_le h; omega⟩
theorem silV_len (n : Nat) (ss : List Nat) : (silV n ss).length = n := by
  unfold silV
  split
  · exact of_len _ _
  · exact List.length_replicate
theorem silV_all {n d : Nat} {ss : List Nat} (hs : SubL n ss) (h1 : 1 ≤ n) (h2 : n ≤ 36) (hd : d ∈ dvs n) : rs (silV n ss) (cz d) = [] ↔ d ∈ ss := by
  obtain ⟨d1, d2⟩ := dv_rng hd h2
  obtain ⟨mo, _, _, _⟩ := cz_ok d1 d2
  have lf := cz_fit d1 (dvs_le hd) h2
  obtain ⟨ts, R⟩ := Rest.of (n := n) hs
  have g := R.dg h1 h2
  have l := (mo_fac (R.mo h2).1).2
  by_cases z : dgP ss < n
  · refine sil_fac h1 h2 hs hd mo (by rw [silV_len]; exact lf) fun t _ => ?_
    unfold silV
    rw [if_pos z, ev_of_co (by omega), ev_fac]
  · have t0 : ts = [] := dg_nil (fun e he => dv_rng (R.perm.mem_iff.mpr (List.mem_append_right _ he)) h2) (by omega)
    have dm : d ∈ ss := by
      have := R.perm.mem_iff.mp hd
      rwa [t0, List.append_nil] at this
    refine ⟨fun _ => dm, fun _ => ?_⟩
    unfold silV
    rw [if_neg z]
    exact rs_zeros mo lf
theorem silV_told {n : Nat} {ss : List Nat} (hs : SubL n ss) (h1 : 1 ≤ n) (h2 : n ≤ 36) : silL (dvs n) (silV n ss) = ss :=
  filt_sub hs (dvs_asc n) fun d hd => by
    rw [decide_eq_true_iff]
    exact silV_all hs h1 h2 hd
theorem silV_bd {n : Nat} {ss : List Nat} (hs : SubL n ss) (h1 : 1 ≤ n) (h2 : n ≤ 36) : Bd 118 (silV n ss) := by
  unfold silV
  split
  · refine bd_of fun j _ => ?_
    have b := (fac_ok (n := n) (fun d hd => ⟨(sub_mem hs hd).1, (sub_mem hs hd).2.1⟩) h2 (sub_len hs h1 h2)).2.1
    exact b.co _
  · intro x hx
    rw [(List.mem_replicate.mp hx).2]
    decide
theorem fst_succ {d j : Nat} {ws : List Int} (hj : j < d) : lin (co ws j) (fst d j ws) (unitL d j) = fst d (j + 1) ws := by
  have l1 : (fst d j ws).length = d := of_len _ _
  have l2 : (unitL d j).length = d := of_len _ _
  have l : (fst d j ws).length = (unitL d j).length := by rw [l1, l2]
  rw [← of_co (xs := lin (co ws j) (fst d j ws) (unitL d j)) (n := d) (by rw [lin_len l, l1])]
  refine of_congr fun i hi => ?_
  have e1 := co_of (n := d) (F := fun i => if i < (j : Int) then co ws i else 0) hi
  have e2 := co_of (n := d) (F := ind d [(j : Int)]) hi
  rw [co_lin l]
  show co (fst d j ws) i + co ws j * co (unitL d j) i = _
  unfold fst unitL
  rw [e1, e2]
  unfold ind
  rw [Int.emod_eq_of_lt (by omega) (by omega)]
  by_cases z : i = j
  · subst z
    rw [if_neg (by omega), if_pos (List.mem_singleton.mpr rfl), if_pos (by omega), Int.mul_one, Int.zero_add]
  · rw [if_neg (c := (i : Int) ∈ [(j : Int)]) (fun y => z (by have := List.mem_singleton.mp y; omega)), Int.mul_zero, Int.add_zero]
    by_cases y : (i : Int) < (j : Int)
    · rw [if_pos y, if_pos (by omega)]
    · rw [if_neg y, if_neg (by omega)]
theorem tot_step {r ws : List Int} {m d j : Nat} (hj : j < d) : lin (co ws j) (car r m (fst d j ws)) (car r m (unitL d j)) = car r m (fst d (j + 1) ws) := by
  rw [← car_lin m (by rw [show (fst d j ws).length = d from of_len _ _, show (unitL d j).length = d from of_len _ _]), fst_succ hj]
end K8

set_option Elab.async false
set_option linter.all false
set_option maxRecDepth 100000
set_option maxHeartbeats 4000000
set_option exponentiation.threshold 20000
namespace K8
open PySem PySem.Spec PyProof.Rows L2 Gd Pv RZ Po Nm
section
variable {P : Program} {w : World} {K : PySem.W.Frag} {mg : Str → Option Value} {base : Heap}
theorem eqA_self : ∀ xs : List Int, PyData.eqvAll (xs.map PyData.int) (xs.map PyData.int) = true
  | [] => rfl
  | x :: xs => by
    show (decide (x = x) && PyData.eqvAll (xs.map PyData.int) (xs.map PyData.int)) = true
    rw [eqA_self xs, decide_eq_true rfl]
    rfl
theorem eqT_self (xs : List Int) : PyData.eqv (.tuple (xs.map PyData.int)) (.tuple (xs.map PyData.int)) = true := eqA_self xs
def spWide : Sp := fun vs H Q _ => ∃ (d c : Addr) (cells : List Int) (B : Nat), vs = [.ref d] ∧ FeedAt H d c cells B ∧ B ≤ 1000 ∧ ∀ H', FeedAt H' d c cells (B + 41) → Kp d H H' → Q (.bl true) H'
theorem CyAt.ne {H : Hp} {d c D : Addr} {cells : List Int} {B : Nat} {kv : List (Nat × Addr)} (h : CyAt H D kv) (F : FeedAt H d c cells B) : D ≠ d := by
  obtain ⟨sp, ov, tn, e, _⟩ := F.ex
  refine ne_of h.dict e fun z => ?_
  have z2 := congrArg (fun o => match o with | HO.dK k => k.map Prod.fst | _ => []) z
  cases kv with
  | nil => cases z2
  | cons p ps => cases z2
theorem CyAt.kp {H H' : Hp} {d c D : Addr} {cells : List Int} {B : Nat} {kv : List (Nat × Addr)} (h : CyAt H D kv) (F : FeedAt H d c cells B) (k : Kp d H H') : CyAt H' D kv :=
  ⟨k _ _ (h.ne F) h.dict, fun p hp => k _ _ (F.neL (h.at_ p hp)) (h.at_ p hp)⟩
theorem c__law_is_wide (D : At K mg "_law_is_wide" s__law_is_wide ["_law_feed_here"]) (c__law_any : Cal P w K mg base 2 "_law_any" spAny) (c__law_cycles : Cal P w K mg base 2 "_law_cycles" spCycles) (c__law_some : Cal P w K mg base 2 "_law_some" spSome) (c_silent_voice : Cal P w K mg base 7 "silent_voice" (spSilV K))
    (c__law_same : Cal P w K mg base 1 "_law_same" (spSameR K 0)) (c_silent_rank : Cal P w K mg base 6 "silent_rank" (spRank K)) (c__law_is_silent : Cal P w K mg base 2 "_law_is_silent" (spIsSil K)) (c__law_silences : Cal P w K mg base 2 "_law_silences" spSil)
    (z_tuple : mg "tuple" = none) (z_sum : mg "sum" = none) (z_len : mg "len" = none) : Cal P w K mg base 8 "_law_is_wide" spWide := by
  refine okC D sc__law_is_wide (fun vs H Q E h => ?_) (fun f cdv A outer s H vs Q E hr h => ?_)
  · obtain ⟨d, c, cells, B, rfl, _⟩ := h
    rfl
  · obtain ⟨d, c, cells, B, rfl, F, hB, q⟩ := h
    have nd := sc__law_is_wide.nd
    have hu := hu_of hr
    have hu64 := hr.units
    refine ⟨_, (pss_cons (ps_set (i := 1) nd rfl (.inl rfl) (pe_k c__law_any hr (by decide) (by rfl) (pa_cons (pv 0) (pa_cons (pe_lst (pa_cons pe_int (pa_cons pe_int (pa_cons pe_int (pa_cons pe_int (pa_cons pe_int pa_nil)))))) pa_nil))))
 (pss_cons (ps_set (i := 2) nd rfl (.inr rfl) (pe_k c__law_cycles hr (by decide) (by rfl) (pa_cons (pv 1) pa_nil)))
 (pss_cons (ps_for PassesOwn.never rfl (pi_list (pe_lst (pa_cons (pe_k c__law_some hr (by decide) (by rfl) (pa_cons (pv 0) (pa_cons (pv 1) pa_nil))) (pa_cons (pe_tupleOf (by rfl) z_tuple (pe_lock (pe_lc (own := [("_law_late", 6)]) rfl nd (pi_keys (pv 2)) (blkOk_by (N := N__law_is_wide) (sc := defScope s__law_is_wide) (by decide +kernel)) (fun _ _ _ _ _ => pg_name (i := 6) nd rfl (Or.inl rfl)) (fun _ _ _ _ _ => pts_one (pt_cmpR op_gt (pv 6) pe_int (nomark _))) (fun _ _ _ _ _ => (pv 6))))) pa_nil)))) (pg_name (i := 3) nd rfl (.inl rfl))
 (pss_cons (ps_set (i := 4) nd rfl (.inl rfl) (pe_op op_sub (pv 1) (pe_callB (cr_sum rfl) (by rfl) z_sum (by decide +kernel) (pa_cons (pe_lc (own := [("_law_late", 6)]) rfl nd (pi_tup (pv 3)) (blkOk_by (N := N__law_is_wide) (sc := defScope s__law_is_wide) (by decide +kernel)) (fun _ _ _ _ _ => pg_name (i := 6) nd rfl (Or.inl rfl)) (fun _ _ _ _ _ => pts_nil) (fun _ _ _ _ _ => (pe_op op_sub (pe_callB (r := rLenS K) call_len_seq (by rfl) z_len PySem.boot_len (pa_cons (pe_dget hu (pv 2) (pv 6) (fun _ _ => rfl)) pa_nil)) pe_int))) pa_nil))))
 (pss_cons (ps_set (i := 5) nd rfl (.inl rfl) (pe_k c_silent_voice hr (by decide) (by rfl) (pa_cons (pv 1) (pa_cons (pv 3) pa_nil))))
 (C8.pss_cut (ps_if (PW.pt (pw_or (pt_not (pt_val (pe_k c__law_same hr (by decide) (by rfl) (pa_cons (pv 4) (pa_cons (pe_k c_silent_rank hr (by decide) (by rfl) (pa_cons (pv 1) (pa_cons (pv 3) pa_nil))) pa_nil))))) (pw_or1 (pt_not (pt_val (pe_k c__law_is_silent hr (by decide) (by rfl) (pa_cons (pv 5) (pa_cons (pv 1) (pa_cons (pv 2) (pa_cons (pv 3) pa_nil))))))))))
 (pss_one (ps_ret pe_bl))
 pss_nil)
 (pss_one (ps_if (pt_cmpR (op_neD hu64) (pe_k c__law_silences hr (by decide) (by rfl) (pa_cons (pv 5) (pa_cons (pv 2) pa_nil))) (pv 3) (nomark _))
 (pss_one (ps_ret pe_bl))
 pss_nil))))))
 (pss_one (ps_ret pe_bl))))), ?_⟩
    refine ⟨_, rfl, (by show 5 ≤ sizeLine; decide), fun l hl => ?_⟩
    refine ⟨d, c, l, cells, B, _, rfl, F.same (same_new hl), by omega, upd_same, (by decide), (by decide), fun x H1 hx F1 k1 => ?_⟩
    obtain ⟨n, rfl, hn⟩ : ∃ n : Nat, x = .int (n : Nat) ∧ n ∈ ([30, 36, 28, 32, 35] : List Nat) := by
      have : x ∈ ([30, 36, 28, 32, 35] : List Nat).map fun n : Nat => V.int (n : Nat) := hx
      obtain ⟨n, h1, h2⟩ := List.mem_map.mp this
      exact ⟨n, h2.symm, h1⟩
    have n1 : 1 ≤ n := by revert n; decide
    have n2 : n ≤ 36 := by revert n; decide
    replace k1 := (same_new hl).kp.trans k1
    refine ⟨_, rfl, n, rfl, n1, n2, fun D kv H2 s2 CY hkv => ?_⟩
    have pw := kv_pw hkv
    have F2 := F1.same s2
    refine ⟨_, rfl, _, rfl, d, c, cells, _, n, rfl, F2, by omega, n1, n2, fun s1 p1 H3 hs1 F3 k3 e1 => ?_⟩
    have CY3 := CY.kp F2 k3
    refine ⟨D, _, CY3.dict, trivial, fun od => ?_⟩
    have hz : (upd H3 D (.frz od (.dK (kvs kv)))) D = some (.frz od (.dK (kvs kv))) := upd_same
    refine ⟨_, rfl, D, od, rfl, .inl ⟨_, hz, fun R hR => lc_it walk_keys (fun j H' => Same (upd H3 D (.frz od (.dK (kvs kv)))) H' ∧ H' R = some (.lst (nV (((kv.map (·.1)).take j).filter fun d => decide (4 < d)))))
      ⟨same_new hR, upd_same⟩ (fun j H' _ z => z.1 _ _ hz) ?_ ?_⟩⟩
    · rintro j x G G' hj ⟨sG, eG⟩ ⟨eH, kk, vv, hkj, rfl⟩
      obtain rfl := eH.symm
      rw [kvs_len] at hj
      obtain ⟨rfl, rfl⟩ := kv_get hj hkj
      have pm : kv[j] ∈ kv := List.getElem_mem hj
      generalize hp : kv[j] = p at *
      have et : (kv.map (·.1)).take (j + 1) = (kv.map (·.1)).take j ++ [p.1] := by
        rw [List.take_succ, List.getElem?_map, List.getElem?_eq_getElem hj, hp]
        rfl
      refine ⟨rfl, _, rfl, _, _, rfl, rfl, _, rfl, ?_⟩
      rw [et, List.filter_append]
      have l9 : kv.length ≤ 9 := by
        have := sub_len (List.Sublist.refl (dvs n)) n1 n2
        rwa [← hkv, List.length_map] at this
      refine ite2 (fun y => ?_) (fun y => ?_)
      · have y1 : 4 < p.1 := by have := of_decide_eq_true y; omega
        refine ⟨_, rfl, _, eG, ?_, same_own sG hR, ?_⟩
        · rw [nV_len]
          have := List.length_filter_le (fun d => decide (4 < d)) ((kv.map (·.1)).take j)
          rw [List.length_take, List.length_map] at this
          exact small1000 (by omega)
        · rw [upd_same, List.filter_cons_of_pos (p := fun d => decide (4 < d)) (decide_eq_true y1)]
          unfold nV
          rw [List.map_append]
          rfl
      · have y1 : ¬ 4 < p.1 := fun z => y (decide_eq_true (by omega))
        refine ⟨sG, ?_⟩
        rw [List.filter_cons_of_neg (p := fun d => decide (4 < d)) (fun z => y1 (of_decide_eq_true z)), List.filter_nil, List.append_nil]
        exact eG
    rintro G ⟨sG, eG⟩
    rw [show (kvs kv).length = (kv.map (·.1)).length by rw [kvs_len, List.length_map], List.take_length, hkv] at eG
    have hD1 := sG _ _ hz
    have su := unlock CY3.dict sG
    refine ⟨hD1, ?_⟩
    have nRD : R ≠ D := fun z => by rw [z, hz] at hR; cases hR
    have eG2 : (upd G D (.dK (kvs kv))) R = some (.lst (nV ((dvs n).filter fun d => decide (4 < d)))) := by rw [upd_ne nRD]; exact eG
    generalize upd G D (.dK (kvs kv)) = G2 at *
    refine .inl ⟨R, _, rfl, .inl (.inl eG2), fun p2 hp2 => ?_⟩
    have s4 := same_new (o := .tup (nV ((dvs n).filter fun d => decide (4 < d)))) hp2
    have e2 : (upd G2 p2 (.tup (nV ((dvs n).filter fun d => decide (4 < d))))) p2 = some (.tup (nV ((dvs n).filter fun d => decide (4 < d)))) := upd_same
    generalize upd G2 p2 (.tup (nV ((dvs n).filter fun d => decide (4 < d)))) = H4 at s4 e2 ⊢
    refine ⟨(by show 2 ≤ sizeLine; decide), fun L hL => ?_⟩
    have s5 := same_new (o := .lst [V.ref p1, V.ref p2]) hL
    have e5 : (upd H4 L (.lst [V.ref p1, V.ref p2])) L = some (.lst [V.ref p1, V.ref p2]) := upd_same
    have sA := (su.trans s4).trans s5
    have eP1 : (upd H4 L (.lst [V.ref p1, V.ref p2])) p1 = some (.tup (nV s1)) := sA _ _ e1
    have eP2 : (upd H4 L (.lst [V.ref p1, V.ref p2])) p2 = some (.tup (nV ((dvs n).filter fun d => decide (4 < d)))) := s5 _ _ e2
    have CY5 := CY3.same sA
    have F5 := F3.same sA
    have k5 := k1.trans (s2.kp.trans (k3.trans sA.kp))
    generalize upd H4 L (.lst [V.ref p1, V.ref p2]) = H5 at *
    clear sG eG eG2 hD1 su s4 e2 s5 sA hz hR hp2 hL
    have two : ∀ (x : V), x ∈ [V.ref p1, V.ref p2] → ∃ (ss : List Nat) (p : Addr), x = .ref p ∧ SubL n ss ∧ H5 p = some (.tup (nV ss)) := by
      intro x hx
      rcases List.mem_cons.mp hx with h | h
      · exact ⟨s1, p1, h, hs1, eP1⟩
      · exact ⟨_, p2, List.mem_singleton.mp h, List.filter_sublist, eP2⟩
    refine ⟨L, rfl, ⟨_, .inl (.inl e5)⟩, for_it (walk_list (xs := [V.ref p1, V.ref p2])) (fun j σ H' => ∃ (y3 y4 y5 : Option V), σ = [some (.ref d), some (.int (n : Nat)), some (.ref D), y3, y4, y5, none] ∧ Same H5 H') ⟨_, _, _, rfl, Same.refl _⟩ (fun j σ H' _ ⟨_, _, _, _, z⟩ => .inl (.inl (z _ _ e5))) ?_ ?_⟩
    · rintro j x σ G G' hj ⟨y3, y4, y5, rfl, sG⟩ ⟨eH, hx⟩
      obtain rfl := eH.symm
      obtain ⟨ss, p, rfl, hs, ep⟩ := two x (List.mem_of_getElem? hx)
      have hb : SqT K G p (nV ss) := .inl (.inl (sG _ _ ep))
      have CYG := CY5.same sG
      refine ⟨_, rfl, _, rfl, p, rfl, ⟨_, hb⟩, fun R hR => lc_it (walk_tup (xs := nV ss)) (fun i H' => Same G H' ∧ H' R = some (.lst (((ss.take i).map fun d => (((cz d).length - 1 : Nat) : Int)).map V.int))) ⟨same_new hR, upd_same⟩ (fun i H' _ z => Same.sqT z.1 hb) ?_ ?_⟩
      · rintro i x J J' hi ⟨sJ, eJ⟩ ⟨eH, hx⟩
        obtain rfl := eH.symm
        rw [nV_len] at hi
        obtain ⟨e, he, rfl⟩ := nV_get hx
        obtain ⟨d1, d2, d3⟩ := sub_mem hs (List.mem_of_getElem? he)
        obtain ⟨pa, pm⟩ := kv_mem hkv d3
        have CYJ := CYG.same sJ
        have l9 := sub_len hs n1 n2
        have mo := (cz_ok d1 (by omega)).1.len
        refine ⟨rfl, _, rfl, _, rfl, D, _, rfl, CyAt.lget (.inl CYJ.dict) pw pm, pa, _, rfl, .inl (.inl (.inl (CYJ.at_ _ pm))), _, _, rfl, rfl, ?_⟩
        refine ⟨_, eJ, ?_, same_own sJ hR, ?_⟩
        · rw [List.length_map, List.length_map, List.length_take]
          exact small1000 (by omega)
        · rw [upd_same, List.take_succ, he, List.map_append, List.map_append]
          show some (HO.lst (_ ++ [V.int (((((cz e).map V.int).length : Nat) : Int) - 1)])) = some (HO.lst (_ ++ [V.int (((cz e).length - 1 : Nat) : Int)]))
          rw [List.length_map]
          congr 5
          omega
      rintro J ⟨sJ, eJ⟩
      rw [nV_len, List.take_length] at eJ
      refine ⟨R, _, rfl, .inl (.inl eJ), _, _, rfl, rfl, ?_⟩

      rw [dg_sum]
      dsimp only
      have dl : dgP ss ≤ n := by
        obtain ⟨ts, R2⟩ := Rest.of (n := n) hs
        have := R2.dg n1 n2
        omega
      rw [show ((n : Nat) : Int) - ((dgP ss : Nat) : Int) = ((n - dgP ss : Nat) : Int) by omega]
      have sB := sG.trans sJ
      refine ⟨_, rfl, _, rfl, n, p, ss, rfl, n1, n2, hs, .inl (.inl (sB _ _ ep)), fun pv G1 sg1 ev => ?_⟩
      replace sB := sB.trans sg1
      have lv := silV_len n ss
      have bv := silV_bd hs n1 n2
      refine ⟨fun σ H' => σ = [some (.ref d), some (.int (n : Nat)), some (.ref D), some (.ref p), some (.int ((n - dgP ss : Nat) : Int)), some (.ref pv), none] ∧ Same H5 H' ∧ TAt H' pv (silV n ss), ?_, ?_⟩
      · refine ⟨_, rfl, _, rfl, _, rfl, n, p, ss, rfl, n1, n2, hs, .inl (.inl (sB _ _ ep)), fun G2 sg2 => ?_⟩
        refine ⟨_, _, .int _, rfl, .int _, .int _, rfl, fun G3 sg3 => ⟨true, rfl, iteF ?_⟩⟩
        have sC := (sB.trans sg2).trans sg3
        have ev3 := ev.same (sg2.trans sg3)
        refine ⟨_, rfl, _, rfl, _, rfl, _, rfl, pv, D, p, silV n ss, n, 118, kv, ss, rfl, ev3, CY5.same sC, hkv, .inl (.inl (sC _ _ ep)), hs, lv, n1, n2, bv, by decide, fun e he => (silV_all hs n1 n2 (sub_mem hs he).2.2).mpr he, fun G4 sg4 => ⟨true, rfl, iteF ?_⟩⟩
        exact ⟨rfl, sC.trans sg4, ev3.same sg4⟩
      · rintro σ G5 ⟨rfl, s5, e5⟩
        refine ⟨_, rfl, _, rfl, pv, D, silV n ss, n, 118, kv, rfl, e5, CY5.same s5, hkv, lv, n1, n2, bv, by decide, fun p6 G6 s6 e6 => ?_⟩
        rw [silV_told hs n1 n2] at e6
        refine ⟨_, rfl, _, _, nV_data (.inl (.inl e6)), nV_data (.inl (.inl (s6 _ _ (s5 _ _ ep)))), shT _, shT _, _, rfl, ?_⟩
        rw [eqT_self]
        exact iteF ⟨_, _, _, rfl, s5.trans s6⟩
    · rintro σ G ⟨y3, y4, y5, rfl, sG⟩
      exact q _ (F5.same sG) (k5.trans sG.kp)
end
end K8

set_option Elab.async false
set_option linter.all false
set_option maxRecDepth 100000
set_option maxHeartbeats 4000000
/-! zip of a list and a tuple. -/
namespace Gd
open PySem PySem.Spec PyProof.Rows L2
def liO (l : Addr) : Obj := { cls := .type "list_iterator", data := .fields #[.ref l, .int 0 0] }
def prO (x y : Value) : Obj := { cls := .type "tuple", data := .seq #[x, y] }
def zpO (p q : Addr) : Obj := { cls := .type "zip", data := .fields #[.none, .bool false, .bool false, .ref p, .ref q] }
abbrev zm2 (h : Heap) (l t : Addr) : Heap := (h.push (liO l)).push (tiO t)
abbrev zm3 (h : Heap) (l t : Addr) : Heap := (zm2 h l t).push (prO (.ref h.objs.size) (.ref (h.push (liO l)).objs.size))
abbrev zm4 (h : Heap) (l t : Addr) : Heap := (zm3 h l t).push (prO .none .none)
abbrev zm5 (h : Heap) (l t : Addr) : Heap := (zm4 h l t).push (zpO (zm2 h l t).objs.size (zm3 h l t).objs.size)
theorem meets_zm (l t : Addr) (xs ys : Array Value) :
    Meets (Builtin.«zip.__new__» ⟨[.type "zip", .ref l, .ref t], []⟩) (fun _ R s => s.heap.IsList l xs ∧ s.heap.IsTuple t ys ∧
      R (.ok (.ret (.ref (zm4 s.heap l t).objs.size))) { s with heap := zm5 s.heap l t }) :=
  .of_wp fun prog w A R s q => by
    obtain ⟨hp, g, d, tk, os⟩ := s
    obtain ⟨ql, qt, q⟩ := q
    have hsub := sub_zip
    have q1 : Heap.IsList (Shared.heap ⟨hp, g, d, tk, os⟩) l xs := ql
    have q2 : Heap.IsTuple (Shared.heap ⟨hp.push { cls := .type "list_iterator", data := .fields #[.ref l, .int 0 0] }, g, d, tk, os⟩) t ys := Heap.IsTuple.push qt _
    wp_walk using wpAny_pyIter_list q1, wpAny_pyIter_tuple q2
    exact ⟨_, rfl, q⟩
/-- how it stands ahead of the turn i -/
structure ZmT (a b n : Addr) (i : Nat) (h : Heap) : Prop where
  zp : IsZip h (n + 4) (n + 2) (n + 3) .none
  pr : IsTupOf2 h (n + 2) (.ref n) (.ref (n + 1))
  ot : ∃ x y, IsTupOf2 h (n + 3) x y
  il : h.IsListIter n a i
  it : h.IsTupleIter (n + 1) b i
theorem get_zm {h : Heap} {l t n : Nat} (hn : n = h.objs.size) : ZmT l t n 0 (zm5 h l t) ∧ (zm4 h l t).objs.size = n + 4 := by
  subst hn
  have z1 : (h.push (liO l)).objs.size = h.objs.size + 1 := Heap.size_push ..
  have z2 : (zm2 h l t).objs.size = h.objs.size + 2 := by rw [Heap.size_push, z1]
  have z3 : (zm3 h l t).objs.size = h.objs.size + 3 := by rw [Heap.size_push, z2]
  have z4 : (zm4 h l t).objs.size = h.objs.size + 4 := by rw [Heap.size_push, z3]
  have e4 := Heap.get?_push_size (zm4 h l t) (o := zpO (zm2 h l t).objs.size (zm3 h l t).objs.size) rfl
  have e3 := Heap.get?_push_of_some (zpO (zm2 h l t).objs.size (zm3 h l t).objs.size) (Heap.get?_push_size (zm3 h l t) (o := prO .none .none) rfl)
  have e2 := Heap.get?_push_of_some (zpO (zm2 h l t).objs.size (zm3 h l t).objs.size) (Heap.get?_push_of_some (prO .none .none) (Heap.get?_push_size (zm2 h l t) (o := prO (.ref h.objs.size) (.ref (h.push (liO l)).objs.size)) rfl))
  have e1 := Heap.get?_push_of_some (zpO (zm2 h l t).objs.size (zm3 h l t).objs.size) (Heap.get?_push_of_some (prO .none .none) (Heap.get?_push_of_some (prO (.ref h.objs.size) (.ref (h.push (liO l)).objs.size)) (Heap.get?_push_size (h.push (liO l)) (o := tiO t) rfl)))
  have e0 := Heap.get?_push_of_some (zpO (zm2 h l t).objs.size (zm3 h l t).objs.size) (Heap.get?_push_of_some (prO .none .none) (Heap.get?_push_of_some (prO (.ref h.objs.size) (.ref (h.push (liO l)).objs.size)) (Heap.get?_push_of_some (tiO t) (Heap.get?_push_size h (o := liO l) rfl))))
  have a4 : (zm5 h l t).get? (h.objs.size + 4) = some (zpO (h.objs.size + 2) (h.objs.size + 3)) := by rw [← z4, ← z2, ← z3]; exact e4
  have a3 : (zm5 h l t).get? (h.objs.size + 3) = some (prO .none .none) := by rw [← z3]; exact e3
  have a2 : (zm5 h l t).get? (h.objs.size + 2) = some (prO (.ref h.objs.size) (.ref (h.objs.size + 1))) := by rw [← z2, ← z1]; exact e2
  have a1 : (zm5 h l t).get? (h.objs.size + 1) = some (tiO t) := by rw [← z1]; exact e1
  exact ⟨⟨a4, a2, ⟨.none, .none, a3⟩, ⟨_, e0, rfl, rfl⟩, ⟨_, a1, rfl, rfl⟩⟩, z4⟩
theorem call_zm {prog : Program} {w : World} {A : Around} {E : Value → Shared → Prop} {s : Shared} {l t : Addr} {xs ys : Array Value} {Q : Value → Shared → Prop} (ql : s.heap.IsList l xs) (qt : s.heap.IsTuple t ys)
    (k : ∀ h', ZmT l t s.heap.objs.size 0 h' → (∀ b o, s.heap.get? b = some o → h'.get? b = some o) → Q (.ref (s.heap.objs.size + 4)) { s with heap := h' }) : wpAny (model prog w) A (call (.type "zip") [.ref l, .ref t]) Q E s := by
  refine callType_new F.called_zip (by decide) (F.typeCall_zip_2 _ _) (F.newCall_zip_2 _ _) (fun z => F.args_object_init_3 z _ _) F.entry_zip_new (meets_zm l t xs ys) ⟨ql, qt, ?_⟩
  obtain ⟨st, z4⟩ := get_zm (l := l) (t := t) (n := s.heap.objs.size) rfl
  show _ ∧ _
  rw [z4]
  exact ⟨⟨_, st.zp, rfl⟩, k _ st fun b o e => Heap.get?_push_of_some _ (Heap.get?_push_of_some _ (Heap.get?_push_of_some _ (Heap.get?_push_of_some _ (Heap.get?_push_of_some _ e))))⟩
/-- the list at a and the tuple at b, as they stand at each turn -/
def ItzM (K : PySem.W.Frag) (a b : Addr) : It where
  go i H := ∃ xs ys : List V, SqL K H a xs ∧ SqT K H b ys ∧ i < xs.length ∧ i < ys.length
  yld i H v H' := ∃ T x y, v = .ref T ∧ H T = none ∧ H' = upd H T (.tup [x, y]) ∧ (∀ xs, SqL K H a xs → xs[i]? = some x) ∧ ∀ ys, SqT K H b ys → ys[i]? = some y
  stop i H := ∃ xs ys : List V, SqL K H a xs ∧ SqT K H b ys ∧ i ≤ xs.length ∧ i ≤ ys.length ∧ (i = xs.length ∨ i = ys.length)
theorem neA {x y : Nat} (h : x < y ∨ y < x) : @Ne Addr x y := fun e => by
  have e : (x : Nat) = y := e
  omega
theorem ni2 {x y z : Addr} (h : x ≠ y) (k : x ≠ z) : x ∉ [y, z] := fun q => by
  rcases List.mem_cons.mp q with q | q
  · exact h q
  · exact k (List.mem_singleton.mp q)
theorem sep_zm {a b n : Nat} (ha : a < n) (hb : b < n) : ZipSep2 (n + 4) (n + 2) (n + 3) n (n + 1) [n, a] [n + 1, b] := by
  constructor <;> first | exact neA (by omega) | exact ni2 (neA (by omega)) (neA (by omega)) | exact List.mem_cons_self
theorem mem5 {n b : Nat} (h : b ∈ [n + 4, n + 2, n + 3, n, n + 1]) : n ≤ b ∧ b ≤ n + 4 := by
  simp at h
  omega
theorem turn_zm {P : Program} {w : World} {K : PySem.W.Frag} {es : List Expr} {kk : Nat} {pos : Pos} {a b n : Nat} (ha : a < n) (hb : b < n) : Turn P w K (.Tuple es kk pos) (ItzM K a b) [n + 4, n + 2, n + 3, n, n + 1] (n + 4) (ZmT a b n) where
  mem := List.mem_cons_self
  obj i h st c hc := by
    obtain ⟨hz, hp, ⟨x, y, ho⟩, ⟨o1, e1, _, d1⟩, ⟨o2, e2, _, d2⟩⟩ := st
    simp only [List.mem_cons, List.not_mem_nil, or_false] at hc
    rcases hc with rfl | rfl | rfl | rfl | rfl
    · exact ⟨_, hz, fun v q => nomatch q⟩
    · exact ⟨_, hp, fun v q => nomatch q⟩
    · exact ⟨_, ho, fun v q => nomatch q⟩
    · exact ⟨o1, e1, fun v q => by rw [d1] at q; cases q⟩
    · exact ⟨o2, e2, fun v q => by rw [d2] at q; cases q⟩
  keep i h h' st k := ⟨k _ (by simp) _ st.zp, k _ (by simp) _ st.pr, let ⟨x, y, ho⟩ := st.ot; ⟨x, y, k _ (by simp) _ ho⟩, st.il.at fun o q => k _ (by simp) o q, st.it.at fun o q => k _ (by simp) o q⟩
  item := by
    intro X hP hw hK hc i pins s σ H E I hf st hg
    subst hP hw hK
    obtain ⟨xs, ys, hqx, hqy, hx, hy⟩ := hg
    obtain ⟨its, rv, p, _⟩ := I.list hqx
    obtain ⟨its2, rv2, p2, _⟩ := I.tuple hqy
    have l1 := rv.length
    have l2 := rv2.length
    have hh := I.ok.hd hc
    have hzl : n + 4 < s.heap.objs.size := Heap.lt_size st.zp
    obtain ⟨x0, y0, ho⟩ := st.ot
    have S := sep_zm (a := a) (b := b) ha hb
    refine wpAny_pyNext_zipD2_item S (Draws.list (A := X.A.in1) hh n a (neA (by omega)) its.toArray) (Draws.tuple (A := X.A.in1) hh (n + 1) b (neA (by omega)) its2.toArray) st.zp st.pr ho ⟨st.il, p.isList⟩ ⟨st.it, p2⟩ (by rw [List.size_toArray]; omega) (by rw [List.size_toArray]; omega) fun u1 u2 h' tk g1 g2 z' ot' st1 st2 hT hsz hk => ?_
    have hgx : xs[i]? = some xs[i] := List.getElem?_eq_getElem hx
    have hgy : ys[i]? = some ys[i] := List.getElem?_eq_getElem hy
    obtain ⟨v1, hv1, r1⟩ := rv.get hgx
    obtain ⟨v2, hv2, r2⟩ := rv2.get hgy
    obtain rfl : u1 = v1 := Option.some.inj ((show its[i]? = some u1 by simpa using g1).symm.trans hv1)
    obtain rfl : u2 = v2 := Option.some.inj ((show its2[i]? = some u2 by simpa using g2).symm.trans hv2)
    refine ⟨_, rfl, wpAny_letOwnedTupleGo_zip (s := { s with heap := h', toks := tk }) z' fun h2 z2 sb => ?_⟩
    have hT2 : h2.get? s.heap.objs.size = some { cls := .type "tuple", data := .seq #[u1, u2] } := (sb.2 _ (Nat.ne_of_gt hzl)).trans hT
    have ok : ObjOk X.prog X.w (upd H s.heap.objs.size (.tup [xs[i], ys[i]])) h2 s.heap.objs.size (.tup [xs[i], ys[i]]) :=
      ⟨(by show 2 ≤ sizeLine; decide), [u1, u2], .cons r1 (.cons r2 .nil), ⟨_, hT2, rfl, _, rfl⟩⟩
    have I1 : Inv X pins σ (upd H s.heap.objs.size (.tup [xs[i], ys[i]])) { s with heap := h2, toks := tk } :=
      I.turnedNew (ch := [n + 4, n + 2, n + 3, n, n + 1]) (fun c o hb q => (sb.2 c fun z => hb (by simp [z])).trans (hk c o (fun z => hb (by simp [z])) (fun z => hb (by simp [z])) (fun z => hb (by simp [z])) (fun z => hb (by simp [z])) q)) hf (Nat.le_refl _) ok
    refine ⟨.ref s.heap.objs.size, _, I1, rfl, ⟨_, xs[i], ys[i], rfl, I.hok.fresh (Nat.le_refl _), rfl, fun zs hz => by rw [I.list_inj hz hqx]; exact hgx, fun zs hz => by rw [I.tuple_inj hz hqy]; exact hgy⟩, ⟨z2, ?_, ⟨u1, u2, ?_⟩, ?_, ?_⟩, fun c hcm => ?_⟩
    · exact (sb.2 _ (neA (by omega))).trans (hk _ _ (neA (by omega)) (neA (by omega)) (neA (by omega)) (neA (by omega)) st.pr)
    · exact (sb.2 _ (neA (by omega))).trans ot'
    · exact st1.1.at fun o q => (sb.2 _ (neA (by omega))).trans q
    · exact st2.1.at fun o q => (sb.2 _ (neA (by omega))).trans q
    · have := mem5 hcm
      rw [upd_ne (neA (by omega))]
      exact (hf c hcm).1
  done := by
    intro X hP hw hK hc i pins s σ H E I hf st hg
    subst hP hw hK
    obtain ⟨xs, ys, hqx, hqy, h1, h2, h3⟩ := hg
    obtain ⟨its, rv, p, _⟩ := I.list hqx
    obtain ⟨its2, rv2, p2, _⟩ := I.tuple hqy
    have l1 := rv.length
    have l2 := rv2.length
    have hh := I.ok.hd hc
    obtain ⟨x0, y0, ho⟩ := st.ot
    exact wpAny_pyNext_zipD2_end (sep_zm (a := a) (b := b) ha hb) (Draws.list (A := X.A.in1) hh n a (neA (by omega)) its.toArray) (Draws.tuple (A := X.A.in1) hh (n + 1) b (neA (by omega)) its2.toArray) st.zp st.pr ho ⟨st.il, p.isList⟩ ⟨st.it, p2⟩ (by rw [List.size_toArray]; omega) (by rw [List.size_toArray]; omega) (by rw [List.size_toArray, List.size_toArray]; omega) fun h' tk hk =>
      ⟨rfl, I.turnedL (ch := [n + 4, n + 2, n + 3, n, n + 1]) (fun c o hb q => hk c o (fun z => hb (by simp [z])) (fun z => hb (by simp [z])) (fun z => hb (by simp [z])) (fun z => hb (by simp [z])) q) hf⟩
  self A i s Q E st h := wpAny_pyIter_zip st.zp h
def iZm (K : PySem.W.Frag) (ta : TA) : TI := fun σ H R => ta σ H fun vs H1 => ∃ a b xs ys, vs = [.ref a, .ref b] ∧ SqL K H1 a xs ∧ SqT K H1 b ys ∧ R (ItzM K a b) H1
theorem pi_zm {X : Cx} {e e2 : Expr} {ta : TA} {p pos q : Pos} {es : List Expr} {kk : Nat} (hg : Gl X "zip") (hm : X.mg "zip" = none) (ha : PA X [e, e2] ta)
    (hs : starEach [e, e2] X.env = (false, eval e X.env) :: starEach [e2] X.env := by rfl) (hpl : (backTo pos (starEach [e2] X.env)).any (·.1) = false := by rfl) :
    PI X (.Tuple es kk q) (.Call (.Name "zip" p) [e, e2] [] pos) (iZm X.K ta) := by
  constructor
  intro pins s σ H R I h
  refine Call_ (ld_blt I hg hm PyProof.Rows.boot_zip (PyProof.Rows.callWith_type1 (thn (ha.run pos pins s σ H _ I h) fun us s1 ⟨vs, H1, I1, r1, q1⟩ => ?_) hs hpl))
  obtain ⟨a, b, xs, ys, ex, hqx, hqy, q⟩ := q1
  subst ex
  obtain ⟨u1, u2, rfl, t1, t2⟩ := vals2 r1
  cases t1
  cases t2
  obtain ⟨its, rv, p1, _⟩ := I1.list hqx
  obtain ⟨its2, rv2, p2, _⟩ := I1.tuple hqy
  have la : a < s1.heap.objs.size := p1.lt
  have lb : b < s1.heap.objs.size := by
    obtain ⟨o, ho, _⟩ := p2
    exact Heap.lt_size ho
  refine call_zm p1.isList p2 fun h' st hk => wpAny_pyIter_zip st.zp ?_
  have I2 : Inv X pins σ H1 { s1 with heap := h' } := I1.kept (t' := s1.toks) hk
  exact ⟨_, _, _, _, H1, rfl, I2, turn_zm la lb, st, fun c hc => I1.fpOk (mem5 hc).1 (I1.hok.fresh (mem5 hc).1), q⟩
theorem walk_zm {K : PySem.W.Frag} {a b : Addr} {xs ys : List V} {n : Nat} (h1 : n = xs.length) (h2 : n = ys.length) :
    Walk (ItzM K a b) n (fun H => SqL K H a xs ∧ SqT K H b ys) (YPair (fun i => xs[i]?) fun i => ys[i]?) := by
  refine ⟨fun i _ hi q => ⟨xs, ys, q.1, q.2, by omega, by omega⟩, fun _ q => ⟨xs, ys, q.1, q.2, by omega, by omega, by omega⟩, fun i H v H' _ q y => ?_⟩
  obtain ⟨T, x, z, e1, e2, e3, e4, e5⟩ := y
  exact ⟨T, x, z, e1, e2, e3, e4 _ q.1, e5 _ q.2⟩
end Gd

set_option Elab.async false
set_option linter.all false
set_option maxRecDepth 100000
set_option maxHeartbeats 4000000
set_option exponentiation.threshold 20000
namespace K8
open PySem PySem.Spec PyProof.Rows L2 Gd Pv RZ Po Nm
section
variable {P : Program} {w : World} {K : PySem.W.Frag} {mg : Str → Option Value} {base : Heap}
def rInt1 : List V → Hp → VK → Prop := fun xs H Q => (∃ i, xs = [.int i] ∧ Q (.int i) H) ∨ ∃ k, xs = [.bl k] ∧ Q (.int (if k then 1 else 0)) H
/-- what is laid while the told ones are looked at -/
structure ToAt (H : Hp) (D : Addr) (kv : List (Nat × Addr)) (p : Addr) (ss : List Nat) (pb : Addr) (as : List Addr) (r : List Int) (m : Nat) : Prop where
  cy : CyAt H D kv
  so : H p = some (.tup (nV ss))
  ba : H pb = some (.tup (as.map V.ref))
  at_ : ∀ k b, as[k]? = some b → TAt H b (car r m (unitL as.length k))
theorem ToAt.same {H H' : Hp} {D : Addr} {kv : List (Nat × Addr)} {p : Addr} {ss : List Nat} {pb : Addr} {as : List Addr} {r : List Int} {m : Nat} (h : ToAt H D kv p ss pb as r m) (s : Same H H') : ToAt H' D kv p ss pb as r m :=
  ⟨h.cy.same s, s _ _ h.so, s _ _ h.ba, fun k b e => (h.at_ k b e).same s⟩
theorem ToAt.kp {H H' : Hp} {d c : Addr} {cells : List Int} {B : Nat} {D : Addr} {kv : List (Nat × Addr)} {p : Addr} {ss : List Nat} {pb : Addr} {as : List Addr} {r : List Int} {m : Nat} (h : ToAt H D kv p ss pb as r m) (F : FeedAt H d c cells B) (k : Kp d H H') : ToAt H' D kv p ss pb as r m :=
  ⟨h.cy.kp F k, k _ _ (F.neT h.so) h.so, k _ _ (F.neT h.ba) h.ba, fun j b e => (h.at_ j b e).kp F k⟩
theorem rule_eq {n : Nat} {ss ts us : List Nat} (R : Rest n ss ts) (R2 : Rest n ss us) (h1 : 1 ≤ n) (h2 : n ≤ 36) : facL us = facL ts ∧ dgP us = dgP ts := by
  have := R.dg h1 h2
  have := R2.dg h1 h2
  exact ⟨(R2.exact h1 h2).1.symm.trans (R.exact h1 h2).1, by omega⟩
theorem car_bd {n c : Nat} {ss ts : List Nat} {v : List Int} (R : Rest n ss ts) (h1 : 1 ≤ n) (h2 : n ≤ 36) (hv : Bd c v) (hc : c ≤ 200) : Bd 5000 (car (facL ts) (n - dgP ts) v) := by
  obtain ⟨mt, bt, lt, hd, hle⟩ := rest_ok R h1 h2
  have b := bd_car bt (unit_abs (R.unit h1 h2)) (by omega) hv (n - dgP ts)
  have : (118 + 6) * (n - dgP ts) ≤ 124 * 36 := Nat.mul_le_mul_left 124 (by omega)
  exact b.mono (by omega)
theorem cut_pre {d : Nat} {v u : List Int} (h : v.length = d) : cutV ((v ++ u).map V.int) none (some ((d : Nat) : Int)) = v.map V.int := by
  unfold cutV
  rw [HT.sIx_none, HT.sIx_nat, List.drop_zero, List.length_map, List.length_append, Nat.sub_zero, show min d (v.length + u.length) = v.length by omega, List.map_append, ← List.length_map (f := V.int) (as := v), List.take_left]
theorem slCar {K : PySem.W.Frag} {H : Hp} {a : Addr} {r v : List Int} {m d : Nat} {Q : V → Hp → Prop} (ha : TAt H a (car r m v)) (hd : v.length = d) (k : ∀ (b : Addr) (H' : Hp), Same H H' → SqT K H' b (v.map V.int) → Q (.ref b) H') : rSlA K (.ref a) none (some ((d : Nat) : Int)) H Q := by
  obtain ⟨u, hu⟩ := car_pre r m v
  have lc := car_len r m v
  rw [hu] at ha lc
  refine slK ha.sq (fun c => ?_) fun b H2 s2 hb => k b H2 s2 ?_
  · have h1 := c.2
    rw [HT.sIx_nat, List.length_map] at h1
    rw [List.length_append] at h1 lc
    have : u = [] := List.eq_nil_of_length_eq_zero (by omega)
    rw [cut_pre hd, this, List.append_nil]
  · rwa [cut_pre hd] at hb
theorem giV {xs : List Int} {i : Nat} {v : V} (h : (xs.map V.int)[i]? = some v) : ∃ z, xs[i]? = some z ∧ v = .int z := by
  rw [List.getElem?_map] at h
  cases e : xs[i]? with
  | none => rw [e] at h; cases h
  | some z => rw [e] at h; exact ⟨z, rfl, (Option.some.inj h).symm⟩
theorem dpS {K : PySem.W.Frag} {H : Hp} {a : Addr} {xs : List Int} (h : SqT K H a (xs.map V.int)) : Dp K H (.ref a) (dT xs) := .tup h (dpInts xs)
theorem eqD_self (xs : List Int) : PyData.eqv (dT xs) (dT xs) = true := eqA_self xs
theorem ind_is {n j k : Nat} (hj : j < n) : (if decide (V.int (0 + (j : Int)) = V.int (0 + (k : Int))) = true then (1 : Int) else 0) = ind n [((k : Nat) : Int)] ((j : Nat) : Int) := by
  unfold ind
  rw [Int.emod_eq_of_lt (by omega) (by omega)]
  by_cases z : j = k
  · subst z
    rw [if_pos (decide_eq_true rfl), if_pos (List.mem_singleton.mpr rfl)]
  · rw [if_neg (fun y => z (by have := of_decide_eq_true y; injection this with this; omega)), if_neg (fun y => z (by have := List.mem_singleton.mp y; omega))]
def spTold : Sp := fun vs H Q _ => ∃ (d c p : Addr) (cells : List Int) (B n : Nat) (ss : List Nat), vs = [.ref d, .int (n : Nat), .ref p] ∧ FeedAt H d c cells B ∧ B ≤ 5000 ∧ 1 ≤ n ∧ n ≤ 36 ∧ SubL n ss ∧ H p = some (.tup (nV ss)) ∧
  ∀ H', FeedAt H' d c cells (B + 36) → Kp d H H' → Q (.bl true) H'
theorem c__law_is_told (D : At K mg "_law_is_told" s__law_is_told ["_law_feed_here", "_law_size_here", "_law_some_here"]) (c__law_pick : Cal P w K mg base 1 "_law_pick" spDraw) (c__law_cycles : Cal P w K mg base 2 "_law_cycles" spCycles) (c_silent_basis : Cal P w K mg base 8 "silent_basis" (spBasis K)) (c_silent_from : Cal P w K mg base 8 "silent_from" (spFrom K)) (c_silent_voice : Cal P w K mg base 7 "silent_voice" (spSilV K))
    (c__law_same : Cal P w K mg base 1 "_law_same" (spSameR K 0)) (c_silent_rank : Cal P w K mg base 6 "silent_rank" (spRank K)) (c__law_is_silent : Cal P w K mg base 2 "_law_is_silent" (spIsSil K)) (c__law_silences : Cal P w K mg base 2 "_law_silences" spSil)
    (z_tuple : mg "tuple" = none) (z_sum : mg "sum" = none) (z_len : mg "len" = none) (z_isinstance : mg "isinstance" = none) (z_range : mg "range" = none) (z_int : mg "int" = none) (z_zip : mg "zip" = none) : Cal P w K mg base 9 "_law_is_told" spTold := by
  refine okC D sc__law_is_told (fun vs H Q E h => ?_) (fun f cdv A outer s H vs Q E hr h => ?_)
  · obtain ⟨d, c, p, cells, B, n, ss, rfl, _⟩ := h
    rfl
  · obtain ⟨d, c, p, cells, B, n, ss, rfl, F, hB, n1, n2, hs, ep, q⟩ := h
    have nd := sc__law_is_told.nd
    have hu := hu_of hr
    have hu64 := hr.units
    obtain ⟨ts, RR⟩ := Rest.of (n := n) hs
    obtain ⟨mt, bt, lt, hdg, hle⟩ := rest_ok RR n1 n2
    refine ⟨_, (pss_cons (ps_set (i := 3) nd rfl (.inr rfl) (pe_k c__law_cycles hr (by decide) (by rfl) (pa_cons (pv 1) pa_nil)))
 (pss_cons (ps_set (i := 4) nd rfl (.inl rfl) (pe_op op_sub (pv 1) (pe_callB (cr_sum rfl) (by rfl) z_sum (by decide +kernel) (pa_cons (pe_lc (own := [("_law_late", 10)]) rfl nd (pi_tup (pv 2)) (blkOk_by (N := N__law_is_told) (sc := defScope s__law_is_told) (by decide +kernel)) (fun _ _ _ _ _ => pg_name (i := 10) nd rfl (Or.inl rfl)) (fun _ _ _ _ _ => pts_nil) (fun _ _ _ _ _ => (pe_op op_sub (pe_callB (r := rLenS K) call_len_seq (by rfl) z_len PySem.boot_len (pa_cons (pe_dget hu (pv 3) (pv 10) (fun _ _ => rfl)) pa_nil)) pe_int))) pa_nil))))
 (pss_cons (ps_set (i := 5) nd rfl (.inl rfl) (pe_k c_silent_basis hr (by decide) (by rfl) (pa_cons (pv 1) (pa_cons (pv 2) pa_nil))))
 (C8.pss_cut (ps_if (PW.pt (pw_or (pt_not (pt_val (pe_k c__law_same hr (by decide) (by rfl) (pa_cons (pv 4) (pa_cons (pe_k c_silent_rank hr (by decide) (by rfl) (pa_cons (pv 1) (pa_cons (pv 2) pa_nil))) pa_nil))))) (pw_or (pt_not (pt_val (pe_callB call_isi (by rfl) z_isinstance (by decide +kernel) (pa_cons (pv 5) (pa_cons (pe_bltn (by rfl) z_tuple (by decide +kernel) (v := .ty "tuple") rfl) pa_nil))))) (pw_or1 (pt_cmpR op_ne (pe_callB call_len_seq (by rfl) z_len PySem.boot_len (pa_cons (pv 5) pa_nil)) (pv 4) (nomark _))))))
 (pss_one (ps_ret pe_bl))
 pss_nil)
 (C8.pss_cut (ps_for PassesOwn.never rfl (pi_range1 (by rfl) z_range (pa_cons (pv 4) pa_nil)) (pg_name (i := 6) nd rfl (.inr rfl))
 (C8.pss_cut (ps_if (pt_not (pt_val (pe_k c__law_is_silent hr (by decide) (by rfl) (pa_cons (pe_ix (r := rIxT K) ix_tup (pv 5) (pv 6) (fun _ _ => rfl)) (pa_cons (pv 1) (pa_cons (pv 3) (pa_cons (pv 2) pa_nil)))))))
 (pss_one (ps_ret pe_bl))
 pss_nil)
 (pss_one (ps_if (pt_cmpR (op_neD hu64) (pe_slice sl_tupA (pe_ix (r := rIxT K) ix_tup (pv 5) (pv 6) (fun _ _ => rfl)) po_none (po_some (pv 4))) (pe_tupleOf (by rfl) z_tuple (pe_lc (own := [("_law_j", 15)]) rfl nd (pi_range1 (by rfl) z_range (pa_cons (pv 4) pa_nil)) (blkOk_by (N := N__law_is_told) (sc := defScope s__law_is_told) (by decide +kernel)) (fun _ _ _ _ _ => pg_name (i := 15) nd rfl (Or.inl rfl)) (fun _ _ _ _ _ => pts_nil) (fun _ _ _ _ _ => (pe_callTy (r := rInt1) (T := "int") call_int1 (by rfl) z_int (by decide +kernel) (pa_cons (pe_cmpR op_eq (pv 15) (pv 6) (nomark _)) pa_nil))))) (nomark _))
 (pss_one (ps_ret pe_bl))
 pss_nil))))
 (pss_cons (ps_set (i := 7) nd rfl (.inl rfl) (pe_tupleOf (by rfl) z_tuple (pe_lc (own := [("_law_k", 6)]) rfl nd (pi_range1 (by rfl) z_range (pa_cons (pv 4) pa_nil)) (blkOk_by (N := N__law_is_told) (sc := defScope s__law_is_told) (by decide +kernel)) (fun _ _ _ _ _ => pg_name (i := 6) nd rfl (Or.inl rfl)) (fun _ _ _ _ _ => pts_nil) (fun _ _ _ _ _ => (pe_op op_sub (pe_k c__law_pick hr (by decide) (by rfl) (pa_cons (pv 0) (pa_cons pe_int pa_nil))) pe_int)))))
 (pss_cons (ps_set (i := 8) nd rfl (.inl rfl) (pe_k c_silent_from hr (by decide) (by rfl) (pa_cons (pv 1) (pa_cons (pv 2) (pa_cons (pv 7) pa_nil)))))
 (C8.pss_cut (ps_if (PW.pt (pw_or (pt_not (pt_val (pe_k c__law_is_silent hr (by decide) (by rfl) (pa_cons (pv 8) (pa_cons (pv 1) (pa_cons (pv 3) (pa_cons (pv 2) pa_nil))))))) (pw_or1 (pt_cmpR (op_neD hu64) (pe_slice sl_tupA (pv 8) po_none (po_some (pv 4))) (pv 7) (nomark _)))))
 (pss_one (ps_ret pe_bl))
 pss_nil)
 (pss_cons (ps_set (i := 9) nd rfl (.inl rfl) (pe_op op_rep (pe_lst (pa_cons pe_int pa_nil)) (pv 1)))
 (C8.pss_cut (ps_for PassesOwn.never rfl (pi_zipA (by rfl) z_zip (pa_cons (pv 5) (pa_cons (pv 7) pa_nil))) (pg_tup rfl (pgs_cons (pg_name (i := 11) nd rfl (.inl rfl)) (pgs_cons (pg_name (i := 12) nd rfl (.inr rfl)) pgs_nil)))
 (pss_one (ps_setLc (i := 9) (own := [("_law_x", 13), ("_law_y", 14)]) rfl nd rfl rfl (sw_true rfl rfl rfl (by decide +kernel)) (pi_zm (by rfl) z_zip (pa_cons (pv 9) (pa_cons (pv 11) pa_nil))) (blkOk_by (N := N__law_is_told) (sc := defScope s__law_is_told) (by decide +kernel)) (g := gTup K 2 (gCons (gName 13) (gCons (gName 14) gNil))) (fun _ _ _ _ _ => (pg_tup rfl (pgs_cons (pg_name (i := 13) nd rfl (.inl rfl)) (pgs_cons (pg_name (i := 14) nd rfl (.inl rfl)) pgs_nil)))) (fun _ _ _ _ _ => pts_nil) (fun _ _ _ _ _ => (pe_op op_add (pv 13) (pe_op op_mulW (pv 12) (pv 14)))))))
 (pss_cons (ps_set (i := 10) nd rfl (.inl rfl) (pe_k c_silent_voice hr (by decide) (by rfl) (pa_cons (pv 1) (pa_cons (pv 2) pa_nil))))
 (pss_one (ps_ret (pe_and (pe_cmpR (op_eqD hu64) (pe_tupleOf (by rfl) z_tuple (pv 9)) (pv 8) (nomark _)) (pe_and (pe_k c__law_is_silent hr (by decide) (by rfl) (pa_cons (pv 10) (pa_cons (pv 1) (pa_cons (pv 3) (pa_cons (pv 2) pa_nil))))) (pe_one (pe_cmpR (op_eqD hu64) (pe_k c__law_silences hr (by decide) (by rfl) (pa_cons (pv 10) (pa_cons (pv 3) pa_nil))) (pv 2) (nomark _)))))))))))))))))), ?_⟩
    refine ⟨_, rfl, n, rfl, n1, n2, fun D kv H2 s2 CY hkv => ?_⟩
    have pw := kv_pw hkv
    have hb : SqT K H2 p (nV ss) := .inl (.inl (s2 _ _ ep))
    have CYG := CY
    refine ⟨_, rfl, _, rfl, p, rfl, ⟨_, hb⟩, fun R hR => lc_it (walk_tup (xs := nV ss)) (fun i H' => Same H2 H' ∧ H' R = some (.lst (((ss.take i).map fun d => (((cz d).length - 1 : Nat) : Int)).map V.int))) ⟨same_new hR, upd_same⟩ (fun i H' _ z => Same.sqT z.1 hb) ?_ ?_⟩
    · rintro i x J J' hi ⟨sJ, eJ⟩ ⟨eH, hx⟩
      obtain rfl := eH.symm
      rw [nV_len] at hi
      obtain ⟨e, he, rfl⟩ := nV_get hx
      obtain ⟨d1, d2, d3⟩ := sub_mem hs (List.mem_of_getElem? he)
      obtain ⟨pa, pm⟩ := kv_mem hkv d3
      have CYJ := CYG.same sJ
      have l9 := sub_len hs n1 n2
      have mo := (cz_ok d1 (by omega)).1.len
      refine ⟨rfl, _, rfl, _, rfl, D, _, rfl, CyAt.lget (.inl CYJ.dict) pw pm, pa, _, rfl, .inl (.inl (.inl (CYJ.at_ _ pm))), _, _, rfl, rfl, ?_⟩
      refine ⟨_, eJ, ?_, same_own sJ hR, ?_⟩
      · rw [List.length_map, List.length_map, List.length_take]
        exact small1000 (by omega)
      · rw [upd_same, List.take_succ, he, List.map_append, List.map_append]
        show some (HO.lst (_ ++ [V.int (((((cz e).map V.int).length : Nat) : Int) - 1)])) = some (HO.lst (_ ++ [V.int (((cz e).length - 1 : Nat) : Int)]))
        rw [List.length_map]
        congr 5
        omega
    rintro J ⟨sJ, eJ⟩
    rw [nV_len, List.take_length] at eJ
    refine ⟨R, _, rfl, .inl (.inl eJ), _, _, rfl, rfl, ?_⟩
    rw [dg_sum]
    dsimp only
    rw [show ((n : Nat) : Int) - ((dgP ss : Nat) : Int) = ((n - dgP ss : Nat) : Int) by have := RR.dg n1 n2; omega]
    have sB := s2.trans sJ
    refine ⟨_, rfl, _, rfl, n, p, ss, rfl, n1, n2, hs, .inl (.inl (sB _ _ ep)), fun us pb as H3 R2 s3 eB lA hA => ?_⟩
    obtain ⟨eF, eD⟩ := rule_eq RR R2 n1 n2
    rw [eF, eD] at hA
    rw [eD] at lA
    have T3 : ToAt H3 D kv p ss pb as (facL ts) (n - dgP ts) := ⟨CY.same (sJ.trans s3), s3 _ _ (sB _ _ ep), eB, fun k b e => by rw [lA]; exact hA k b e⟩
    have F3 := (F.same sB).same s3
    have k3 := (sB.trans s3).kp (d := d)
    clear hA eB sB s3 sJ eJ
    rw [hdg, ← lA]
    generalize hm : n - dgP ts = m at T3
    refine ⟨fun σ H' => σ = [some (.ref d), some (.int (n : Nat)), some (.ref p), some (.ref D), some (.int (as.length : Nat)), some (.ref pb), none, none, none, none, none, none, none, none, none, none] ∧ Same H3 H', ?_, ?_⟩
    · refine ⟨_, rfl, _, rfl, _, rfl, n, p, ss, rfl, n1, n2, hs, .inl (.inl T3.so), fun G1 s1 => ?_⟩
      refine ⟨_, _, .int _, rfl, .int _, by rw [show ((n - dgP ss : Nat) : Int) = ((as.length : Nat) : Int) by omega]; exact .int _, rfl, fun G2 s2 => ⟨true, rfl, iteF ?_⟩⟩
      have TG := T3.same (s1.trans s2)
      refine ⟨_, rfl, _, _, _, _, true, rfl, .ty "tuple", .base (.tup TG.ba), kit_ty (by decide +kernel), true, rfl, iteF ?_⟩
      refine ⟨_, rfl, pb, _, rfl, .inr (.inl (.inl TG.ba)), _, rfl, rfl, _, rfl, ite2 (fun e => ?_) fun _ => ⟨rfl, s1.trans s2⟩⟩
      rw [List.length_map, decide_eq_true rfl] at e
      cases e
    rintro σ H4 ⟨rfl, s4⟩
    have T4 := T3.same s4
    have F4 := F3.same s4
    replace k3 := k3.trans s4.kp
    have lR : as.length ≤ 36 := by omega
    refine ⟨fun σ H' => ∃ y6 : Option V, σ = [some (.ref d), some (.int (n : Nat)), some (.ref p), some (.ref D), some (.int (as.length : Nat)), some (.ref pb), y6, none, none, none, none, none, none, none, none, none] ∧ Same H4 H', ?_, ?_⟩
    · refine ⟨_, rfl, as.length, rfl, by omega, by omega, ?_⟩
      rw [Int.toNat_natCast]
      refine for_it walk_range (fun k σ H' => ∃ y6 : Option V, σ = [some (.ref d), some (.int (n : Nat)), some (.ref p), some (.ref D), some (.int (as.length : Nat)), some (.ref pb), y6, none, none, none, none, none, none, none, none, none] ∧ Same H4 H') ⟨_, rfl, Same.refl _⟩ (fun _ _ _ _ _ => True.intro) ?_ ?_
      · rintro k x σ G G' hk ⟨y6, rfl, sG⟩ ⟨eH, rfl⟩
        obtain rfl := eH.symm
        have TG := T4.same sG
        have hak : as[k]? = some as[k] := List.getElem?_eq_getElem hk
        generalize as[k] = b at hak
        have eb := TG.at_ k b hak
        have hat : atI (as.map V.ref) (0 + ((k : Nat) : Int)) = some (.ref b) := by
          rw [Int.zero_add]
          exact atI_nat (by rw [List.getElem?_map, hak]; rfl)
        have hu1 : (unitL as.length k).length = as.length := of_len _ _
        refine ⟨fun σ H' => σ = [some (.ref d), some (.int (n : Nat)), some (.ref p), some (.ref D), some (.int (as.length : Nat)), some (.ref pb), some (.int (0 + ((k : Nat) : Int))), none, none, none, none, none, none, none, none, none] ∧ Same H4 H', ?_, ?_⟩
        · refine ⟨_, rfl, _, rfl, pb, _, _, _, rfl, rfl, .inl (.inl TG.ba), hat, _, rfl, _, rfl, _, rfl, b, D, p, _, n, 5000, kv, ss, rfl, eb, TG.cy, hkv, .inl (.inl TG.so), hs, by rw [car_len, hu1]; omega, n1, n2, by rw [← hm]; exact car_bd RR n1 n2 (unit_bd _ _) (by decide), by decide, fun e he => ?_, fun G4 sg4 => ⟨true, rfl, iteF ?_⟩⟩
          · rw [← hm]
            exact car_sil RR n1 n2 (by rw [hu1, lA]) he (cz_fit (sub_mem hs he).1 (sub_mem hs he).2.1 n2)
          · exact ⟨rfl, sG.trans sg4⟩
        · rintro σ G5 ⟨rfl, s5⟩
          have T5 := T4.same s5
          refine ⟨_, rfl, _, rfl, pb, _, _, _, rfl, rfl, .inl (.inl T5.ba), hat, ?_⟩
          dsimp only [tNoPart]
          refine ⟨_, rfl, _, rfl, slCar (T5.at_ k b hak) hu1 fun b2 G6 s6 e6 => ?_⟩
          refine ⟨_, rfl, as.length, rfl, by omega, by omega, fun L hL => ?_⟩
          rw [Int.toNat_natCast]
          refine lcR (fun j => V.int (ind as.length [((k : Nat) : Int)] (j : Nat))) hL (by omega) (fun j G7 R hj s7 ret => ?_) fun G7 s7 e7 => ?_
          · refine ⟨rfl, _, rfl, _, rfl, rfl, .inr ⟨_, rfl, ?_⟩⟩
            rw [ind_is hj]
            exact ret _ (Same.refl _)
          · rw [of_V] at e7
            refine .inl ⟨L, _, rfl, .inl (.inl e7), fun t ht => ?_⟩
            have s8 := same_new (o := .tup ((unitL as.length k).map V.int)) ht
            have e8 : TAt (upd G7 t (.tup ((unitL as.length k).map V.int))) t (unitL as.length k) := upd_same
            refine ⟨_, _, dpS (Same.sqT (s7.trans s8) e6), dpT e8, shT _, shT _, _, rfl, ?_⟩
            rw [eqD_self]
            exact iteF ⟨_, rfl, (s5.trans s6).trans (s7.trans s8)⟩
      · rintro σ G ⟨y6, rfl, sG⟩
        exact ⟨_, rfl, sG⟩
    rintro σ H5 ⟨y6, rfl, s5⟩
    have T5 := T4.same s5
    have F5 := F4.same s5
    replace k3 := k3.trans s5.kp
    refine ⟨_, rfl, as.length, rfl, by omega, by omega, fun L hL => ?_⟩
    rw [Int.toNat_natCast]
    refine lcDraw (m := 1) hL F5 (by omega) (fun i G Y hi FG kG ret => ?_) fun ws H6 lw bw F6 k6 e6 => ?_
    · refine ⟨rfl, _, rfl, d, c, cells, B + 1 * i, 9, rfl, FG, by omega, by omega, by omega, fun r G2 hr2 F2 k2 => ⟨_, _, rfl, rfl, ret _ _ ?_ F2 k2⟩⟩
      have : ((r : Int) - 4).natAbs < 9 := by omega
      exact Nat.lt_trans this (by decide)
    have T6 := T5.kp F5 k6
    replace k3 := k3.trans k6
    rw [Nat.one_mul] at F6
    refine .inl ⟨L, _, rfl, .inl (.inl e6), fun pw2 hpw => ?_⟩
    have s7 := same_new (o := .tup (ws.map V.int)) hpw
    have ew : TAt (upd H6 pw2 (.tup (ws.map V.int))) pw2 ws := upd_same
    generalize upd H6 pw2 (.tup (ws.map V.int)) = H7 at s7 ew ⊢
    have T7 := T6.same s7
    have F7 := F6.same s7
    refine ⟨_, rfl, _, rfl, _, rfl, n, p, pw2, ss, ws, rfl, n1, n2, hs, .inl (.inl T7.so), ew, by omega, bw.mono (by decide), fun us pv H8 R3 s8 e8 => ?_⟩
    obtain ⟨eF3, eD3⟩ := rule_eq RR R3 n1 n2
    rw [eF3, eD3, hm] at e8
    have T8 := T7.same s8
    have F8 := F7.same s8
    replace k3 := k3.trans (s7.trans s8).kp
    have ew8 := ew.same s8
    refine ⟨fun σ H' => ∃ y6 : Option V, σ = [some (.ref d), some (.int (n : Nat)), some (.ref p), some (.ref D), some (.int (as.length : Nat)), some (.ref pb), y6, some (.ref pw2), some (.ref pv), none, none, none, none, none, none, none] ∧ Same H8 H', ?_, ?_⟩
    · refine ⟨_, rfl, _, rfl, _, rfl, _, rfl, pv, D, p, _, n, 5000, kv, ss, rfl, e8, T8.cy, hkv, .inl (.inl T8.so), hs, by rw [car_len]; omega, n1, n2, by rw [← hm]; exact car_bd RR n1 n2 bw (by decide), by decide, fun e he => ?_, fun G4 sg4 => ⟨true, rfl, iteF ?_⟩⟩
      · rw [← hm]
        exact car_sil RR n1 n2 (by omega) he (cz_fit (sub_mem hs he).1 (sub_mem hs he).2.1 n2)
      · refine ⟨_, rfl, ?_⟩
        dsimp only [tNoPart]
        refine ⟨_, rfl, _, rfl, slCar (e8.same sg4) lw fun b2 G6 sg6 eb2 => ?_⟩
        refine ⟨_, rfl, _, _, dpS eb2, dpT (ew8.same (sg4.trans sg6)), shT _, shT _, _, rfl, ?_⟩
        rw [eqD_self]
        exact iteF ⟨_, rfl, sg4.trans sg6⟩
    rintro σ H9 ⟨y6, rfl, s9⟩
    have T9 := T8.same s9
    have F9 := F8.same s9
    replace k3 := k3.trans s9.kp
    have ew9 := ew8.same s9
    have e9 := e8.same s9
    refine ⟨(by show 1 ≤ sizeLine; decide), fun l hl => ?_⟩
    have s10 := same_new (o := .lst [V.int 0]) hl
    have e10 : (upd H9 l (.lst [V.int 0])) l = some (.lst [V.int 0]) := upd_same
    generalize upd H9 l (.lst [V.int 0]) = H10 at s10 e10 ⊢
    refine ⟨_, rfl, l, _, _, rfl, rfl, e10, by omega, by omega, ?_, fun z hz => ?_⟩
    · show 1 * (n : Int).toNat ≤ sizeLine
      rw [Int.toNat_natCast, Nat.one_mul]
      have := small1000 (show n < 1000 by omega)
      omega
    have sz := same_new (o := .lst (List.replicate (n : Int).toNat [V.int 0]).flatten) hz
    have ez : LAt (upd H10 z (.lst (List.replicate (n : Int).toNat [V.int 0]).flatten)) z (car (facL ts) m (fst as.length 0 ws)) := by
      show upd _ z _ z = _
      rw [upd_same, Int.toNat_natCast, rep_flat, fst_zero, car_zeros, show as.length + m = n by omega]
    generalize upd H10 z (.lst (List.replicate (n : Int).toNat [V.int 0]).flatten) = H11 at sz ez ⊢
    have T11 := T9.same (s10.trans sz)
    have F11 := F9.same (s10.trans sz)
    replace k3 := k3.trans (s10.trans sz).kp
    have ew11 := ew9.same (s10.trans sz)
    have e11 := e9.same (s10.trans sz)
    refine ⟨fun σ H' => ∃ (y6 y11 y12 : Option V) (z : Addr), σ = [some (.ref d), some (.int (n : Nat)), some (.ref p), some (.ref D), some (.int (as.length : Nat)), some (.ref pb), y6, some (.ref pw2), some (.ref pv), some (.ref z), none, y11, y12, none, none, none] ∧ Same H11 H' ∧ LAt H' z (car (facL ts) m ws), ?_, ?_⟩
    · refine ⟨_, rfl, _, rfl, pb, pw2, _, _, rfl, .inr ⟨.inl (.inl T11.ba), ew11.sq, for_it (walk_zT (xs := as.map V.ref) (ys := ws.map V.int) (n := as.length) (by rw [List.length_map]; exact Nat.le_refl _) (by rw [List.length_map]; omega) (.inl (by rw [List.length_map])))
        (fun j σ H' => ∃ (y6 y11 y12 : Option V) (z : Addr), σ = [some (.ref d), some (.int (n : Nat)), some (.ref p), some (.ref D), some (.int (as.length : Nat)), some (.ref pb), y6, some (.ref pw2), some (.ref pv), some (.ref z), none, y11, y12, none, none, none] ∧ Same H11 H' ∧ LAt H' z (car (facL ts) m (fst as.length j ws)))
        ⟨_, _, _, z, rfl, Same.refl _, ez⟩ (fun j σ H' _ ⟨_, _, _, _, _, s, _⟩ => ⟨.inl (.inl (T11.same s).ba), (ew11.same s).sq⟩) ?_ ?_⟩⟩
      · rintro j x σ G G' hj ⟨y6, y11, y12, z, rfl, sG, eG⟩ ⟨T, x1, x2, rfl, hT, eH, hx, hy⟩
        have hak : as[j]? = some as[j] := List.getElem?_eq_getElem hj
        generalize as[j] = b at hak
        replace hx : (as.map V.ref)[j]? = some x1 := hx
        replace hy : (ws.map V.int)[j]? = some x2 := hy
        obtain rfl : V.ref b = x1 := by
          rw [List.getElem?_map, hak] at hx
          exact Option.some.inj hx
        obtain ⟨w2, hw2, rfl⟩ := giV hy
        obtain rfl : co ws (j : Nat) = w2 := by
          unfold co
          rw [if_pos (by omega), Int.toNat_natCast, List.getD_eq_getElem?_getD, hw2]
          rfl
        have sT := same_new (o := .tup [V.ref b, V.int (co ws (j : Nat))]) hT
        have eT : (upd G T (.tup [V.ref b, V.int (co ws (j : Nat))])) T = some (.tup [V.ref b, V.int (co ws (j : Nat))]) := upd_same
        rw [← eH] at sT eT
        have sA := sG.trans sT
        have eA := sT _ _ eG
        have eb := (T11.same sA).at_ j b hak
        clear eH
        have hl1 : (fst as.length j ws).length = as.length := of_len _ _
        have hl2 : (unitL as.length j).length = as.length := of_len _ _
        have bB : Bd 5000 (car (facL ts) m (unitL as.length j)) := by rw [← hm]; exact car_bd RR n1 n2 (unit_bd _ _) (by decide)
        have step := tot_step (r := facL ts) (m := m) (ws := ws) hj
        have lA1 : (car (facL ts) m (fst as.length j ws)).length = n := by rw [car_len, hl1]; omega
        have lB1 : (car (facL ts) m (unitL as.length j)).length = n := by rw [car_len, hl2]; omega
        generalize car (facL ts) m (fst as.length j ws) = A1 at eA lA1 step
        generalize car (facL ts) m (unitL as.length j) = B1 at eb lB1 step bB
        refine ⟨T, _, rfl, .inl (.inl eT), rfl, _, _, rfl, _, _, rfl, rfl, ?_⟩
        refine ⟨_, rfl, _, rfl, z, b, A1.map V.int, B1.map V.int, rfl, .inl (.inl eA), eb.sq, fun R hR => lc_it (walk_zm (n := n) (by rw [List.length_map]; omega) (by rw [List.length_map]; omega))
          (fun i H' => Same G' H' ∧ H' R = some (.lst (((lin (co ws (j : Nat)) A1 B1).take i).map V.int))) ⟨same_new hR, upd_same⟩ (fun i H' _ s => ⟨.inl (.inl (s.1 _ _ eA)), (eb.same s.1).sq⟩) ?_ ?_⟩
        · rintro i x J J' hi ⟨sJ, eJ⟩ ⟨T2, u1, u2, rfl, hT2, eH2, hu1, hu2⟩
          obtain ⟨v1, hv1, rfl⟩ := giV hu1
          obtain ⟨v2, hv2, rfl⟩ := giV hu2
          have sT2 := same_new (o := .tup [V.int v1, V.int v2]) hT2
          have eT2 : (upd J T2 (.tup [V.int v1, V.int v2])) T2 = some (.tup [V.int v1, V.int v2]) := upd_same
          rw [← eH2] at sT2 eT2
          clear eH2
          refine ⟨T2, _, rfl, .inl (.inl eT2), rfl, _, _, rfl, _, _, rfl, rfl, rfl, ?_⟩
          refine ⟨_, rfl, _, rfl, _, rfl, _, _, rfl, rfl, L2.wide_mul (a := 137) (b := 5000) (bw.co _) (bB v2 (List.mem_of_getElem? hv2)) (by decide) (by decide) (by decide), _, _, rfl, rfl, _, sT2 _ _ eJ, ?_, same_own (sJ.trans sT2) hR, ?_⟩
          · rw [List.length_map, List.length_take]
            exact small1000 (by omega)
          · have hl : (lin (co ws (j : Nat)) A1 B1)[i]? = some (v1 + co ws (j : Nat) * v2) := by
              unfold lin
              rw [List.getElem?_zipWith, hv1, hv2]
            rw [upd_same, List.take_succ, hl, List.map_append]
            rfl
        · rintro J ⟨sJ, eJ⟩
          rw [List.take_of_length_le (by rw [lin_len (by omega), lA1]; exact Nat.le_refl _), step] at eJ
          exact ⟨_, _, _, R, rfl, sA.trans sJ, eJ⟩
      · rintro σ G ⟨y6, y11, y12, z, rfl, sG, eG⟩
        rw [fst_all lw] at eG
        exact ⟨_, _, _, _, rfl, sG, eG⟩
    rintro σ H12 ⟨y6, y11, y12, z2, rfl, s12, e12⟩
    have T12 := T11.same s12
    have lv := silV_len n ss
    have bv := silV_bd hs n1 n2
    refine ⟨_, rfl, _, rfl, n, p, ss, rfl, n1, n2, hs, .inl (.inl T12.so), fun p13 H13 s13 e13 => ?_⟩
    refine ⟨_, rfl, .inl ⟨z2, _, rfl, .inl (.inl (s13 _ _ e12)), fun t ht => ?_⟩⟩
    have s14 := same_new (o := .tup ((car (facL ts) m ws).map V.int)) ht
    have e14 : TAt (upd H13 t (.tup ((car (facL ts) m ws).map V.int))) t (car (facL ts) m ws) := upd_same
    generalize upd H13 t (.tup ((car (facL ts) m ws).map V.int)) = H14 at s14 e14 ⊢
    have T14 := T12.same (s13.trans s14)
    refine ⟨_, rfl, _, _, dpT e14, dpT (e11.same ((s12.trans s13).trans s14)), shT _, shT _, ?_⟩
    rw [eqD_self]
    refine ⟨_, rfl, iteT ?_⟩
    have e13b := e13.same s14
    refine ⟨_, rfl, _, rfl, _, rfl, _, rfl, p13, D, p, _, n, 118, kv, ss, rfl, e13b, T14.cy, hkv, .inl (.inl T14.so), hs, lv, n1, n2, bv, by decide, fun e he => (silV_all hs n1 n2 (sub_mem hs he).2.2).mpr he, fun G15 s15 => ⟨_, rfl, iteT ?_⟩⟩
    have T15 := T14.same s15
    refine ⟨_, rfl, _, rfl, p13, D, _, n, 118, kv, rfl, e13b.same s15, T15.cy, hkv, lv, n1, n2, bv, by decide, fun p6 G6 s6 e6 => ?_⟩
    rw [silV_told hs n1 n2] at e6
    refine ⟨_, rfl, _, _, nV_data (.inl (.inl e6)), nV_data (.inl (.inl (s6 _ _ T15.so))), shT _, shT _, ?_⟩
    rw [eqT_self]
    have sE := ((((s12.trans s13).trans s14).trans s15).trans s6)
    exact q _ ((F11.same sE).mono (by omega)) (k3.trans sE.kp)
end
end K8

set_option Elab.async false
set_option linter.all false
set_option maxRecDepth 100000
set_option maxHeartbeats 4000000
/-! isinstance of a caught error that has fields. -/
namespace Gd
open PySem PySem.Spec PyProof.Rows L2
/-- isinstance(e, c), e the caught error: its class C, its fields at d -/
def rIsX (K : PySem.W.Frag) (C a : Addr) (cls : Value) (d : Option Addr) : List V → Hp → VK → Prop := fun xs H Q => cls = .ref C ∧ (∃ (dd : Addr) (fs : List (Str × V)), d = some dd ∧ H dd = some (.xd fs)) ∧
  ∃ (c : Addr) (b : Bool), xs = [.ref a, .ref c] ∧ PySem.W.kitOne K (.ref C) (.ref c) = some b ∧ Q (.bl b) H
theorem call_isX {X : Cx} {a C : Addr} {oe : Obj} {cls : Value} {d : Option Addr} {pn : List (Addr × Obj)} (T : ExcC X.K C) (hz : Zc cls d oe) (hf : ∃ vs, oe.data = .fields vs) : CallR (X.suite a ((a, oe) :: pn)) (.builtin "isinstance") (rIsX X.K C a cls d) := by
  intro pins s σ H xs us Q I r h
  obtain ⟨ec, ⟨dd, fs, ed, eH⟩, c, b, rfl, e, q⟩ := h
  subst ec
  subst ed
  obtain ⟨u1, u2, rfl, r1, r2⟩ := vals2 r
  cases r1
  cases r2
  obtain ⟨hget, _⟩ := I.pin (a, oe) (List.mem_append_left _ List.mem_cons_self)
  obtain ⟨vs, hv⟩ := hf
  have ok : ObjOk X.prog X.w H s.heap dd (.xd fs) := I.hok dd _ eH
  obtain ⟨mA, hns, _⟩ := ok
  obtain ⟨od, ho, _⟩ := lookIn_ns hns
  have J : PySem.W.InstAt s.heap a oe C (some od) := ⟨hget, hz.1, by unfold PySem.W.notCls; rw [hv] <;> rfl, by rw [hz.2]; exact ho⟩
  obtain ⟨cd, hcd, _⟩ := PySem.W.any_some T.hd
  exact PySem.W.kia_one (PySem.W.kitx_exc (by rw [hcd]; rfl) T.hg T.hk T.hs T.ha T.hn T.ht T.hm) I.kIn J e (fun z => nomatch z) fun tk => ⟨.bl b, H, I.kept (t' := tk) fun _ _ z => z, rfl, q⟩
end Gd

set_option Elab.async false
set_option linter.all false
set_option maxRecDepth 100000
set_option maxHeartbeats 4000000
set_option exponentiation.threshold 20000
namespace K8
open PySem PySem.Spec PyProof.Rows L2 Gd Pv RZ Po Nm
section
variable {P : Program} {w : World} {K : PySem.W.Frag} {mg : Str → Option Value} {base : Heap}
open LamX
/-- what _law_heard asks of a lambda that raises NotUsable -/
def THeard (C : Addr) : (XK → Hp → VK → Prop) → Hp → VK → Prop := fun tl H Q => ∀ Qv : VK, tl (fun cls d H' => cls = .ref C ∧ ∃ (dd : Addr) (word : Str), d = some dd ∧ XdAt H' dd "word" "at" (.str word) (.int (-1)) ∧ word.length ≤ 100 ∧ ∀ (t : Addr) (H2 : Hp), Same H' H2 → H2 t = some (.tup [.str "unfit", .str word, .int (-1)]) → Q (.ref t) H2) H Qv
/-- what the text says of the classes that _law_heard names -/
structure HeC (K : PySem.W.Frag) (mg : Str → Option Value) (C BE IP PE VE : Addr) : Prop where
  mC : mg "NotUsable" = some (.ref C)
  mB : mg "BeatError" = some (.ref BE)
  mI : mg "InvalidPaper" = some (.ref IP)
  mP : mg "PaperError" = some (.ref PE)
  mV : mg "VoiceError" = some (.ref VE)
  xB : PySem.W.exmOne K (.ref C) (.ref BE) = some true
  kC : PySem.W.kitOne K (.ref C) (.ref C) = some true
  kI : PySem.W.kitOne K (.ref C) (.ref IP) = some false
  kP : PySem.W.kitOne K (.ref C) (.ref PE) = some false
  kV : PySem.W.kitOne K (.ref C) (.ref VE) = some true
  ec : ExcC K C
  xf : XfC K C
  n1 : PySem.W.findIn K (.ref C) "word" = some none
  n2 : PySem.W.findIn K (.ref C) "at" = some none
theorem takesLen {X : Cx} {W : WX} (t : Takes X W) : Takes X (fun cls d σ H => σ.length = X.N.length → W cls d σ H) := fun u s2 ⟨a, B, sI, ps, σ, H, cls, d, e, I, nb, up, sky, na, os, ag, q⟩ =>
  t u s2 ⟨a, B, sI, ps, σ, H, cls, d, e, I, nb, up, sky, na, os, ag, q I.len⟩
theorem len2 {σ : L2.St} (h : σ.length = 2) : ∃ x y, σ = [x, y] := by
  match σ, h with
  | [x, y], _ => exact ⟨x, y, rfl⟩
theorem heard_gives {X : Cx} {g C BE IP PE VE : Addr} {cdg : Value} {q : Str} (T : HeC X.K X.mg C BE IP PE VE) (z_isinstance : X.mg "isinstance" = none) : GivesTo X N__law_heard "_law_heard" (defScope s__law_heard) g cdg (defBody s__law_heard) "_law_call" q (THeard C) := by
  intro f c' s H Q tl act hc h
  have nd := sc__law_heard.nd
  refine ⟨_, pss_one (ps_try_as (X := (cxOf C8.CX0 X.prog X.w X.K X.mg X.base N__law_heard "_law_heard" (defScope s__law_heard) g cdg X.A X.stack s H C8.E0).nox) (i := 1) (n := "e") (c := .ref BE)
      (tb := fun W D σ H => ∃ Ech : XK, (∀ cls d σ' H', Ech cls d H' → σ'.length = 2 → W cls d σ' H') ∧ σ[0]? = some (some (.ref f)) ∧ H c' = some (CodeO c' q) ∧ ∀ Qv : VK, tl Ech H Qv)
      rfl rfl nd rfl rfl ⟨by rfl, by decide, .inl T.mB⟩ LamX.takes0 (fun W pn xe tk _ => ?_) (fun a oe cls d pn hz hf => (pss_cons (ps_if (PW.pt (pw_and (pt_val (pe_callB (r := rIsX X.K C a cls d) (call_isX T.ec hz hf) (by rfl) z_isinstance (by decide +kernel) (pa_cons (pv 1) (pa_cons (pe_glob (v := .ref IP) (by rfl) T.mI rfl) pa_nil)))) (pw_and (pt_val (pe_callB (r := rIsX X.K C a cls d) (call_isX T.ec hz hf) (by rfl) z_isinstance (by decide +kernel) (pa_cons (pv 1) (pa_cons (pe_glob (v := .ref PE) (by rfl) T.mP rfl) pa_nil)))) (pw_and1 (pt_not (pt_val (pe_callB (r := rIsX X.K C a cls d) (call_isX T.ec hz hf) (by rfl) z_isinstance (by decide +kernel) (pa_cons (pv 1) (pa_cons (pe_glob (v := .ref VE) (by rfl) T.mV rfl) pa_nil)))))))))
      (pss_one ps_never) pss_nil)
      (pss_cons (ps_if (PW.pt (pw_and (pt_val (pe_callB (r := rIsX X.K C a cls d) (call_isX T.ec hz hf) (by rfl) z_isinstance (by decide +kernel) (pa_cons (pv 1) (pa_cons (pe_glob (v := .ref C) (by rfl) T.mC rfl) pa_nil)))) (pw_and (pt_val (pe_callB (r := rIsX X.K C a cls d) (call_isX T.ec hz hf) (by rfl) z_isinstance (by decide +kernel) (pa_cons (pv 1) (pa_cons (pe_glob (v := .ref VE) (by rfl) T.mV rfl) pa_nil)))) (pw_and1 (pt_not (pt_val (pe_callB (r := rIsX X.K C a cls d) (call_isX T.ec hz hf) (by rfl) z_isinstance (by decide +kernel) (pa_cons (pv 1) (pa_cons (pe_glob (v := .ref PE) (by rfl) T.mP rfl) pa_nil)))))))))
      (pss_one (ps_ret (pe_tup (pa_cons pe_str (pa_cons (pe_xf T.xf T.n1 hz hf (pv 1)) (pa_cons (pe_xf T.xf T.n2 hz hf (pv 1)) pa_nil)))))) pss_nil)
      (pss_one ps_never))))), ?_⟩
  · refine ⟨fun pins s' σ H' D I h' => ?_⟩
    obtain ⟨Ech, hW, h1, h2, h3⟩ := h'
    exact (pss_one (ps_ret (pe_tup (pa_cons pe_str (pa_cons (act _ pn xe Ech _ _ (takesLen tk) hW) pa_nil))))).run pins s' σ H' D I ⟨h1, h2, h3 _⟩
  · refine ⟨_, fun cls d σ' H' hE hl => ?_, rfl, hc, h⟩
    obtain ⟨rfl, dd, word, rfl, ⟨fs, e1, e2, e3⟩, hw, k⟩ := hE
    obtain ⟨x, y, rfl⟩ := len2 hl
    refine ⟨true, T.xB, fun _ a ha => ?_, fun z => by cases z⟩
    have isx : ∃ (d1 : Addr) (fs1 : List (Str × V)), some dd = some d1 ∧ H' d1 = some (.xd fs1) := ⟨dd, fs, rfl, e1⟩
    refine ⟨_, rfl, rfl, isx, IP, false, rfl, T.kI, _, rfl, iteF ?_⟩
    refine ⟨_, rfl, rfl, isx, C, true, rfl, T.kC, _, rfl, iteT ?_⟩
    refine ⟨_, rfl, rfl, isx, VE, true, rfl, T.kV, _, rfl, iteT ?_⟩
    refine ⟨_, rfl, rfl, isx, PE, false, rfl, T.kP, _, rfl, ?_⟩
    refine iteT ?_
    refine ⟨_, rfl, rfl, rfl, dd, fs, _, rfl, e1, e2, _, rfl, rfl, rfl, dd, fs, _, rfl, e1, e3, (by show 3 ≤ sizeLine; decide), fun t ht => k t _ (same_new ht) upd_same⟩
end
end K8

set_option Elab.async false
set_option linter.all false
set_option maxRecDepth 100000
set_option maxHeartbeats 4000000
namespace Gd
open PySem PySem.Spec PyProof.Rows L2
/-- a def that makes lambdas: its code object is told -/
structure AtL (K : PySem.W.Frag) (mg : Str → Option Value) (x : String) (st : Stmt) (ps : List Str) (c : Addr) : Prop where
  ex : ∃ (f : Addr) (fd : FuncData) (oc : Value) (od : Option Addr) (kV doc pm : Value) (an : Option Addr) (ct : Value) (osl : Array (Option Value)), mg x = some (.ref f) ∧ fd = PySem.W.fnOf x x (defArgs st) (defBody st) (defScope st) .none kV doc pm an (.ref c) ct ∧
    K.lookup f = some ⟨oc, od, .func fd, osl⟩ ∧ PySem.W.codeIn K (.ref c) x = true ∧ PySem.W.keepIn K (.ref f) = true ∧ Binds K fd ps []
section
variable {P : Program} {w : World} {K : PySem.W.Frag} {mg : Str → Option Value} {base : Heap}
theorem okL {x : String} {st : Stmt} {N ps : List Str} {k : Nat} {sp : Sp} {c : Addr} (D : AtL K mg x st ps c) (S : FnScope N ps (defScope st)) (len : ∀ vs H Q E, sp vs H Q E → vs.length = ps.length)
    (body : ∀ (f : Addr) (A : Around) (outer : List Env) (s : Shared) (H : Hp) (vs : List V) (Q : VK) (E : XK), Room k (A.deeper (envOfC x (defScope st) s.heap.objs.size f (.ref c))) → sp vs H Q E →
      ∃ t, PSs (cxOf CX0 P w K mg base N x (defScope st) f (.ref c) A outer s H E).nox (defBody st) t ∧ t { nx := fun _ H' => Q .non H', rt := Q } (start N vs) H) : Cal P w K mg base (k + 1) x sp := by
  obtain ⟨f, fd, oc, od, kV, doc, pm, an, ct, osl, hm, rfl, lk, hcd, kp, hb⟩ := D.ex
  have G : FnOk P w K mg base CX0 (k + 1) f _ ps sp := fn_of lk hcd S len fun A outer s H vs Q E hr hsp => by
    obtain ⟨t, h, q⟩ := body f A outer s H vs Q E hr hsp
    exact ⟨t, h.nox, q⟩
  refine ⟨f, hm, kp, fun A outer s H us vs Q E hr e0 r h => ?_⟩
  have kin : K.In s.heap := e0.mod.kin.keeps fun b o e => (e0.bs b o e).1
  have hl : (us ++ ([] : List Value)).length = ps.length := by
    rw [List.append_nil, ← r.length]
    exact len _ _ _ _ h
  have bt := hb s us kin hl
  rw [List.append_nil] at bt
  exact G.run A outer s H _ us vs Q E hr e0 bt r h
end
end Gd
namespace K8
open PySem PySem.Spec PyProof.Rows L2 Gd Pv RZ Po Nm LamX
theorem pe_heard {X : Cx} {C BE IP PE VE c P : Addr} {k : Nat} {T : List (Addr × Str)} {params : Arguments} {body : Expr} {scope : Scope} {t : XK → TE} {p lpos pos : Pos} (D : At X.K X.mg "_law_heard" s__law_heard ["_law_call"]) (HC : HeC X.K X.mg C BE IP PE VE) (z_isinstance : X.mg "isinstance" = none)
    (TB : TabB X.base X.mg c P) (hcode : X.env.code = .ref c) (hmT : (P, X.env.qual ++ "<lambda>") ∈ T) (hu : ∀ p ∈ T, p.1 = P → p.2 = X.env.qual ++ "<lambda>") (hr : Room (k + 2) X.A) (hg : Gl X "_law_heard") (L : LamS X.env.scope scope) (hdef : defaultsOf params X.env = ([], []))
    (hbind : ∀ (q : Str) (cl : List (Str × Addr)) (pm cv ctv : Value), bindArgs (PySem.W.kla_fn "<lambda>" q params body scope cl pm cv ctv) ⟨[], []⟩ = pure [])
    (hbody : ∀ (A : Around) (outer : List Env) (s : Shared) (H : Hp) (E : XK) (f c' : Addr), Room k (A.deeper (lamEnv X scope s.heap.objs.size f c')) → L2.PE (lamCx X A outer s H E scope f c') body (t E)) :
    L2.PE X (.Call (.Name "_law_heard" p) [.Lambda params body scope lpos] [] pos) (tLam T (THeard C) t) := by
  obtain ⟨g, fd, hm, F, hb⟩ := D.ex
  obtain ⟨oc, od, kV, doc, pm, an, cdv, ct, osl, rfl, lk, hcd⟩ := F.ex
  exact pe_lamcall hg hm F.kp lk hcd hb sc__law_heard rfl (.inl rfl) (heard_gives HC z_isinstance) TB hcode hmT hu hr L hdef hbind hbody
end K8

set_option Elab.async false
set_option linter.all false
set_option maxRecDepth 100000
set_option maxHeartbeats 4000000
set_option exponentiation.threshold 20000
namespace K8
open PySem PySem.Spec PyProof.Rows L2 Gd Pv RZ Po Nm
section
variable {P : Program} {w : World} {K : PySem.W.Frag} {mg : Str → Option Value} {base : Heap}
open LamX
theorem ext_of {H H' : Hp} (s : Same H H') : ExtN H H' := fun b o h _ => s b o h
theorem _root_.LamX.ExtN.lst {H H' : Hp} {a : Addr} {xs : List V} (e : ExtN H H') (h : H a = some (.lst xs)) : H' a = some (.lst xs) := e _ _ h fun _ z => by cases z
theorem _root_.LamX.ExtN.tup {H H' : Hp} {a : Addr} {xs : List V} (e : ExtN H H') (h : H a = some (.tup xs)) : H' a = some (.tup xs) := e _ _ h fun _ z => by cases z
theorem _root_.LamX.ExtN.sqT {K : PySem.W.Frag} {H H' : Hp} {a : Addr} {xs : List V} (e : ExtN H H') (h : SqT K H a xs) : SqT K H' a xs := by
  rcases h with (h | ⟨o, h⟩) | h
  · exact .inl (.inl (e.tup h))
  · exact .inl (.inr ⟨o, e _ _ h fun _ z => by cases z⟩)
  · exact .inr h
theorem _root_.LamX.ExtN.sqL {K : PySem.W.Frag} {H H' : Hp} {a : Addr} {xs : List V} (e : ExtN H H') (h : SqL K H a xs) : SqL K H' a xs := by
  rcases h with (h | ⟨o, h⟩) | h
  · exact .inl (.inl (e.lst h))
  · exact .inl (.inr ⟨o, e _ _ h fun _ z => by cases z⟩)
  · exact .inr h
mutual
theorem dp_ext {K : PySem.W.Frag} {H H' : Hp} (s : ExtN H H') : ∀ {v : V} {d : PyData}, Dp K H v d → Dp K H' v d
  | _, _, .non => .non
  | _, _, .bl b => .bl b
  | _, _, .int i => .int i
  | _, _, .str x => .str x
  | _, _, .lst h t => .lst (s.sqL h) (dps_ext s t)
  | _, _, .tup h t => .tup (s.sqT h) (dps_ext s t)
theorem dps_ext {K : PySem.W.Frag} {H H' : Hp} (s : ExtN H H') : ∀ {vs : List V} {ds : List PyData}, DpAll K H vs ds → DpAll K H' vs ds
  | _, _, .nil => .nil
  | _, _, .cons h t => .cons (dp_ext s h) (dps_ext s t)
end
/-- what a heard error looks like -/
def unfit (word : Str) : HO := .tup [.str "unfit", .str word, .int (-1)]
def unfitD (word : Str) : PyData := .tuple [.str "unfit", .str word, .int (-1)]
theorem unfit_dp {K : PySem.W.Frag} {H : Hp} {a : Addr} {word : Str} (h : H a = some (unfit word)) : Dp K H (.ref a) (unfitD word) := .tup (.inl (.inl h)) (.cons (.str _) (.cons (.str _) (.cons (.int _) .nil)))
theorem rd_heard {T : List (Addr × Str)} {C : Addr} {word : Str} {sp : Sp} {ta : TA} {σ : L2.St} {H : Hp} {Q : VK} (tb : Tabs T H) (hw : word.length ≤ 100) (hsp : ∀ (H1 : Hp) (E : XK) (Qv : VK), ExtN H H1 → Nu C word H1 E → ta σ H1 fun vs H2 => sp vs H2 Qv E)
    (k : ∀ (t : Addr) (H2 : Hp), ExtN H H2 → Tabs T H2 → H2 t = some (unfit word) → Q (.ref t) H2) : tLam T (THeard C) (fun E => tCallS sp (WE fun cls d _ H => E cls d H) ta) σ H Q :=
  ⟨tb, fun H1 e1 t1 Qv => hsp H1 _ Qv e1 fun d H' s x => ⟨rfl, d, word, rfl, x, hw, fun t H2 s2 et => k t H2 (e1.trans (ext_of (s.trans s2))) (t1.ext (s.trans s2)) et⟩⟩
/-- the table of the lambdas that are made -/
def LT (P0 : Addr) : List (Addr × Str) := [(P0, (("_law_are_refused" : Str) ++ ".<locals>.") ++ "<lambda>")]
theorem lt_one {P0 : Addr} : ∀ p ∈ LT P0, p.1 = P0 → p.2 = (("_law_are_refused" : Str) ++ ".<locals>.") ++ "<lambda>" := fun p hp _ => by rw [List.mem_singleton.mp hp]
def badB (n : Nat) : Bool := dsetD n (.tuple [.int ((n : Int) + 1)]) == false && (n ≤ 1 || dsetD n (.tuple [.int (n : Nat), .int 1]) == false) && (n ≤ 2 || (dsetD n (.tuple [.int ((n : Int) - 1)]) == false && dsetD n (.tuple [.int 1, .int ((n : Int) - 1)]) == false))
theorem bad_all : ((List.range 36).all fun i => badB (i + 1)) = true := by decide +kernel
theorem bad_ok {n : Nat} (h1 : 1 ≤ n) (h2 : n ≤ 36) : dsetD n (.tuple [.int ((n : Int) + 1)]) = false ∧ (1 < n → dsetD n (.tuple [.int (n : Nat), .int 1]) = false) ∧ (2 < n → dsetD n (.tuple [.int ((n : Int) - 1)]) = false ∧ dsetD n (.tuple [.int 1, .int ((n : Int) - 1)]) = false) := by
  have h := List.all_eq_true.mp bad_all (n - 1) (List.mem_range.mpr (by omega))
  rw [Nat.sub_add_cancel h1] at h
  simp only [badB, Bool.and_eq_true, Bool.or_eq_true, beq_iff_eq, decide_eq_true_eq] at h
  obtain ⟨⟨a, b⟩, c⟩ := h
  exact ⟨a, fun z => b.resolve_left (by omega), fun z => c.resolve_left (by omega)⟩
/-- data without lists but empty ones, of one depth -/
def flD (d : PyData) : Prop := isSc d = true ∨ d = .list [] ∨ ∃ ds, d = .tuple ds ∧ ∀ e ∈ ds, isSc e = true
theorem dp_sc {K : PySem.W.Frag} {H H' : Hp} {v : V} {d : PyData} (h : Dp K H v d) (z : isSc d = true) : Dp K H' v d := by
  cases h with
  | non => exact .non
  | bl b => exact .bl b
  | int i => exact .int i
  | str x => exact .str x
  | lst _ _ => cases z
  | tup _ _ => cases z
theorem dps_sc {K : PySem.W.Frag} {H H' : Hp} : ∀ {vs : List V} {ds : List PyData}, DpAll K H vs ds → (∀ e ∈ ds, isSc e = true) → DpAll K H' vs ds
  | _, _, .nil, _ => .nil
  | _, _, .cons h t, z => .cons (dp_sc h (z _ (List.mem_cons_self ..))) (dps_sc t fun e he => z e (List.mem_cons_of_mem _ he))
theorem sqT_upd {K : PySem.W.Frag} {H : Hp} {l a : Addr} {xs ys : List V} {o : HO} (hl : H l = some (.lst xs)) (h : SqT K H a ys) : SqT K (upd H l o) a ys := by
  rcases h with (h | ⟨o2, h⟩) | h
  · exact .inl (.inl (by rw [upd_ne (ne_of h hl (by intro z; cases z))]; exact h))
  · exact .inl (.inr ⟨o2, by rw [upd_ne (ne_of h hl (by intro z; cases z))]; exact h⟩)
  · exact .inr h
theorem dp_upd {K : PySem.W.Frag} {H : Hp} {l : Addr} {xs : List V} {o : HO} {v : V} {d : PyData} (hl : H l = some (.lst xs)) (hx : xs ≠ []) (h : Dp K H v d) (z : flD d) : Dp K (upd H l o) v d := by
  rcases z with z | rfl | ⟨ds, rfl, z⟩
  · exact dp_sc h z
  · cases h with
    | lst hq t =>
      cases t
      refine .lst ?_ .nil
      rcases hq with (e | ⟨o2, e⟩) | e
      · refine .inl (.inl ?_)
        rw [upd_ne fun y => by rw [y, hl] at e; injection e with e; injection e with e; exact hx e]
        exact e
      · exact .inl (.inr ⟨o2, by rw [upd_ne (ne_of e hl (by intro z; cases z))]; exact e⟩)
      · exact .inr e
  · cases h with
    | tup hq t => exact .tup (sqT_upd hl hq) (dps_sc t z)
def Q4 (K : PySem.W.Frag) (n : Nat) (H : Hp) (x : V) : Prop := ∃ d, Dp K H x d ∧ flD d ∧ (∀ ds, d = .tuple ds → ds.length ≤ 900) ∧ dsetD n d = false
def Q5 (K : PySem.W.Frag) (m : Nat) (H : Hp) (x : V) : Prop := ∃ d, Dp K H x d ∧ flD d ∧ (∀ ds, d = .tuple ds → ds.length ≤ 900) ∧ ∀ ns, intsD d = some ns → ns.length ≠ m
theorem Q4.ext {K : PySem.W.Frag} {n : Nat} {H H' : Hp} {x : V} (e : ExtN H H') (h : Q4 K n H x) : Q4 K n H' x := let ⟨d, a, b⟩ := h; ⟨d, dp_ext e a, b⟩
theorem Q5.ext {K : PySem.W.Frag} {n : Nat} {H H' : Hp} {x : V} (e : ExtN H H') (h : Q5 K n H x) : Q5 K n H' x := let ⟨d, a, b⟩ := h; ⟨d, dp_ext e a, b⟩
theorem Q4.upd {K : PySem.W.Frag} {n : Nat} {H : Hp} {l : Addr} {xs : List V} {o : HO} {x : V} (hl : H l = some (.lst xs)) (hx : xs ≠ []) (h : Q4 K n H x) : Q4 K n (L2.upd H l o) x := let ⟨d, a, b, c⟩ := h; ⟨d, dp_upd hl hx a b, b, c⟩
theorem Q5.upd {K : PySem.W.Frag} {n : Nat} {H : Hp} {l : Addr} {xs : List V} {o : HO} {x : V} (hl : H l = some (.lst xs)) (hx : xs ≠ []) (h : Q5 K n H x) : Q5 K n (L2.upd H l o) x := let ⟨d, a, b, c⟩ := h; ⟨d, dp_upd hl hx a b, b, c⟩
/-- the errors heard so far, in a list of our own -/
structure CgAt (T : List (Addr × Str)) (G H : Hp) (l : Addr) (k : Nat) (word : Str) (ts : List Addr) : Prop where
  at_ : H l = some (.lst (ts.map V.ref))
  len : ts.length = k
  all : ∀ t ∈ ts, H t = some (unfit word)
  ext : ExtN G H
  own : ∀ b o, G b = some o → (∀ ps, o ≠ .tbl ps) → b ≠ l
  tab : Tabs T H
theorem tabs_upd {T : List (Addr × Str)} {H : Hp} {l : Addr} {xs : List V} {o : HO} (h : H l = some (.lst xs) ∨ H l = none) (t : Tabs T H) : Tabs T (upd H l o) := fun p hp => by
  obtain ⟨ps, h1, h2, h3⟩ := t p hp
  have ne : ∀ {b : Addr} {u : HO}, H b = some u → (∀ xs, u ≠ .lst xs) → b ≠ l := fun {b u} e q z => by
    rcases h with h | h
    · rw [z, h] at e
      exact q _ (Option.some.inj e).symm
    · rw [z, h] at e
      cases e
  refine ⟨ps, by rw [upd_ne (ne h1 fun _ z => by cases z)]; exact h1, h2, fun pos cv hc => ?_⟩
  obtain ⟨c, e1, e2⟩ := h3 pos cv hc
  exact ⟨c, e1, by rw [upd_ne (ne e2 fun _ z => by unfold CodeO at z; cases z)]; exact e2⟩
theorem CgAt.init {T : List (Addr × Str)} {G H : Hp} {l t : Addr} {word : Str} (e : ExtN G H) (tb : Tabs T H) (ht : H t = some (unfit word)) (hl : H l = none) : CgAt T G (upd H l (.lst [V.ref t])) l 1 word [t] :=
  ⟨upd_same, rfl, fun u hu => by rw [List.mem_singleton.mp hu, upd_ne (ne_of_none ht hl)]; exact ht, fun b o h n => by rw [upd_ne (ne_of_none (e b o h n) hl)]; exact e b o h n, fun b o h n => ne_of_none (e b o h n) hl, tabs_upd (xs := []) (.inr hl) tb⟩
theorem CgAt.app {T : List (Addr × Str)} {G H H2 : Hp} {l t : Addr} {k : Nat} {word : Str} {ts : List Addr} (c : CgAt T G H l k word ts) (e : ExtN H H2) (tb : Tabs T H2) (ht : H2 t = some (unfit word)) : CgAt T G (upd H2 l (.lst (ts.map V.ref ++ [V.ref t]))) l (k + 1) word (ts ++ [t]) := by
  have hl := e.lst c.at_
  have ne : ∀ {b : Addr}, H2 b = some (unfit word) → b ≠ l := fun {b} h z => by
    rw [z, hl] at h
    unfold unfit at h
    cases h
  refine ⟨by rw [upd_same, List.map_append]; rfl, by rw [List.length_append, c.len]; rfl, fun u hu => ?_, fun b o h n => ?_, c.own, tabs_upd (.inl hl) tb⟩
  · have hu2 : H2 u = some (unfit word) := by
      rcases List.mem_append.mp hu with z | z
      · exact e.tup (c.all u z)
      · rw [List.mem_singleton.mp z]
        exact ht
    rw [upd_ne (ne hu2)]
    exact hu2
  · rw [upd_ne (c.own b o h n)]
    exact e b o (c.ext b o h n) n
theorem unfit_all {K : PySem.W.Frag} {H : Hp} {word : Str} : ∀ {ts : List Addr}, (∀ t ∈ ts, H t = some (unfit word)) → DpAll K H (ts.map V.ref) (List.replicate ts.length (unfitD word))
  | [], _ => .nil
  | t :: ts, h => .cons (unfit_dp (h t (List.mem_cons_self ..))) (unfit_all fun u hu => h u (List.mem_cons_of_mem _ hu))
theorem rep_dp {K : PySem.W.Frag} {H : Hp} {v : V} {d : PyData} (h : Dp K H v d) : ∀ m, DpAll K H (List.replicate m [v]).flatten (List.replicate m d)
  | 0 => .nil
  | m + 1 => .cons h (rep_dp h m)
theorem rep_no {d : PyData} {m : Nat} {ns : List Int} (hd : ∀ i, d ≠ .int i) (hm : 1 ≤ m) (h : intsD (.tuple (List.replicate m d)) = some ns) : False := by
  have e := (intsD_all _).2 ns h
  have hx : d ∈ List.replicate m d := List.mem_replicate.mpr ⟨by omega, rfl⟩
  rw [e] at hx
  obtain ⟨i, _, hi⟩ := List.mem_map.mp hx
  exact hd i hi.symm
theorem unfit_sm (k : Nat) (word : Str) : SmD (k + 1) (unfitD word) :=   .inr ⟨_, .inr rfl, (by show 3 ≤ 900; decide), fun e he => by
  have h : isSc e = true := by
    simp only [List.mem_cons, List.not_mem_nil, or_false] at he
    rcases he with rfl | rfl | rfl <;> rfl
  cases k with
  | zero => exact h
  | succ k => exact .inl h⟩
theorem unfits_sm (m : Nat) (hm : m ≤ 900) (word : Str) : SmD 2 (.list (List.replicate m (unfitD word))) := .inr ⟨_, .inl rfl, by rw [List.length_replicate]; exact hm, fun e he => by
  rw [(List.mem_replicate.mp he).2]
  exact unfit_sm 0 word⟩
def spRefused (K : PySem.W.Frag) (P0 : Addr) : Sp := fun vs H Q _ => ∃ (n : Nat) (a : Addr) (ss : List Nat), vs = [.int (n : Nat), .ref a, .int ((n - dgP ss : Nat) : Int)] ∧ 1 ≤ n ∧ n ≤ 36 ∧ SubL n ss ∧ SqT K H a (nV ss) ∧ Tabs (LT P0) H ∧ ∀ H', Q (.bl true) H'
theorem c__law_are_refused {C BE IP PE VE c P0 : Addr} (D : AtL K mg "_law_are_refused" s__law_are_refused ["_law_size_here", "_law_some_here", "_law_rank"] c) (D_h : At K mg "_law_heard" s__law_heard ["_law_call"]) (HC : HeC K mg C BE IP PE VE) (TB : TabB base mg c P0)
    (c_silent_rankX : CalX P w K mg base 6 "silent_rank" (spNeedDX C K)) (c_silent_basisX : CalX P w K mg base 7 "silent_basis" (spNeedDX C K)) (c_silent_voiceX : CalX P w K mg base 6 "silent_voice" (spNeedDX C K)) (c_silent_fromX : CalX P w K mg base 7 "silent_from" (spFromX C K))
    (c__law_same : Cal P w K mg base 3 "_law_same" (spSameR K 2)) (z_isinstance : mg "isinstance" = none) : Cal P w K mg base 10 "_law_are_refused" (spRefused K P0) := by
  refine okL D sc__law_are_refused (fun vs H Q E h => ?_) (fun f A outer s H vs Q E hr h => ?_)
  · obtain ⟨n, a, ss, rfl, _⟩ := h
    rfl
  · obtain ⟨n, a, ss, rfl, n1, n2, hs, ha, tb, q⟩ := h
    have nd := sc__law_are_refused.nd
    have hu64 := hr.units
    refine ⟨_, (pss_cons (ps_set (i := 3) nd rfl (.inl rfl) (pe_lst (pa_cons pe_non (pa_cons pe_int (pa_cons (pe_un un_neg pe_int) (pa_cons pe_bl (pa_cons pe_str (pa_cons (pe_tup (pa_cons pe_int pa_nil)) pa_nil))))))))
 (pss_cons (ps_set (i := 4) nd rfl (.inl rfl) (pe_lst (pa_cons pe_non (pa_cons (pe_lst pa_nil) (pa_cons pe_int (pa_cons (pe_tup (pa_cons pe_int pa_nil)) (pa_cons (pe_tup (pa_cons (pe_op op_add (pv 0) pe_int) pa_nil)) (pa_cons (pe_tup (pa_cons pe_int (pa_cons pe_int pa_nil))) (pa_cons (pe_tup (pa_cons pe_bl pa_nil)) (pa_cons (pe_tup (pa_cons pe_str pa_nil)) pa_nil))))))))))
 (C8.pss_cut (ps_set (i := 5) nd rfl (.inl rfl) (pe_lst (pa_cons pe_non (pa_cons (pe_lst pa_nil) (pa_cons (pe_op op_repN (pe_tup (pa_cons pe_int pa_nil)) (pe_op op_add (pv 2) pe_int)) (pa_cons (pe_ifExp (pt_cmpR op_gt (pv 2) pe_int (nomark _)) (pe_op op_repN (pe_tup (pa_cons pe_bl pa_nil)) (pv 2)) (pe_tup (pa_cons pe_int (pa_cons pe_int pa_nil)))) (pa_cons pe_int (pa_cons (pe_op op_repN (pe_tup (pa_cons pe_str pa_nil)) (pe_op op_add (pv 2) pe_int)) pa_nil))))))))
 (C8.pss_cut (ps_for PassesOwn.never rfl (pi_list (pv 3)) (pg_name (i := 6) nd rfl (.inr rfl))
 (pss_cons (ps_set (i := 7) nd rfl (.inl rfl) (pe_lst (pa_cons (pe_heard (k := 7) (T := LT P0) (t := fun E => tCallS (spNeedDX C K) (WE fun cls d _ H => E cls d H) (tCons (tVar 6) (tCons (tC .non) tNil))) D_h HC z_isinstance TB rfl List.mem_cons_self lt_one (hr.mono (by decide)) (by rfl) (lamS_by (sc := defScope s__law_are_refused) (by decide +kernel)) rfl (fun _ _ _ _ _ => rfl) (fun A outer s H E f c1 hr2 => (pe_kX c_silent_rankX (takes_of rfl rfl rfl rfl) hr2 (by decide) (by rfl) (pa_cons (pv 6) (pa_cons pe_non pa_nil))))) pa_nil)))
 (pss_cons (ps_expr (pe_bm PySem.F.plainAttrs_list PySem.F.slot_list_append PySem.F.type_list_append mt_append (pv 7) (pa_cons (pe_heard (k := 7) (T := LT P0) (t := fun E => tCallS (spNeedDX C K) (WE fun cls d _ H => E cls d H) (tCons (tVar 6) (tCons (tC .non) tNil))) D_h HC z_isinstance TB rfl List.mem_cons_self lt_one (hr.mono (by decide)) (by rfl) (lamS_by (sc := defScope s__law_are_refused) (by decide +kernel)) rfl (fun _ _ _ _ _ => rfl) (fun A outer s H E f c1 hr2 => (pe_kX c_silent_basisX (takes_of rfl rfl rfl rfl) hr2 (by decide) (by rfl) (pa_cons (pv 6) (pa_cons pe_non pa_nil))))) pa_nil)))
 (pss_cons (ps_expr (pe_bm PySem.F.plainAttrs_list PySem.F.slot_list_append PySem.F.type_list_append mt_append (pv 7) (pa_cons (pe_heard (k := 7) (T := LT P0) (t := fun E => tCallS (spNeedDX C K) (WE fun cls d _ H => E cls d H) (tCons (tVar 6) (tCons (tC .non) tNil))) D_h HC z_isinstance TB rfl List.mem_cons_self lt_one (hr.mono (by decide)) (by rfl) (lamS_by (sc := defScope s__law_are_refused) (by decide +kernel)) rfl (fun _ _ _ _ _ => rfl) (fun A outer s H E f c1 hr2 => (pe_kX c_silent_voiceX (takes_of rfl rfl rfl rfl) hr2 (by decide) (by rfl) (pa_cons (pv 6) (pa_cons pe_non pa_nil))))) pa_nil)))
 (pss_cons (ps_expr (pe_bm PySem.F.plainAttrs_list PySem.F.slot_list_append PySem.F.type_list_append mt_append (pv 7) (pa_cons (pe_heard (k := 7) (T := LT P0) (t := fun E => tCallS (spFromX C K) (WE fun cls d _ H => E cls d H) (tCons (tVar 6) (tCons (tC .non) (tCons (tC .non) tNil)))) D_h HC z_isinstance TB rfl List.mem_cons_self lt_one (hr.mono (by decide)) (by rfl) (lamS_by (sc := defScope s__law_are_refused) (by decide +kernel)) rfl (fun _ _ _ _ _ => rfl) (fun A outer s H E f c1 hr2 => (pe_kX c_silent_fromX (takes_of rfl rfl rfl rfl) hr2 (by decide) (by rfl) (pa_cons (pv 6) (pa_cons pe_non (pa_cons pe_non pa_nil)))))) pa_nil)))
 (pss_one (ps_if (pt_not (pt_val (pe_k c__law_same hr (by decide) (by rfl) (pa_cons (pe_op op_rep (pe_lst (pa_cons (pe_tup (pa_cons pe_str (pa_cons pe_str (pa_cons (pe_un un_neg pe_int) pa_nil)))) pa_nil)) pe_int) (pa_cons (pv 7) pa_nil)))))
 (pss_one (ps_ret pe_bl))
 pss_nil)))))))
 (C8.pss_cut (ps_if (pt_cmpR op_gt (pv 0) pe_int (nomark _))
 (pss_one (ps_expr (pe_bm PySem.F.plainAttrs_list PySem.F.slot_list_append PySem.F.type_list_append mt_append (pv 4) (pa_cons (pe_tup (pa_cons (pv 0) (pa_cons pe_int pa_nil))) pa_nil))))
 pss_nil)
 (C8.pss_cut (ps_if (pt_cmpR op_gt (pv 0) pe_int (nomark _))
 (pss_one (ps_set (i := 4) nd rfl (.inl rfl) (pe_op op_cat (pv 4) (pe_lst (pa_cons (pe_tup (pa_cons (pe_op op_sub (pv 0) pe_int) pa_nil)) (pa_cons (pe_tup (pa_cons pe_int (pa_cons (pe_op op_sub (pv 0) pe_int) pa_nil))) pa_nil))))))
 pss_nil)
 (C8.pss_cut (ps_for PassesOwn.never rfl (pi_list (pv 4)) (pg_name (i := 6) nd rfl (.inr rfl))
 (pss_cons (ps_set (i := 7) nd rfl (.inl rfl) (pe_lst (pa_cons (pe_heard (k := 7) (T := LT P0) (t := fun E => tCallS (spNeedDX C K) (WE fun cls d _ H => E cls d H) (tCons (tVar 0) (tCons (tVar 6) tNil))) D_h HC z_isinstance TB rfl List.mem_cons_self lt_one (hr.mono (by decide)) (by rfl) (lamS_by (sc := defScope s__law_are_refused) (by decide +kernel)) rfl (fun _ _ _ _ _ => rfl) (fun A outer s H E f c1 hr2 => (pe_kX c_silent_rankX (takes_of rfl rfl rfl rfl) hr2 (by decide) (by rfl) (pa_cons (pv 0) (pa_cons (pv 6) pa_nil))))) pa_nil)))
 (pss_cons (ps_expr (pe_bm PySem.F.plainAttrs_list PySem.F.slot_list_append PySem.F.type_list_append mt_append (pv 7) (pa_cons (pe_heard (k := 7) (T := LT P0) (t := fun E => tCallS (spNeedDX C K) (WE fun cls d _ H => E cls d H) (tCons (tVar 0) (tCons (tVar 6) tNil))) D_h HC z_isinstance TB rfl List.mem_cons_self lt_one (hr.mono (by decide)) (by rfl) (lamS_by (sc := defScope s__law_are_refused) (by decide +kernel)) rfl (fun _ _ _ _ _ => rfl) (fun A outer s H E f c1 hr2 => (pe_kX c_silent_basisX (takes_of rfl rfl rfl rfl) hr2 (by decide) (by rfl) (pa_cons (pv 0) (pa_cons (pv 6) pa_nil))))) pa_nil)))
 (pss_cons (ps_expr (pe_bm PySem.F.plainAttrs_list PySem.F.slot_list_append PySem.F.type_list_append mt_append (pv 7) (pa_cons (pe_heard (k := 7) (T := LT P0) (t := fun E => tCallS (spNeedDX C K) (WE fun cls d _ H => E cls d H) (tCons (tVar 0) (tCons (tVar 6) tNil))) D_h HC z_isinstance TB rfl List.mem_cons_self lt_one (hr.mono (by decide)) (by rfl) (lamS_by (sc := defScope s__law_are_refused) (by decide +kernel)) rfl (fun _ _ _ _ _ => rfl) (fun A outer s H E f c1 hr2 => (pe_kX c_silent_voiceX (takes_of rfl rfl rfl rfl) hr2 (by decide) (by rfl) (pa_cons (pv 0) (pa_cons (pv 6) pa_nil))))) pa_nil)))
 (pss_cons (ps_expr (pe_bm PySem.F.plainAttrs_list PySem.F.slot_list_append PySem.F.type_list_append mt_append (pv 7) (pa_cons (pe_heard (k := 7) (T := LT P0) (t := fun E => tCallS (spFromX C K) (WE fun cls d _ H => E cls d H) (tCons (tVar 0) (tCons (tVar 6) (tCons (tC .non) tNil)))) D_h HC z_isinstance TB rfl List.mem_cons_self lt_one (hr.mono (by decide)) (by rfl) (lamS_by (sc := defScope s__law_are_refused) (by decide +kernel)) rfl (fun _ _ _ _ _ => rfl) (fun A outer s H E f c1 hr2 => (pe_kX c_silent_fromX (takes_of rfl rfl rfl rfl) hr2 (by decide) (by rfl) (pa_cons (pv 0) (pa_cons (pv 6) (pa_cons pe_non pa_nil)))))) pa_nil)))
 (pss_one (ps_if (pt_not (pt_val (pe_k c__law_same hr (by decide) (by rfl) (pa_cons (pe_op op_rep (pe_lst (pa_cons (pe_tup (pa_cons pe_str (pa_cons pe_str (pa_cons (pe_un un_neg pe_int) pa_nil)))) pa_nil)) pe_int) (pa_cons (pv 7) pa_nil)))))
 (pss_one (ps_ret pe_bl))
 pss_nil)))))))
 (C8.pss_cut (ps_for PassesOwn.never rfl (pi_list (pv 5)) (pg_name (i := 6) nd rfl (.inr rfl))
 (pss_one (ps_if (pt_not (pt_val (pe_k c__law_same hr (by decide) (by rfl) (pa_cons (pe_tup (pa_cons pe_str (pa_cons pe_str (pa_cons (pe_un un_neg pe_int) pa_nil)))) (pa_cons (pe_heard (k := 7) (T := LT P0) (t := fun E => tCallS (spFromX C K) (WE fun cls d _ H => E cls d H) (tCons (tVar 0) (tCons (tVar 1) (tCons (tVar 6) tNil)))) D_h HC z_isinstance TB rfl List.mem_cons_self lt_one (hr.mono (by decide)) (by rfl) (lamS_by (sc := defScope s__law_are_refused) (by decide +kernel)) rfl (fun _ _ _ _ _ => rfl) (fun A outer s H E f c1 hr2 => (pe_kX c_silent_fromX (takes_of rfl rfl rfl rfl) hr2 (by decide) (by rfl) (pa_cons (pv 0) (pa_cons (pv 1) (pa_cons (pv 6) pa_nil)))))) pa_nil)))))
 (pss_one (ps_ret pe_bl))
 pss_nil)))
 (pss_one (ps_ret pe_bl)))))))))), ?_⟩
    refine ⟨_, rfl, (by show 1 ≤ sizeLine; decide), fun t6 h_t6 => ?_⟩
    have s_t6 := same_new (o := .tup [V.int 6]) h_t6
    have e_t6 : (upd H t6 (.tup [V.int 6])) t6 = some (.tup [V.int 6]) := upd_same
    generalize upd H t6 (.tup [V.int 6]) = HA0 at s_t6 e_t6 ⊢
    refine ⟨(by show 6 ≤ sizeLine; decide), fun l3 h3 => ?_⟩
    have s3 := same_new (o := .lst [V.non, .int 0, .int (-1), .bl true, .str "6", .ref t6]) h3
    have e3 : (upd HA0 l3 (.lst [V.non, .int 0, .int (-1), .bl true, .str "6", .ref t6])) l3 = some (.lst [V.non, .int 0, .int (-1), .bl true, .str "6", .ref t6]) := upd_same
    have q3 : ∀ x ∈ [V.non, .int 0, .int (-1), .bl true, .str "6", .ref t6], ∃ d, Dp K (upd HA0 l3 (.lst [V.non, .int 0, .int (-1), .bl true, .str "6", .ref t6])) x d ∧ sizeD d = false := by
      have d6 : Dp K (upd HA0 l3 (.lst [V.non, .int 0, .int (-1), .bl true, .str "6", .ref t6])) (.ref t6) (.tuple [.int 6]) := .tup (.inl (.inl (s3 _ _ e_t6))) (.cons (.int 6) .nil)
      intro x hx
      simp only [List.mem_cons, List.not_mem_nil, or_false] at hx
      rcases hx with rfl | rfl | rfl | rfl | rfl | rfl
      · exact ⟨_, .non, rfl⟩
      · exact ⟨_, .int 0, rfl⟩
      · exact ⟨_, .int (-1), rfl⟩
      · exact ⟨_, .bl true, rfl⟩
      · exact ⟨_, .str "6", rfl⟩
      · exact ⟨_, d6, rfl⟩
    generalize upd HA0 l3 (.lst [V.non, .int 0, .int (-1), .bl true, .str "6", .ref t6]) = H1 at s3 e3 q3 ⊢
    generalize [V.non, .int 0, .int (-1), .bl true, .str "6", .ref t6] = sizes at s3 e3 q3
    refine ⟨(by show 0 ≤ sizeLine; decide), fun a1 h_a1 => ?_⟩
    have s_a1 := same_new (o := .lst []) h_a1
    have e_a1 : (upd H1 a1 (.lst [])) a1 = some (.lst []) := upd_same
    generalize upd H1 a1 (.lst []) = HB0 at s_a1 e_a1 ⊢
    refine ⟨(by show 1 ≤ sizeLine; decide), fun a2 h_a2 => ?_⟩
    have s_a2 := same_new (o := .tup [V.int 0]) h_a2
    have e_a2 : (upd HB0 a2 (.tup [V.int 0])) a2 = some (.tup [V.int 0]) := upd_same
    generalize upd HB0 a2 (.tup [V.int 0]) = HB1 at s_a2 e_a2 ⊢
    refine ⟨_, rfl, _, _, rfl, rfl, (by show 1 ≤ sizeLine; decide), fun a3 h_a3 => ?_⟩
    have s_a3 := same_new (o := .tup [V.int ((n : Nat) + 1)]) h_a3
    have e_a3 : (upd HB1 a3 (.tup [V.int ((n : Nat) + 1)])) a3 = some (.tup [V.int ((n : Nat) + 1)]) := upd_same
    generalize upd HB1 a3 (.tup [V.int ((n : Nat) + 1)]) = HB2 at s_a3 e_a3 ⊢
    refine ⟨(by show 2 ≤ sizeLine; decide), fun a4 h_a4 => ?_⟩
    have s_a4 := same_new (o := .tup [V.int 1, V.int 1]) h_a4
    have e_a4 : (upd HB2 a4 (.tup [V.int 1, V.int 1])) a4 = some (.tup [V.int 1, V.int 1]) := upd_same
    generalize upd HB2 a4 (.tup [V.int 1, V.int 1]) = HB3 at s_a4 e_a4 ⊢
    refine ⟨(by show 1 ≤ sizeLine; decide), fun a5 h_a5 => ?_⟩
    have s_a5 := same_new (o := .tup [V.bl true]) h_a5
    have e_a5 : (upd HB3 a5 (.tup [V.bl true])) a5 = some (.tup [V.bl true]) := upd_same
    generalize upd HB3 a5 (.tup [V.bl true]) = HB4 at s_a5 e_a5 ⊢
    refine ⟨(by show 1 ≤ sizeLine; decide), fun a6 h_a6 => ?_⟩
    have s_a6 := same_new (o := .tup [V.str "1"]) h_a6
    have e_a6 : (upd HB4 a6 (.tup [V.str "1"])) a6 = some (.tup [V.str "1"]) := upd_same
    generalize upd HB4 a6 (.tup [V.str "1"]) = HB5 at s_a6 e_a6 ⊢
    refine ⟨(by show 8 ≤ sizeLine; decide), fun l4 h4 => ?_⟩
    have s4 := same_new (o := .lst [V.non, .ref a1, .int 0, .ref a2, .ref a3, .ref a4, .ref a5, .ref a6]) h4
    have e4 : (upd HB5 l4 (.lst [V.non, .ref a1, .int 0, .ref a2, .ref a3, .ref a4, .ref a5, .ref a6])) l4 = some (.lst [V.non, .ref a1, .int 0, .ref a2, .ref a3, .ref a4, .ref a5, .ref a6]) := upd_same
    generalize upd HB5 l4 (.lst [V.non, .ref a1, .int 0, .ref a2, .ref a3, .ref a4, .ref a5, .ref a6]) = H2 at s4 e4 ⊢
    obtain ⟨b1, b2, b3⟩ := bad_ok n1 n2
    have q4 : ∀ x ∈ [V.non, .ref a1, .int 0, .ref a2, .ref a3, .ref a4, .ref a5, .ref a6], Q4 K n H2 x := by
      have g1 : Dp K H2 (.ref a1) (.list []) := .lst (.inl (.inl (s4 _ _ (s_a6 _ _ (s_a5 _ _ (s_a4 _ _ (s_a3 _ _ (s_a2 _ _ e_a1)))))))) .nil
      have g2 : Dp K H2 (.ref a2) (.tuple [.int 0]) := .tup (.inl (.inl (s4 _ _ (s_a6 _ _ (s_a5 _ _ (s_a4 _ _ (s_a3 _ _ e_a2))))))) (.cons (.int _) .nil)
      have g3 : Dp K H2 (.ref a3) (.tuple [.int ((n : Nat) + 1)]) := .tup (.inl (.inl (s4 _ _ (s_a6 _ _ (s_a5 _ _ (s_a4 _ _ e_a3)))))) (.cons (.int _) .nil)
      have g4 : Dp K H2 (.ref a4) (.tuple [.int 1, .int 1]) := .tup (.inl (.inl (s4 _ _ (s_a6 _ _ (s_a5 _ _ e_a4))))) (.cons (.int _) (.cons (.int _) .nil))
      have g5 : Dp K H2 (.ref a5) (.tuple [.bool true]) := .tup (.inl (.inl (s4 _ _ (s_a6 _ _ e_a5)))) (.cons (.bl _) .nil)
      have g6 : Dp K H2 (.ref a6) (.tuple [.str "1"]) := .tup (.inl (.inl (s4 _ _ e_a6))) (.cons (.str _) .nil)
      have sm : ∀ {xs ds : List PyData}, xs.length ≤ 900 → PyData.tuple xs = .tuple ds → ds.length ≤ 900 := fun h z => by cases z; exact h
      intro x hx
      simp only [List.mem_cons, List.not_mem_nil, or_false] at hx
      rcases hx with rfl | rfl | rfl | rfl | rfl | rfl | rfl | rfl
      · exact ⟨_, .non, .inl rfl, (fun _ z => by cases z), rfl⟩
      · exact ⟨_, g1, .inr (.inl rfl), (fun _ z => by cases z), rfl⟩
      · exact ⟨_, .int 0, .inl rfl, (fun _ z => by cases z), rfl⟩
      · exact ⟨_, g2, .inr (.inr ⟨_, rfl, List.all_eq_true.mp (by rfl)⟩), (fun _ z => sm (by decide) z), by unfold dsetD intsD; simp [divI]⟩
      · exact ⟨_, g3, .inr (.inr ⟨_, rfl, List.all_eq_true.mp (by rfl)⟩), (fun _ z => sm (by show 1 ≤ 900; decide) z), b1⟩
      · exact ⟨_, g4, .inr (.inr ⟨_, rfl, List.all_eq_true.mp (by rfl)⟩), (fun _ z => sm (by decide) z), by unfold dsetD intsD; simp [ascI]⟩
      · exact ⟨_, g5, .inr (.inr ⟨_, rfl, List.all_eq_true.mp (by rfl)⟩), (fun _ z => sm (by decide) z), rfl⟩
      · exact ⟨_, g6, .inr (.inr ⟨_, rfl, List.all_eq_true.mp (by rfl)⟩), (fun _ z => sm (by decide) z), rfl⟩
    have sH : Same H1 H2 := s_a1.trans (s_a2.trans (s_a3.trans (s_a4.trans (s_a5.trans (s_a6.trans s4)))))
    have s02 : Same H H2 := s_t6.trans (s3.trans sH)
    have r36 : n - dgP ss ≤ 36 := by omega
    refine ⟨fun σ H' => ∃ (l5 : Addr) (rows : List V), σ = [some (.int (n : Nat)), some (.ref a), some (.int ((n - dgP ss : Nat) : Int)), some (.ref l3), some (.ref l4), some (.ref l5), none, none] ∧ Same H2 H' ∧ H' l5 = some (.lst rows) ∧ l5 ≠ l4 ∧ ∀ x ∈ rows, Q5 K (n - dgP ss) H' x, ?_, ?_⟩
    · generalize n - dgP ss = r at r36 ⊢
      refine ⟨(by show 0 ≤ sizeLine; decide), fun b0 h_b0 => ?_⟩
      have s_b0 := same_new (o := .lst []) h_b0
      have e_b0 : (upd H2 b0 (.lst [])) b0 = some (.lst []) := upd_same
      generalize upd H2 b0 (.lst []) = HC0 at s_b0 e_b0 ⊢
      refine ⟨(by show 1 ≤ sizeLine; decide), fun t1 h_t1 => ?_⟩
      have s_t1 := same_new (o := .tup [V.int 0]) h_t1
      have e_t1 : (upd HC0 t1 (.tup [V.int 0])) t1 = some (.tup [V.int 0]) := upd_same
      generalize upd HC0 t1 (.tup [V.int 0]) = HC1 at s_t1 e_t1 ⊢
      refine ⟨_, rfl, _, _, rfl, rfl, t1, _, r + 1, rfl, rfl, e_t1, by simp, by omega, (by show 1 ≤ 1000; decide), fun p1 G1 sp1 ep1 => ?_⟩
      refine ⟨_, rfl, _, _, rfl, rfl, _, rfl, ite2 (fun c => ?_) (fun c => ?_)⟩
      · have r0 : 1 ≤ r := by have := of_decide_eq_true c; omega
        refine ⟨(by show 1 ≤ sizeLine; decide), fun t2 h2t => ?_⟩
        have s_t2 := same_new (o := .tup [V.bl true]) h2t
        have e_t2 : (upd G1 t2 (.tup [V.bl true])) t2 = some (.tup [V.bl true]) := upd_same
        generalize upd G1 t2 (.tup [V.bl true]) = G1b at s_t2 e_t2 ⊢
        refine ⟨_, rfl, t2, _, r, rfl, rfl, e_t2, by simp, by omega, (by show 1 ≤ 1000; decide), fun p2 G2 sp2 ep2 => ?_⟩
        replace sp2 := s_t2.trans sp2
        have g2a : Dp K G2 (.ref p2) (.tuple (List.replicate r (.bool true))) := .tup (.inl (.inl ep2)) (rep_dp (.bl true) r)
        refine ⟨(by show 1 ≤ sizeLine; decide), fun t3 h3t => ?_⟩
        have s_t3 := same_new (o := .tup [V.str "0"]) h3t
        have e_t3 : (upd G2 t3 (.tup [V.str "0"])) t3 = some (.tup [V.str "0"]) := upd_same
        generalize upd G2 t3 (.tup [V.str "0"]) = G3 at s_t3 e_t3 ⊢
        refine ⟨_, rfl, _, _, rfl, rfl, t3, _, r + 1, rfl, rfl, e_t3, by simp, by omega, (by show 1 ≤ 1000; decide), fun p3 G4 sp3 ep3 => ?_⟩
        refine ⟨(by show 6 ≤ sizeLine; decide), fun l5 h5 => ?_⟩
        have s5 := same_new (o := .lst [V.non, .ref b0, .ref p1, .ref p2, .int 0, .ref p3]) h5
        refine ⟨l5, _, rfl, (s_b0.trans (s_t1.trans (sp1.trans (sp2.trans (s_t3.trans (sp3.trans s5)))))), upd_same, (ne_of_none ((s_b0.trans (s_t1.trans (sp1.trans (sp2.trans (s_t3.trans sp3))))) _ _ e4) h5).symm, ?_⟩
        have g0 := (Dp.lst (.inl (.inl e_b0)) .nil : Dp K HC0 (.ref b0) (.list [])).same (s_t1.trans (sp1.trans (sp2.trans (s_t3.trans (sp3.trans s5)))))
        have g1 := (Dp.tup (.inl (.inl ep1)) (rep_dp (.int 0) (r + 1)) : Dp K G1 (.ref p1) (.tuple (List.replicate (r + 1) (.int 0)))).same (sp2.trans (s_t3.trans (sp3.trans s5)))
        have g2 := g2a.same (s_t3.trans (sp3.trans s5))
        have g3 := (Dp.tup (.inl (.inl ep3)) (rep_dp (.str "0") (r + 1)) : Dp K G4 (.ref p3) (.tuple (List.replicate (r + 1) (.str "0")))).same s5
        intro x hx
        simp only [List.mem_cons, List.not_mem_nil, or_false] at hx
        rcases hx with rfl | rfl | rfl | rfl | rfl | rfl
        · exact ⟨_, .non, .inl rfl, (fun _ z => by cases z), fun _ z => by cases z⟩
        · exact ⟨_, g0, .inr (.inl rfl), (fun _ z => by cases z), fun _ z => by cases z⟩
        · refine ⟨_, g1, .inr (.inr ⟨_, rfl, fun e he => by rw [(List.mem_replicate.mp he).2]; rfl⟩), fun ds z => by cases z; rw [List.length_replicate]; omega, fun ns z y => ?_⟩
          have e := congrArg List.length ((intsD_all _).2 ns z)
          rw [List.length_replicate, List.length_map] at e
          omega
        · exact ⟨_, g2, .inr (.inr ⟨_, rfl, fun e he => by rw [(List.mem_replicate.mp he).2]; rfl⟩), (fun ds z => by cases z; rw [List.length_replicate]; omega), fun ns z => (rep_no (fun i y => by cases y) r0 z).elim⟩
        · exact ⟨_, .int 0, .inl rfl, (fun _ z => by cases z), fun _ z => by cases z⟩
        · exact ⟨_, g3, .inr (.inr ⟨_, rfl, fun e he => by rw [(List.mem_replicate.mp he).2]; rfl⟩), fun ds z => by cases z; rw [List.length_replicate]; omega, fun ns z => (rep_no (fun i y => by cases y) (by omega) z).elim⟩
      · have r0 : r = 0 := by
          rcases Nat.eq_zero_or_pos r with z | z
          · exact z
          · exact (c (decide_eq_true (by omega))).elim
        refine ⟨(by show 2 ≤ sizeLine; decide), fun p2 hp2 => ?_⟩
        have sp2 := same_new (o := .tup [V.int 0, V.int 0]) hp2
        have ep2 : (upd G1 p2 (.tup [V.int 0, V.int 0])) p2 = some (.tup [V.int 0, V.int 0]) := upd_same
        generalize upd G1 p2 (.tup [V.int 0, V.int 0]) = G2 at sp2 ep2 ⊢
        have g2a : Dp K G2 (.ref p2) (.tuple [.int 0, .int 0]) := .tup (.inl (.inl ep2)) (.cons (.int 0) (.cons (.int 0) .nil))
        refine ⟨(by show 1 ≤ sizeLine; decide), fun t3 h3t => ?_⟩
        have s_t3 := same_new (o := .tup [V.str "0"]) h3t
        have e_t3 : (upd G2 t3 (.tup [V.str "0"])) t3 = some (.tup [V.str "0"]) := upd_same
        generalize upd G2 t3 (.tup [V.str "0"]) = G3 at s_t3 e_t3 ⊢
        refine ⟨_, rfl, _, _, rfl, rfl, t3, _, r + 1, rfl, rfl, e_t3, by simp, by omega, (by show 1 ≤ 1000; decide), fun p3 G4 sp3 ep3 => ?_⟩
        refine ⟨(by show 6 ≤ sizeLine; decide), fun l5 h5 => ?_⟩
        have s5 := same_new (o := .lst [V.non, .ref b0, .ref p1, .ref p2, .int 0, .ref p3]) h5
        refine ⟨l5, _, rfl, (s_b0.trans (s_t1.trans (sp1.trans (sp2.trans (s_t3.trans (sp3.trans s5)))))), upd_same, (ne_of_none ((s_b0.trans (s_t1.trans (sp1.trans (sp2.trans (s_t3.trans sp3))))) _ _ e4) h5).symm, ?_⟩
        have g0 := (Dp.lst (.inl (.inl e_b0)) .nil : Dp K HC0 (.ref b0) (.list [])).same (s_t1.trans (sp1.trans (sp2.trans (s_t3.trans (sp3.trans s5)))))
        have g1 := (Dp.tup (.inl (.inl ep1)) (rep_dp (.int 0) (r + 1)) : Dp K G1 (.ref p1) (.tuple (List.replicate (r + 1) (.int 0)))).same (sp2.trans (s_t3.trans (sp3.trans s5)))
        have g2 := g2a.same (s_t3.trans (sp3.trans s5))
        have g3 := (Dp.tup (.inl (.inl ep3)) (rep_dp (.str "0") (r + 1)) : Dp K G4 (.ref p3) (.tuple (List.replicate (r + 1) (.str "0")))).same s5
        intro x hx
        simp only [List.mem_cons, List.not_mem_nil, or_false] at hx
        rcases hx with rfl | rfl | rfl | rfl | rfl | rfl
        · exact ⟨_, .non, .inl rfl, (fun _ z => by cases z), fun _ z => by cases z⟩
        · exact ⟨_, g0, .inr (.inl rfl), (fun _ z => by cases z), fun _ z => by cases z⟩
        · refine ⟨_, g1, .inr (.inr ⟨_, rfl, fun e he => by rw [(List.mem_replicate.mp he).2]; rfl⟩), fun ds z => by cases z; rw [List.length_replicate]; omega, fun ns z y => ?_⟩
          have e := congrArg List.length ((intsD_all _).2 ns z)
          rw [List.length_replicate, List.length_map] at e
          omega
        · exact ⟨_, g2, .inr (.inr ⟨_, rfl, List.all_eq_true.mp (by rfl)⟩), (fun ds z => by cases z; decide), fun ns z y => by cases z; rw [r0] at y; cases y⟩
        · exact ⟨_, .int 0, .inl rfl, (fun _ z => by cases z), fun _ z => by cases z⟩
        · exact ⟨_, g3, .inr (.inr ⟨_, rfl, fun e he => by rw [(List.mem_replicate.mp he).2]; rfl⟩), fun ds z => by cases z; rw [List.length_replicate]; omega, fun ns z => (rep_no (fun i y => by cases y) (by omega) z).elim⟩
    rintro σ H5 ⟨l5, rows, rfl, s5, e5, n54, q5⟩
    have tb5 : Tabs (LT P0) H5 := tb.ext (s02.trans s5)
    have e3b : H5 l3 = some (.lst sizes) := s5 _ _ (sH _ _ e3)
    have q3b : ∀ x ∈ sizes, ∃ d, Dp K H5 x d ∧ sizeD d = false := fun x hx => let ⟨d, h, z⟩ := q3 x hx; ⟨d, h.same (sH.trans s5), z⟩
    refine ⟨fun σ H' => ∃ y6 y7 : Option V, σ = [some (.int (n : Nat)), some (.ref a), some (.int ((n - dgP ss : Nat) : Int)), some (.ref l3), some (.ref l4), some (.ref l5), y6, y7] ∧ ExtN H5 H' ∧ Tabs (LT P0) H', ?_, ?_⟩
    · refine ⟨_, rfl, l3, rfl, ⟨_, .inl (.inl e3b)⟩, for_it (walk_list (xs := sizes)) (fun j σ H' => ∃ y6 y7 : Option V, σ = [some (.int (n : Nat)), some (.ref a), some (.int ((n - dgP ss : Nat) : Int)), some (.ref l3), some (.ref l4), some (.ref l5), y6, y7] ∧ ExtN H5 H' ∧ Tabs (LT P0) H')
        ⟨_, _, rfl, ExtN.refl _, tb5⟩ (fun j σ H' _ ⟨_, _, _, e, _⟩ => .inl (.inl (e.lst e3b))) ?_ ?_⟩
      · rintro j x σ G G' hj ⟨y6, y7, rfl, eG, tG⟩ ⟨eH, hx⟩
        obtain rfl := eH.symm
        obtain ⟨d, dp, zd⟩ := q3b x (List.mem_of_getElem? hx)
        have dG := dp_ext eG dp
        refine rd_heard tG (by decide) (fun H1 E1 Qv f1 nu => ⟨_, rfl, ⟨x, .non, d, rfl, dp_ext f1 dG, .inl ⟨zd, nu⟩⟩⟩) fun t1 G1 e1 tb1 et1 => ?_
        refine ⟨(by show 1 ≤ sizeLine; decide), fun l7 h7 => ?_⟩
        have c1 := CgAt.init e1 tb1 et1 h7
        generalize upd G1 l7 (.lst [V.ref t1]) = G1b at c1 ⊢
        refine ⟨_, rfl, .inl ⟨rfl, _, .inl (.inl c1.at_)⟩, ?_⟩
        refine rd_heard c1.tab (by decide) (fun H1 E1 Qv f1 nu => ⟨_, rfl, ⟨x, .non, d, rfl, dp_ext (c1.ext.trans f1) dG, .inl ⟨zd, nu⟩⟩⟩) fun t2 G2 e2 tb2 et2 => ?_
        refine ⟨l7, _, _, rfl, rfl, e2.lst c1.at_, by rw [List.length_map, c1.len]; decide, ?_⟩
        have c2 := c1.app e2 tb2 et2
        generalize upd G2 l7 (.lst ([t1].map V.ref ++ [V.ref t2])) = G2b at c2 ⊢
        refine ⟨_, rfl, .inl ⟨rfl, _, .inl (.inl c2.at_)⟩, ?_⟩
        refine rd_heard c2.tab (by decide) (fun H1 E1 Qv f1 nu => ⟨_, rfl, ⟨x, .non, d, rfl, dp_ext (c2.ext.trans f1) dG, .inl ⟨zd, nu⟩⟩⟩) fun t3 G3 e3 tb3 et3 => ?_
        refine ⟨l7, _, _, rfl, rfl, e3.lst c2.at_, by rw [List.length_map, c2.len]; decide, ?_⟩
        have c3 := c2.app e3 tb3 et3
        generalize upd G3 l7 (.lst (([t1] ++ [t2]).map V.ref ++ [V.ref t3])) = G3b at c3 ⊢
        refine ⟨_, rfl, .inl ⟨rfl, _, .inl (.inl c3.at_)⟩, ?_⟩
        refine rd_heard c3.tab (by decide) (fun H1 E1 Qv f1 nu => ⟨_, rfl, ⟨x, .non, .non, rfl, .inl ⟨x, .non, d, rfl, dp_ext (c3.ext.trans f1) dG, .inl ⟨zd, nu⟩⟩⟩⟩) fun t4 G4 e4 tb4 et4 => ?_
        refine ⟨l7, _, _, rfl, rfl, e4.lst c3.at_, by rw [List.length_map, c3.len]; decide, ?_⟩
        have c4 := c3.app e4 tb4 et4
        generalize upd G4 l7 (.lst (([t1] ++ [t2] ++ [t3]).map V.ref ++ [V.ref t4])) = G4b at c4 ⊢
        refine ⟨_, rfl, (by show 3 ≤ sizeLine; decide), fun u1 hu1 => ?_⟩
        have su1 := same_new (o := (.tup [V.str "unfit", .str "size", .int (-1)])) hu1
        have eu1 : (upd G4b u1 (.tup [V.str "unfit", .str "size", .int (-1)])) u1 = some (unfit "size") := upd_same
        generalize upd G4b u1 (.tup [V.str "unfit", .str "size", .int (-1)]) = J1 at su1 eu1 ⊢
        refine ⟨(by show 1 ≤ sizeLine; decide), fun u2 hu2 => ?_⟩
        have su2 := same_new (o := .lst [V.ref u1]) hu2
        have eu2 : (upd J1 u2 (.lst [V.ref u1])) u2 = some (.lst [V.ref u1]) := upd_same
        generalize upd J1 u2 (.lst [V.ref u1]) = J2 at su2 eu2 ⊢
        refine ⟨u2, _, _, rfl, rfl, eu2, by decide, by decide, (by show 4 ≤ sizeLine; decide), fun u3 hu3 => ?_⟩
        have su3 := same_new (o := (.lst (List.replicate (4 : Int).toNat [V.ref u1]).flatten)) hu3
        have eu3 : (upd J2 u3 (.lst (List.replicate (4 : Int).toNat [V.ref u1]).flatten)) u3 = some (.lst [V.ref u1, .ref u1, .ref u1, .ref u1]) := upd_same
        generalize upd J2 u3 (.lst (List.replicate (4 : Int).toNat [V.ref u1]).flatten) = J3 at su3 eu3 ⊢
        have sJ := su1.trans (su2.trans su3)
        have dp1 : Dp K J3 (.ref u3) (.list (List.replicate 4 (unfitD "size"))) := .lst (.inl (.inl eu3)) (unfit_all (ts := [u1, u1, u1, u1]) fun t ht => by
          simp only [List.mem_cons, List.not_mem_nil, or_false, or_self] at ht
          rw [ht]
          exact su3 _ _ (su2 _ _ eu1))
        have dp2 : Dp K J3 (.ref l7) (.list (List.replicate 4 (unfitD "size"))) := by
          have h := unfit_all (K := K) fun t ht => sJ _ _ (c4.all t ht)
          rw [c4.len] at h
          exact .lst (.inl (.inl (sJ _ _ c4.at_))) h
        refine ⟨_, rfl, _, _, _, rfl, dp1, dp2, unfits_sm 4 (by decide) "size", fun J4 sJ4 => ⟨true, rfl, iteF ?_⟩⟩
        have eJ := eG.trans (c4.ext.trans (ext_of (sJ.trans sJ4)))
        have tJ := c4.tab.ext (sJ.trans sJ4)
        exact ⟨_, _, rfl, eJ, tJ⟩
      · rintro σ G ⟨y6, y7, rfl, eG, tG⟩
        exact ⟨_, _, rfl, eG, tG⟩
    rintro σ H6 ⟨y6, y7, rfl, x6, tb6⟩
    have ha6 := x6.sqT (Same.sqT (s02.trans s5) ha)
    have e4b := x6.lst (s5 _ _ e4)
    have q4b : ∀ x ∈ [V.non, .ref a1, .int 0, .ref a2, .ref a3, .ref a4, .ref a5, .ref a6], Q4 K n H6 x := fun x hx => ((q4 x hx).ext (ext_of s5)).ext x6
    have e5b := x6.lst e5
    have q5b : ∀ x ∈ rows, Q5 K (n - dgP ss) H6 x := fun x hx => (q5 x hx).ext x6
    refine ⟨fun σ H' => ∃ (y6 y7 : Option V) (k4 : Addr) (sets : List V), σ = [some (.int (n : Nat)), some (.ref a), some (.int ((n - dgP ss : Nat) : Int)), some (.ref l3), some (.ref k4), some (.ref l5), y6, y7] ∧ H' k4 = some (.lst sets) ∧ sets ≠ [] ∧ sets.length ≤ 9 ∧ (∀ x ∈ sets, Q4 K n H' x) ∧ H' l5 = some (.lst rows) ∧ (∀ x ∈ rows, Q5 K (n - dgP ss) H' x) ∧ SqT K H' a (nV ss) ∧ Tabs (LT P0) H', ?_, ?_⟩
    · refine ⟨_, rfl, _, _, rfl, rfl, _, rfl, ite2 (fun c => ?_) (fun c => ?_)⟩
      · have c1 : 1 < n := by have := of_decide_eq_true c; omega
        refine ⟨_, rfl, .inl ⟨rfl, _, .inl (.inl e4b)⟩, _, rfl, (by show 2 ≤ sizeLine; decide), fun t ht => ?_⟩
        have st := same_new (o := .tup [V.int (n : Nat), .int 1]) ht
        have et : (upd H6 t (.tup [V.int (n : Nat), .int 1])) t = some (.tup [V.int (n : Nat), .int 1]) := upd_same
        generalize upd H6 t (.tup [V.int (n : Nat), .int 1]) = H7 at st et ⊢
        have xt := ext_of st
        have e7 := xt.lst e4b
        refine ⟨l4, _, _, rfl, rfl, e7, (by show 8 < sizeLine; decide), ?_⟩
        have gt : Q4 K n H7 (.ref t) := ⟨.tuple [.int (n : Nat), .int 1], .tup (.inl (.inl et)) (.cons (.int _) (.cons (.int _) .nil)), .inr (.inr ⟨_, rfl, List.all_eq_true.mp (by rfl)⟩), fun ds z => by cases z; show 2 ≤ 900; decide, b2 c1⟩
        have ne4 : ([V.non, .ref a1, .int 0, .ref a2, .ref a3, .ref a4, .ref a5, .ref a6] : List V) ≠ [] := by intro z; cases z
        refine ⟨_, _, l4, _, rfl, upd_same, (by intro z; cases z), (by show 9 ≤ 9; decide), fun x hx => ?_, ?_, fun x hx => ((q5b x hx).ext xt).upd e7 ne4, sqT_upd e7 (xt.sqT ha6), tabs_upd (.inl e7) (tb6.ext st)⟩
        · rcases List.mem_append.mp hx with z | z
          · exact ((q4b x z).ext xt).upd e7 ne4
          · rw [List.mem_singleton.mp z]
            exact gt.upd e7 ne4
        · rw [upd_ne n54]
          exact xt.lst e5b
      · exact ⟨_, _, l4, _, rfl, e4b, (by intro z; cases z), (by show 8 ≤ 9; decide), q4b, e5b, q5b, ha6, tb6⟩
    rintro σ H7 ⟨y6, y7, k4, sets, rfl, ek, hne, hl, qs4, er, qs5, hsq, tb7⟩
    refine ⟨fun σ H' => ∃ (y6 y7 : Option V) (k4 : Addr) (sets : List V), σ = [some (.int (n : Nat)), some (.ref a), some (.int ((n - dgP ss : Nat) : Int)), some (.ref l3), some (.ref k4), some (.ref l5), y6, y7] ∧ H' k4 = some (.lst sets) ∧ sets ≠ [] ∧ sets.length ≤ 11 ∧ (∀ x ∈ sets, Q4 K n H' x) ∧ H' l5 = some (.lst rows) ∧ (∀ x ∈ rows, Q5 K (n - dgP ss) H' x) ∧ SqT K H' a (nV ss) ∧ Tabs (LT P0) H', ?_, ?_⟩
    · refine ⟨_, rfl, _, _, rfl, rfl, _, rfl, ite2 (fun c => ?_) (fun c => ?_)⟩
      · have c1 : 2 < n := by have := of_decide_eq_true c; omega
        refine ⟨_, rfl, _, rfl, _, _, rfl, rfl, (by show 1 ≤ sizeLine; decide), fun t ht => ?_⟩
        have st := same_new (o := .tup [V.int ((n : Nat) - 1)]) ht
        have et : (upd H7 t (.tup [V.int ((n : Nat) - 1)])) t = some (.tup [V.int ((n : Nat) - 1)]) := upd_same
        generalize upd H7 t (.tup [V.int ((n : Nat) - 1)]) = H8 at st et ⊢
        refine ⟨_, rfl, _, _, rfl, rfl, (by show 2 ≤ sizeLine; decide), fun t2 ht2 => ?_⟩
        have st2 := same_new (o := .tup [V.int 1, .int ((n : Nat) - 1)]) ht2
        have et2 : (upd H8 t2 (.tup [V.int 1, .int ((n : Nat) - 1)])) t2 = some (.tup [V.int 1, .int ((n : Nat) - 1)]) := upd_same
        generalize upd H8 t2 (.tup [V.int 1, .int ((n : Nat) - 1)]) = H9 at st2 et2 ⊢
        refine ⟨(by show 2 ≤ sizeLine; decide), fun l hl2 => ?_⟩
        have sl := same_new (o := .lst [V.ref t, .ref t2]) hl2
        have el : (upd H9 l (.lst [V.ref t, .ref t2])) l = some (.lst [V.ref t, .ref t2]) := upd_same
        generalize upd H9 l (.lst [V.ref t, .ref t2]) = H10 at sl el ⊢
        have sA := st.trans (st2.trans sl)
        refine ⟨k4, l, _, _, rfl, rfl, sA _ _ ek, el, by show sets.length + 2 ≤ sizeLine; exact Nat.le_of_lt (small1000 (by omega)), fun k5 hk5 => ?_⟩
        have sB := sA.trans (same_new (o := .lst (sets ++ [V.ref t, .ref t2])) hk5)
        have sC := (st2.trans sl).trans (same_new (o := .lst (sets ++ [V.ref t, .ref t2])) hk5)
        have sD := sl.trans (same_new (o := .lst (sets ++ [V.ref t, .ref t2])) hk5)
        refine ⟨_, _, k5, _, rfl, upd_same, (fun z => hne (List.append_eq_nil_iff.mp z).1), (by rw [List.length_append]; show _ + 2 ≤ 11; omega), fun x hx => ?_, sB _ _ er, fun x hx => (qs5 x hx).ext (ext_of sB), Same.sqT sB hsq, tb7.ext sB⟩
        rcases List.mem_append.mp hx with z | z
        · exact (qs4 x z).ext (ext_of sB)
        · simp only [List.mem_cons, List.not_mem_nil, or_false] at z
          rcases z with rfl | rfl
          · exact ⟨.tuple [.int ((n : Nat) - 1)], .tup (.inl (.inl (sC _ _ et))) (.cons (.int _) .nil), .inr (.inr ⟨_, rfl, List.all_eq_true.mp (by rfl)⟩), (fun ds z => by cases z; show 1 ≤ 900; decide), (b3 c1).1⟩
          · exact ⟨.tuple [.int 1, .int ((n : Nat) - 1)], .tup (.inl (.inl (sD _ _ et2))) (.cons (.int _) (.cons (.int _) .nil)), .inr (.inr ⟨_, rfl, List.all_eq_true.mp (by rfl)⟩), (fun ds z => by cases z; show 2 ≤ 900; decide), (b3 c1).2⟩
      · exact ⟨_, _, k4, _, rfl, ek, hne, (by omega), qs4, er, qs5, hsq, tb7⟩
    rintro σ H8 ⟨y6, y7, k4, sets, rfl, ek, hne, hl, qs4, er, qs5, hsq, tb8⟩
    refine ⟨fun σ H' => ∃ y6 y7 : Option V, σ = [some (.int (n : Nat)), some (.ref a), some (.int ((n - dgP ss : Nat) : Int)), some (.ref l3), some (.ref k4), some (.ref l5), y6, y7] ∧ ExtN H8 H' ∧ Tabs (LT P0) H', ?_, ?_⟩
    · refine ⟨_, rfl, k4, rfl, ⟨_, .inl (.inl ek)⟩, for_it (walk_list (xs := sets)) (fun j σ H' => ∃ y6 y7 : Option V, σ = [some (.int (n : Nat)), some (.ref a), some (.int ((n - dgP ss : Nat) : Int)), some (.ref l3), some (.ref k4), some (.ref l5), y6, y7] ∧ ExtN H8 H' ∧ Tabs (LT P0) H')
        ⟨_, _, rfl, ExtN.refl _, tb8⟩ (fun j σ H' _ ⟨_, _, _, e, _⟩ => .inl (.inl (e.lst ek))) ?_ ?_⟩
      · rintro j x σ G G' hj ⟨y6, y7, rfl, eG, tG⟩ ⟨eH, hx⟩
        obtain rfl := eH.symm
        obtain ⟨d, dp, _, ze, zd⟩ := qs4 x (List.mem_of_getElem? hx)
        have dG := dp_ext eG dp
        refine rd_heard tG (by decide) (fun H1 E1 Qv f1 nu => ⟨_, rfl, _, rfl, .int (n : Nat), x, .int (n : Nat), rfl, .int _, .inr ⟨n, d, rfl, n1, dp_ext f1 dG, ze, zd, nu⟩⟩) fun t1 G1 e1 tb1 et1 => ?_
        refine ⟨(by show 1 ≤ sizeLine; decide), fun l7 h7 => ?_⟩
        have c1 := CgAt.init e1 tb1 et1 h7
        generalize upd G1 l7 (.lst [V.ref t1]) = G1b at c1 ⊢
        refine ⟨_, rfl, .inl ⟨rfl, _, .inl (.inl c1.at_)⟩, ?_⟩
        refine rd_heard c1.tab (by decide) (fun H1 E1 Qv f1 nu => ⟨_, rfl, _, rfl, .int (n : Nat), x, .int (n : Nat), rfl, .int _, .inr ⟨n, d, rfl, n1, dp_ext (c1.ext.trans f1) dG, ze, zd, nu⟩⟩) fun t2 G2 e2 tb2 et2 => ?_
        refine ⟨l7, _, _, rfl, rfl, e2.lst c1.at_, by rw [List.length_map, c1.len]; decide, ?_⟩
        have c2 := c1.app e2 tb2 et2
        generalize upd G2 l7 (.lst ([t1].map V.ref ++ [V.ref t2])) = G2b at c2 ⊢
        refine ⟨_, rfl, .inl ⟨rfl, _, .inl (.inl c2.at_)⟩, ?_⟩
        refine rd_heard c2.tab (by decide) (fun H1 E1 Qv f1 nu => ⟨_, rfl, _, rfl, .int (n : Nat), x, .int (n : Nat), rfl, .int _, .inr ⟨n, d, rfl, n1, dp_ext (c2.ext.trans f1) dG, ze, zd, nu⟩⟩) fun t3 G3 e3 tb3 et3 => ?_
        refine ⟨l7, _, _, rfl, rfl, e3.lst c2.at_, by rw [List.length_map, c2.len]; decide, ?_⟩
        have c3 := c2.app e3 tb3 et3
        generalize upd G3 l7 (.lst (([t1] ++ [t2]).map V.ref ++ [V.ref t3])) = G3b at c3 ⊢
        refine ⟨_, rfl, .inl ⟨rfl, _, .inl (.inl c3.at_)⟩, ?_⟩
        refine rd_heard c3.tab (by decide) (fun H1 E1 Qv f1 nu => ⟨_, rfl, _, rfl, .int (n : Nat), x, .non, rfl, .inl ⟨.int (n : Nat), x, .int (n : Nat), rfl, .int _, .inr ⟨n, d, rfl, n1, dp_ext (c3.ext.trans f1) dG, ze, zd, nu⟩⟩⟩) fun t4 G4 e4 tb4 et4 => ?_
        refine ⟨l7, _, _, rfl, rfl, e4.lst c3.at_, by rw [List.length_map, c3.len]; decide, ?_⟩
        have c4 := c3.app e4 tb4 et4
        generalize upd G4 l7 (.lst (([t1] ++ [t2] ++ [t3]).map V.ref ++ [V.ref t4])) = G4b at c4 ⊢
        refine ⟨_, rfl, (by show 3 ≤ sizeLine; decide), fun u1 hu1 => ?_⟩
        have su1 := same_new (o := (.tup [V.str "unfit", .str "divisors", .int (-1)])) hu1
        have eu1 : (upd G4b u1 (.tup [V.str "unfit", .str "divisors", .int (-1)])) u1 = some (unfit "divisors") := upd_same
        generalize upd G4b u1 (.tup [V.str "unfit", .str "divisors", .int (-1)]) = J1 at su1 eu1 ⊢
        refine ⟨(by show 1 ≤ sizeLine; decide), fun u2 hu2 => ?_⟩
        have su2 := same_new (o := .lst [V.ref u1]) hu2
        have eu2 : (upd J1 u2 (.lst [V.ref u1])) u2 = some (.lst [V.ref u1]) := upd_same
        generalize upd J1 u2 (.lst [V.ref u1]) = J2 at su2 eu2 ⊢
        refine ⟨u2, _, _, rfl, rfl, eu2, by decide, by decide, (by show 4 ≤ sizeLine; decide), fun u3 hu3 => ?_⟩
        have su3 := same_new (o := (.lst (List.replicate (4 : Int).toNat [V.ref u1]).flatten)) hu3
        have eu3 : (upd J2 u3 (.lst (List.replicate (4 : Int).toNat [V.ref u1]).flatten)) u3 = some (.lst [V.ref u1, .ref u1, .ref u1, .ref u1]) := upd_same
        generalize upd J2 u3 (.lst (List.replicate (4 : Int).toNat [V.ref u1]).flatten) = J3 at su3 eu3 ⊢
        have sJ := su1.trans (su2.trans su3)
        have dp1 : Dp K J3 (.ref u3) (.list (List.replicate 4 (unfitD "divisors"))) := .lst (.inl (.inl eu3)) (unfit_all (ts := [u1, u1, u1, u1]) fun t ht => by
          simp only [List.mem_cons, List.not_mem_nil, or_false, or_self] at ht
          rw [ht]
          exact su3 _ _ (su2 _ _ eu1))
        have dp2 : Dp K J3 (.ref l7) (.list (List.replicate 4 (unfitD "divisors"))) := by
          have h := unfit_all (K := K) fun t ht => sJ _ _ (c4.all t ht)
          rw [c4.len] at h
          exact .lst (.inl (.inl (sJ _ _ c4.at_))) h
        refine ⟨_, rfl, _, _, _, rfl, dp1, dp2, unfits_sm 4 (by decide) "divisors", fun J4 sJ4 => ⟨true, rfl, iteF ?_⟩⟩
        have eJ := eG.trans (c4.ext.trans (ext_of (sJ.trans sJ4)))
        have tJ := c4.tab.ext (sJ.trans sJ4)
        exact ⟨_, _, rfl, eJ, tJ⟩
      · rintro σ G ⟨y6, y7, rfl, eG, tG⟩
        exact ⟨_, _, rfl, eG, tG⟩
    rintro σ H9 ⟨y6, y7, rfl, x9, tb9⟩
    have er9 := x9.lst er
    have ha9 := x9.sqT hsq
    refine ⟨fun σ H' => True, ?_, fun σ H' _ => q H'⟩
    refine ⟨_, rfl, l5, rfl, ⟨_, .inl (.inl er9)⟩, for_it (walk_list (xs := rows)) (fun j σ H' => ∃ y6 y7 : Option V, σ = [some (.int (n : Nat)), some (.ref a), some (.int ((n - dgP ss : Nat) : Int)), some (.ref l3), some (.ref k4), some (.ref l5), y6, y7] ∧ ExtN H9 H' ∧ Tabs (LT P0) H')
      ⟨_, _, rfl, ExtN.refl _, tb9⟩ (fun j σ H' _ ⟨_, _, _, e, _⟩ => .inl (.inl (e.lst er9))) ?_ (fun _ _ _ => True.intro)⟩
    rintro j x σ G G' hj ⟨y6, y7, rfl, eG, tG⟩ ⟨eH, hx⟩
    obtain rfl := eH.symm
    obtain ⟨d, dp, _, ze, zd⟩ := (qs5 x (List.mem_of_getElem? hx)).ext x9
    refine ⟨_, rfl, (by show 3 ≤ sizeLine; decide), fun u1 hu1 => ?_⟩
    have su1 := same_new (o := .tup [V.str "unfit", .str "weights", .int (-1)]) hu1
    have eu1 : (upd G u1 (.tup [V.str "unfit", .str "weights", .int (-1)])) u1 = some (unfit "weights") := upd_same
    generalize upd G u1 (.tup [V.str "unfit", .str "weights", .int (-1)]) = J1 at su1 eu1 ⊢
    have x1 := eG.trans (ext_of su1)
    have dG := dp_ext x1 dp
    refine rd_heard (tG.ext su1) (by decide) (fun H1 E1 Qv f1 nu => ⟨_, rfl, _, rfl, _, rfl, .int (n : Nat), .ref a, x, rfl, .inr ⟨n, a, ss, d, rfl, rfl, n1, n2, hs, f1.sqT (x1.sqT ha9), dp_ext f1 dG, ze, zd, nu⟩⟩) fun t1 G1 e1 tb1 et1 => ?_
    refine ⟨_, _, _, rfl, unfit_dp (e1.tup eu1), unfit_dp et1, unfit_sm 1 "weights", fun J sJ => ⟨true, rfl, iteF ?_⟩⟩
    exact ⟨_, _, rfl, x1.trans (e1.trans (ext_of sJ)), tb1.ext sJ⟩
end
end K8

set_option Elab.async false
set_option linter.all false
set_option maxRecDepth 100000
set_option maxHeartbeats 4000000
set_option exponentiation.threshold 20000
namespace K8
open PySem PySem.Spec PyProof.Rows L2 Gd Pv RZ Po Nm
section
variable {P : Program} {w : World} {K : PySem.W.Frag} {mg : Str → Option Value} {base : Heap}
open LamX
theorem tabs_kp {T : List (Addr × Str)} {H H' : Hp} {d c : Addr} {cells : List Int} {B : Nat} (F : FeedAt H d c cells B) (k : Kp d H H') (t : Tabs T H) : Tabs T H' := fun p hp => by
  obtain ⟨ps, h1, h2, h3⟩ := t p hp
  obtain ⟨sp, ov, tn, e, _⟩ := F.ex
  refine ⟨ps, k _ _ (ne_of h1 e fun z => by cases z) h1, h2, fun pos cv hc => ?_⟩
  obtain ⟨c2, e1, e2⟩ := h3 pos cv hc
  exact ⟨c2, e1, k _ _ (ne_of e2 e fun z => by unfold CodeO at z; cases z) e2⟩
def spLawT (K : PySem.W.Frag) (P0 : Addr) : Sp := fun vs H Q _ => ∃ (a : Addr) (ns : List Int), vs = [.ref a] ∧ SqL K H a (ns.map V.int) ∧ ns.length ≤ 63 ∧ Tabs (LT P0) H ∧ ∀ H', Q (.bl true) H'
theorem ok_law {f : Addr} {fd : FuncData} {P0 : Addr} (F0 : Fun K "law" "law" s_law f fd) (c__law_feed : Cal P w K mg base 1 "_law_feed" (spFeed K)) (c__law_is_wide : Cal P w K mg base 8 "_law_is_wide" spWide) (c__law_is_told : Cal P w K mg base 9 "_law_is_told" spTold)
    (c__law_size : Cal P w K mg base 3 "_law_size" spSizeL) (c__law_some : Cal P w K mg base 2 "_law_some" spSome) (c__law_divisors : Cal P w K mg base 1 "_law_divisors" spDvsL) (c__law_cycles : Cal P w K mg base 2 "_law_cycles" spCycles) (c__law_are_refused : Cal P w K mg base 10 "_law_are_refused" (spRefused K P0))
    (z_tuple : mg "tuple" = none) (z_sum : mg "sum" = none) (z_len : mg "len" = none) : FnOk P w K mg base CX0 11 f fd ["_law_script"] (spLawT K P0) := by
  refine F0.ok sc_law (fun vs H Q E h => ?_) (fun cdv A outer s H vs Q E hr h => ?_)
  · obtain ⟨a, ns, rfl, _⟩ := h
    rfl
  · obtain ⟨a0, ns0, rfl, ha, hz, tb, q⟩ := h
    have nd := sc_law.nd
    have hu := hu_of hr
    refine ⟨_, (pss_cons (ps_set (i := 1) nd rfl (.inl rfl) (pe_k c__law_feed hr (by decide) (by rfl) (pa_cons (pv 0) pa_nil)))
 (C8.pss_cut (ps_if (pt_not (pt_val (pe_k c__law_is_wide hr (by decide) (by rfl) (pa_cons (pv 1) pa_nil))))
 (pss_one (ps_ret pe_bl))
 pss_nil)
 (C8.pss_cut (ps_if (PW.pt (pw_or (pt_not (pt_val (pe_k c__law_is_told hr (by decide) (by rfl) (pa_cons (pv 1) (pa_cons pe_int (pa_cons (pe_tup (pa_cons pe_int (pa_cons pe_int pa_nil))) pa_nil)))))) (pw_or (pt_not (pt_val (pe_k c__law_is_told hr (by decide) (by rfl) (pa_cons (pv 1) (pa_cons pe_int (pa_cons (pe_tup (pa_cons pe_int pa_nil)) pa_nil)))))) (pw_or1 (pt_not (pt_val (pe_k c__law_is_told hr (by decide) (by rfl) (pa_cons (pv 1) (pa_cons pe_int (pa_cons (pe_tup pa_nil) pa_nil))))))))))
 (pss_one (ps_ret pe_bl))
 pss_nil)
 (pss_cons (ps_set (i := 2) nd rfl (.inl rfl) (pe_k c__law_size hr (by decide) (by rfl) (pa_cons (pv 1) pa_nil)))
 (C8.pss_cut (ps_set (i := 2) nd rfl (.inl rfl) (pe_ifExp (pt_cmpR op_lt (pv 2) pe_int (nomark _)) (pv 2) pe_int))
 (pss_cons (ps_set (i := 3) nd rfl (.inl rfl) (pe_k c__law_some hr (by decide) (by rfl) (pa_cons (pv 1) (pa_cons (pv 2) pa_nil))))
 (pss_cons (ps_set (i := 4) nd rfl (.inl rfl) (pe_tupleOf (by rfl) z_tuple (pe_k c__law_divisors hr (by decide) (by rfl) (pa_cons (pv 2) pa_nil))))
 (C8.pss_cut (ps_for PassesOwn.never rfl (pi_list (pe_lst (pa_cons (pv 3) (pa_cons (pv 4) (pa_cons (pe_slice sl_tupA (pv 4) (po_some pe_int) po_none) pa_nil))))) (pg_name (i := 5) nd rfl (.inl rfl))
 (pss_one (ps_if (pt_not (pt_val (pe_k c__law_is_told hr (by decide) (by rfl) (pa_cons (pv 1) (pa_cons (pv 2) (pa_cons (pv 5) pa_nil))))))
 (pss_one (ps_ret pe_bl))
 pss_nil)))
 (pss_cons (ps_set (i := 6) nd rfl (.inr rfl) (pe_k c__law_cycles hr (by decide) (by rfl) (pa_cons (pv 2) pa_nil)))
 (pss_one (ps_ret (pe_k c__law_are_refused hr (by decide) (by rfl) (pa_cons (pv 2) (pa_cons (pv 3) (pa_cons (pe_op op_sub (pv 2) (pe_callB (cr_sum rfl) (by rfl) z_sum (by decide +kernel) (pa_cons (pe_lc (own := [("_law_late", 5)]) rfl nd (pi_tup (pv 3)) (blkOk_by (N := N_law) (sc := defScope s_law) (by decide +kernel)) (fun _ _ _ _ _ => pg_name (i := 5) nd rfl (Or.inl rfl)) (fun _ _ _ _ _ => pts_nil) (fun _ _ _ _ _ => (pe_op op_sub (pe_callB (r := rLenS K) call_len_seq (by rfl) z_len PySem.boot_len (pa_cons (pe_dget hu (pv 6) (pv 5) (fun _ _ => rfl)) pa_nil)) pe_int))) pa_nil))) pa_nil))))))))))))))), ?_⟩
    refine ⟨_, rfl, a0, ns0, rfl, ha, hz, fun d c cells H1 F1 s1 => ?_⟩
    have tb1 := tb.ext s1
    refine ⟨fun σ H' => σ = [some (.ref a0), some (.ref d), none, none, none, none, none] ∧ FeedAt H' d c cells 41 ∧ Tabs (LT P0) H', ?_, ?_⟩
    · refine ⟨_, rfl, d, c, cells, 0, rfl, F1, by decide, fun H2 F2 k2 => ⟨true, rfl, iteF ⟨rfl, F2, tabs_kp F1 k2 tb1⟩⟩⟩
    rintro σ H2 ⟨rfl, F2, tb2⟩
    refine ⟨fun σ H' => σ = [some (.ref a0), some (.ref d), none, none, none, none, none] ∧ FeedAt H' d c cells 149 ∧ Tabs (LT P0) H', ?_, ?_⟩
    · skip
      refine ⟨_, rfl, (by show 2 ≤ sizeLine; decide), fun p hp => ?_⟩
      have sp := same_new (o := .tup [V.int 2, .int 6]) hp
      have ep : (upd H2 p (.tup [V.int 2, .int 6])) p = some (.tup (nV [2, 6])) := upd_same
      generalize upd H2 p (.tup [V.int 2, .int 6]) = H3a at sp ep ⊢
      refine ⟨d, c, p, cells, 41, 6, [2, 6], rfl, F2.same sp, by omega, by decide, by decide, (by unfold SubL; decide), ep, fun H3 F3 kH3 => ⟨true, rfl, iteF ?_⟩⟩
      replace kH3 := sp.kp.trans kH3
      refine ⟨_, rfl, (by show 1 ≤ sizeLine; decide), fun p hp => ?_⟩
      have sp := same_new (o := .tup [V.int 1]) hp
      have ep : (upd H3 p (.tup [V.int 1])) p = some (.tup (nV [1])) := upd_same
      generalize upd H3 p (.tup [V.int 1]) = H4a at sp ep ⊢
      refine ⟨d, c, p, cells, 77, 1, [1], rfl, F3.same sp, by omega, by decide, by decide, (by unfold SubL; decide), ep, fun H4 F4 kH4 => ⟨true, rfl, iteF ?_⟩⟩
      replace kH4 := sp.kp.trans kH4
      refine ⟨_, rfl, (by show 0 ≤ sizeLine; decide), fun p hp => ?_⟩
      have sp := same_new (o := .tup []) hp
      have ep : (upd H4 p (.tup [])) p = some (.tup (nV [])) := upd_same
      generalize upd H4 p (.tup []) = H5a at sp ep ⊢
      refine ⟨d, c, p, cells, 113, 12, [], rfl, F4.same sp, by omega, by decide, by decide, List.nil_sublist _, ep, fun H5 F5 kH5 => ⟨true, rfl, iteF ?_⟩⟩
      replace kH5 := sp.kp.trans kH5
      exact ⟨rfl, F5, tabs_kp F4 kH5 (tabs_kp F3 kH4 (tabs_kp F2 kH3 tb2))⟩
    rintro σ H3 ⟨rfl, F3, tb3⟩
    refine ⟨_, rfl, d, c, cells, 149, rfl, F3, by decide, fun n H4 hn F4 k4 => ?_⟩
    have tb4 := tabs_kp F3 k4 tb3
    refine ⟨fun σ H' => ∃ n : Nat, σ = [some (.ref a0), some (.ref d), some (.int (n : Nat)), none, none, none, none] ∧ 1 ≤ n ∧ n ≤ 36 ∧ H' = H4, ?_, ?_⟩
    · refine ⟨_, rfl, _, _, rfl, rfl, _, rfl, ite2 (fun c => ?_) (fun c => ?_)⟩
      · exact ⟨_, rfl, n, rfl, by revert n; unfold okSize; decide, by revert n; unfold okSize; decide, rfl⟩
      · exact ⟨12, rfl, by decide, by decide, rfl⟩
    clear hn
    rintro σ H5 ⟨n, rfl, n1, n2, e5⟩
    obtain rfl := e5.symm
    refine ⟨_, rfl, _, rfl, d, c, cells, _, n, rfl, F4, by decide, n1, n2, fun ss p3 H6 hs F6 k6 e6 => ?_⟩
    have tb6 := tabs_kp F4 k6 tb4
    refine ⟨_, rfl, n, rfl, n1, by omega, fun a7 H7 s7 e7 => ?_⟩
    refine .inl ⟨a7, _, rfl, .inl (.inl e7), fun p4 hp4 => ?_⟩
    have s8 := same_new (o := .tup (nV (dvs n))) hp4
    have e8 : (upd H7 p4 (.tup (nV (dvs n)))) p4 = some (.tup (nV (dvs n))) := upd_same
    generalize upd H7 p4 (.tup (nV (dvs n))) = H8 at s8 e8 ⊢
    have sA := s7.trans s8
    refine ⟨fun σ H' => ∃ y5 : Option V, σ = [some (.ref a0), some (.ref d), some (.int (n : Nat)), some (.ref p3), some (.ref p4), y5, none] ∧ Kp d H8 H' ∧ Tabs (LT P0) H', ?_, ?_⟩
    · refine ⟨_, rfl, _, rfl, _, rfl, _, rfl, ?_⟩
      have cut : cutV (nV (dvs n)) (some 1) none = nV ((dvs n).drop 1) := by
        unfold cutV nV
        rw [show (1 : Int) = ((1 : Nat) : Int) from rfl, HT.sIx_nat, HT.sIx_none, List.map_drop]
        rcases Nat.eq_zero_or_pos ((dvs n).map fun p : Nat => V.int (p : Int)).length with z | z
        · rw [List.eq_nil_of_length_eq_zero z]
          rfl
        · rw [show min 1 ((dvs n).map fun p : Nat => V.int (p : Int)).length = 1 by omega]
          exact List.take_of_length_le (by rw [List.length_drop]; exact Nat.le_refl _)
      refine ⟨p4, _, rfl, .inl (.inl e8), fun c1 => ?_, fun c1 p5 hp5 => ?_⟩
      · have s9 : Same H8 H8 := Same.refl _
        have e9 : H8 p4 = some (.tup (nV ((dvs n).drop 1))) := by
          have z := c1.1
          rw [show (1 : Int) = ((1 : Nat) : Int) from rfl, HT.sIx_nat, nV_len] at z
          have z2 : dvs n = [] := List.eq_nil_of_length_eq_zero (by omega)
          rw [z2] at e8 ⊢
          exact e8
        refine ⟨(by show 3 ≤ sizeLine; decide), fun L hL => ?_⟩
        have sL := same_new (o := .lst [V.ref p3, .ref p4, .ref p4]) hL
        have eL : (upd H8 L (.lst [V.ref p3, .ref p4, .ref p4])) L = some (.lst [V.ref p3, .ref p4, .ref p4]) := upd_same
        generalize upd H8 L (.lst [V.ref p3, .ref p4, .ref p4]) = H10 at sL eL ⊢
        have FL := F6.same (sA.trans (s9.trans sL))
        have tbL := tb6.ext (sA.trans (s9.trans sL))
        have three : ∀ x ∈ [V.ref p3, .ref p4, .ref p4], ∃ (r : Addr) (us : List Nat), x = .ref r ∧ SubL n us ∧ H10 r = some (.tup (nV us)) := by
          intro x hx
          simp only [List.mem_cons, List.not_mem_nil, or_false] at hx
          rcases hx with rfl | rfl | rfl
          · exact ⟨p3, ss, rfl, hs, sL _ _ (s9 _ _ (sA _ _ e6))⟩
          · exact ⟨p4, dvs n, rfl, List.Sublist.refl _, sL _ _ (s9 _ _ e8)⟩
          · exact ⟨p4, (dvs n).drop 1, rfl, List.drop_sublist _ _, sL _ _ e9⟩
        refine ⟨L, rfl, ⟨_, .inl (.inl eL)⟩, for_it (walk_list (xs := [V.ref p3, .ref p4, .ref p4])) (fun j σ H' => ∃ y5 : Option V, σ = [some (.ref a0), some (.ref d), some (.int (n : Nat)), some (.ref p3), some (.ref p4), y5, none] ∧ FeedAt H' d c cells (190 + 36 * j) ∧ Kp d H10 H' ∧ Tabs (LT P0) H')
          ⟨none, rfl, FL.mono (by omega), (Same.refl _).kp, tbL⟩ (fun j σ H' _ ⟨_, _, _, k, _⟩ => .inl (.inl (k _ _ (FL.neL eL) eL))) ?_ ?_⟩
        · rintro j x σ G G' hj ⟨y5, rfl, FG, kG, tG⟩ ⟨eH, hx⟩
          obtain rfl := eH.symm
          obtain ⟨r, us, rfl, hus, er⟩ := three x (List.mem_of_getElem? hx)
          have hj3 : j < 3 := hj
          refine ⟨_, rfl, _, rfl, _, rfl, d, c, r, cells, 190 + 36 * j, n, us, rfl, FG, by omega, n1, n2, hus, kG _ _ (FL.neT er) er, fun G2 F2 k2 => ⟨true, rfl, iteF ?_⟩⟩
          exact ⟨_, rfl, F2.mono (by omega), kG.trans k2, tabs_kp FG k2 tG⟩
        · rintro σ G ⟨y5, rfl, FG, kG, tG⟩
          exact ⟨_, rfl, (s9.trans sL).kp.trans kG, tG⟩
      · have s9 := same_new (o := .tup (cutV (nV (dvs n)) (some 1) none)) hp5
        have e9 : (upd H8 p5 (.tup (cutV (nV (dvs n)) (some 1) none))) p5 = some (.tup (nV ((dvs n).drop 1))) := by rw [upd_same, cut]
        generalize upd H8 p5 (.tup (cutV (nV (dvs n)) (some 1) none)) = H9 at s9 e9 ⊢
        refine ⟨(by show 3 ≤ sizeLine; decide), fun L hL => ?_⟩
        have sL := same_new (o := .lst [V.ref p3, .ref p4, .ref p5]) hL
        have eL : (upd H9 L (.lst [V.ref p3, .ref p4, .ref p5])) L = some (.lst [V.ref p3, .ref p4, .ref p5]) := upd_same
        generalize upd H9 L (.lst [V.ref p3, .ref p4, .ref p5]) = H10 at sL eL ⊢
        have FL := F6.same (sA.trans (s9.trans sL))
        have tbL := tb6.ext (sA.trans (s9.trans sL))
        have three : ∀ x ∈ [V.ref p3, .ref p4, .ref p5], ∃ (r : Addr) (us : List Nat), x = .ref r ∧ SubL n us ∧ H10 r = some (.tup (nV us)) := by
          intro x hx
          simp only [List.mem_cons, List.not_mem_nil, or_false] at hx
          rcases hx with rfl | rfl | rfl
          · exact ⟨p3, ss, rfl, hs, sL _ _ (s9 _ _ (sA _ _ e6))⟩
          · exact ⟨p4, dvs n, rfl, List.Sublist.refl _, sL _ _ (s9 _ _ e8)⟩
          · exact ⟨p5, (dvs n).drop 1, rfl, List.drop_sublist _ _, sL _ _ e9⟩
        refine ⟨L, rfl, ⟨_, .inl (.inl eL)⟩, for_it (walk_list (xs := [V.ref p3, .ref p4, .ref p5])) (fun j σ H' => ∃ y5 : Option V, σ = [some (.ref a0), some (.ref d), some (.int (n : Nat)), some (.ref p3), some (.ref p4), y5, none] ∧ FeedAt H' d c cells (190 + 36 * j) ∧ Kp d H10 H' ∧ Tabs (LT P0) H')
          ⟨none, rfl, FL.mono (by omega), (Same.refl _).kp, tbL⟩ (fun j σ H' _ ⟨_, _, _, k, _⟩ => .inl (.inl (k _ _ (FL.neL eL) eL))) ?_ ?_⟩
        · rintro j x σ G G' hj ⟨y5, rfl, FG, kG, tG⟩ ⟨eH, hx⟩
          obtain rfl := eH.symm
          obtain ⟨r, us, rfl, hus, er⟩ := three x (List.mem_of_getElem? hx)
          have hj3 : j < 3 := hj
          refine ⟨_, rfl, _, rfl, _, rfl, d, c, r, cells, 190 + 36 * j, n, us, rfl, FG, by omega, n1, n2, hus, kG _ _ (FL.neT er) er, fun G2 F2 k2 => ⟨true, rfl, iteF ?_⟩⟩
          exact ⟨_, rfl, F2.mono (by omega), kG.trans k2, tabs_kp FG k2 tG⟩
        · rintro σ G ⟨y5, rfl, FG, kG, tG⟩
          exact ⟨_, rfl, (s9.trans sL).kp.trans kG, tG⟩
    rintro σ H9 ⟨y5, rfl, k9, tb9⟩
    have F8 := F6.same sA
    have ep := k9 _ _ (F8.neT (sA _ _ e6)) (sA _ _ e6)
    refine ⟨_, rfl, n, rfl, n1, n2, fun D kv H10 s10 CY hkv => ?_⟩
    have pw := kv_pw hkv
    have hb : SqT K H10 p3 (nV ss) := .inl (.inl (s10 _ _ ep))
    have CYG := CY
    refine ⟨_, rfl, _, rfl, _, rfl, _, rfl, p3, rfl, ⟨_, hb⟩, fun R hR => lc_it (walk_tup (xs := nV ss)) (fun i H' => Same H10 H' ∧ H' R = some (.lst (((ss.take i).map fun d => (((cz d).length - 1 : Nat) : Int)).map V.int))) ⟨same_new hR, upd_same⟩ (fun i H' _ z => Same.sqT z.1 hb) ?_ ?_⟩
    · rintro i x J J' hi ⟨sJ, eJ⟩ ⟨eH, hx⟩
      obtain rfl := eH.symm
      rw [nV_len] at hi
      obtain ⟨e, he, rfl⟩ := nV_get hx
      obtain ⟨d1, d2, d3⟩ := sub_mem hs (List.mem_of_getElem? he)
      obtain ⟨pa, pm⟩ := kv_mem hkv d3
      have CYJ := CYG.same sJ
      have l9 := sub_len hs n1 n2
      have mo := (cz_ok d1 (by omega)).1.len
      refine ⟨rfl, _, rfl, _, rfl, D, _, rfl, CyAt.lget (.inl CYJ.dict) pw pm, pa, _, rfl, .inl (.inl (.inl (CYJ.at_ _ pm))), _, _, rfl, rfl, ?_⟩
      refine ⟨_, eJ, ?_, same_own sJ hR, ?_⟩
      · rw [List.length_map, List.length_map, List.length_take]
        exact small1000 (by omega)
      · rw [upd_same, List.take_succ, he, List.map_append, List.map_append]
        show some (HO.lst (_ ++ [V.int (((((cz e).map V.int).length : Nat) : Int) - 1)])) = some (HO.lst (_ ++ [V.int (((cz e).length - 1 : Nat) : Int)]))
        rw [List.length_map]
        congr 5
        omega
    rintro J ⟨sJ, eJ⟩
    rw [nV_len, List.take_length] at eJ
    refine ⟨R, _, rfl, .inl (.inl eJ), _, _, rfl, rfl, ?_⟩
    rw [dg_sum]
    dsimp only
    have dl : dgP ss ≤ n := by
      obtain ⟨ts, R2⟩ := Rest.of (n := n) hs
      have := R2.dg n1 n2
      omega
    rw [show ((n : Nat) : Int) - ((dgP ss : Nat) : Int) = ((n - dgP ss : Nat) : Int) by omega]
    exact ⟨n, p3, ss, rfl, n1, n2, hs, .inl (.inl (sJ _ _ (s10 _ _ ep))), tb9.ext (s10.trans sJ), q⟩
end
end K8

set_option Elab.async false
set_option linter.all false
set_option maxRecDepth 100000
namespace K8
open PySem PySem.Spec PyProof.Rows L2 Gd Pv RZ Po Nm
open LamX
section
variable {w : World} {K : PySem.W.Frag} {h : Heap} {mg : Str → Option Value}
theorem at1 {x a1 : String} {st : Stmt} {f : Addr} {od an : Option Addr} {sl : Array (Option Value)} {oc kV dc pm cd ct : Value} (X : K.In h) (G : h.Ns mainGlobals mg)
    (a : PySem.W.nsIn K mainGlobals x = some (some (.ref f))) (l : K.lookup f = some ⟨oc, od, .func (PySem.W.fnOf x x (defArgs st) (defBody st) (defScope st) .none kV dc pm an cd ct), sl⟩) (c : PySem.W.codeIn K cd x = true) (k : PySem.W.keepIn K (.ref f) = true)
    (hb : ∀ (kV doc pm : Value) (an : Option Addr) (cdv ct u : Value), bindArgs (PySem.W.fnOf x x (defArgs st) (defBody st) (defScope st) .none kV doc pm an cdv ct) ⟨[u], []⟩ = pure [((a1 : Str), u)]) : At K mg x st [(a1 : Str)] :=
  ⟨f, _, PySem.W.mg_of X G a, fun_mk l c k, (fun_mk l c k).binds fun kV doc pm an cdv ct us hl => match us, hl with | [u], _ => hb kV doc pm an cdv ct u⟩
theorem at2 {x a1 a2 : String} {st : Stmt} {f : Addr} {od an : Option Addr} {sl : Array (Option Value)} {oc kV dc pm cd ct : Value} (X : K.In h) (G : h.Ns mainGlobals mg)
    (a : PySem.W.nsIn K mainGlobals x = some (some (.ref f))) (l : K.lookup f = some ⟨oc, od, .func (PySem.W.fnOf x x (defArgs st) (defBody st) (defScope st) .none kV dc pm an cd ct), sl⟩) (c : PySem.W.codeIn K cd x = true) (k : PySem.W.keepIn K (.ref f) = true)
    (hb : ∀ (kV doc pm : Value) (an : Option Addr) (cdv ct u v : Value), bindArgs (PySem.W.fnOf x x (defArgs st) (defBody st) (defScope st) .none kV doc pm an cdv ct) ⟨[u, v], []⟩ = pure [((a1 : Str), u), ((a2 : Str), v)]) : At K mg x st [(a1 : Str), (a2 : Str)] :=
  ⟨f, _, PySem.W.mg_of X G a, fun_mk l c k, (fun_mk l c k).binds fun kV doc pm an cdv ct us hl => match us, hl with | [u, v], _ => hb kV doc pm an cdv ct u v⟩
theorem at3 {x a1 a2 a3 : String} {st : Stmt} {f : Addr} {od an : Option Addr} {sl : Array (Option Value)} {oc kV dc pm cd ct : Value} (X : K.In h) (G : h.Ns mainGlobals mg)
    (a : PySem.W.nsIn K mainGlobals x = some (some (.ref f))) (l : K.lookup f = some ⟨oc, od, .func (PySem.W.fnOf x x (defArgs st) (defBody st) (defScope st) .none kV dc pm an cd ct), sl⟩) (c : PySem.W.codeIn K cd x = true) (k : PySem.W.keepIn K (.ref f) = true)
    (hb : ∀ (kV doc pm : Value) (an : Option Addr) (cdv ct u v z : Value), bindArgs (PySem.W.fnOf x x (defArgs st) (defBody st) (defScope st) .none kV doc pm an cdv ct) ⟨[u, v, z], []⟩ = pure [((a1 : Str), u), ((a2 : Str), v), ((a3 : Str), z)]) : At K mg x st [(a1 : Str), (a2 : Str), (a3 : Str)] :=
  ⟨f, _, PySem.W.mg_of X G a, fun_mk l c k, (fun_mk l c k).binds fun kV doc pm an cdv ct us hl => match us, hl with | [u, v, z], _ => hb kV doc pm an cdv ct u v z⟩
theorem atS {x pv : String} {st : Stmt} {f : Addr} {od an : Option Addr} {sl : Array (Option Value)} {oc kV dc pm cd ct : Value} (X : K.In h) (G : h.Ns mainGlobals mg)
    (a : PySem.W.nsIn K mainGlobals x = some (some (.ref f))) (l : K.lookup f = some ⟨oc, od, .func (PySem.W.fnOf x x (defArgs st) (defBody st) (defScope st) .none kV dc pm an cd ct), sl⟩) (c : PySem.W.codeIn K cd x = true) (k : PySem.W.keepIn K (.ref f) = true)
    (hb : ∀ (kV doc pm : Value) (an : Option Addr) (cdv ct : Value), bindArgs (PySem.W.fnOf x x (defArgs st) (defBody st) (defScope st) .none kV doc pm an cdv ct) ⟨[], []⟩ = (newTuple [] >>= fun t => pure [((pv : Str), t)]))
    (hb' : ∀ (kV doc pm : Value) (an : Option Addr) (cdv ct u : Value) (us : List Value), bindArgs (PySem.W.fnOf x x (defArgs st) (defBody st) (defScope st) .none kV doc pm an cdv ct) ⟨u :: us, []⟩ = (newTuple (u :: us) >>= fun t => pure [((pv : Str), t)])) : AtS K mg x st pv :=
  ⟨f, _, PySem.W.mg_of X G a, fun_mk l c k, fun rest => match rest with
    | [] => hb kV dc pm an cd ct
    | u :: us => hb' kV dc pm an cd ct u us⟩
variable {P : Program}
theorem all_mk {fa C BE IP PE VE c P0 : Addr} (hfa : mg "law" = some (.ref fa)) (D__law_feed : At K mg "_law_feed" s__law_feed ["_law_script"]) (z_list : mg "list" = none) (D__law_is_wide : At K mg "_law_is_wide" s__law_is_wide ["_law_feed_here"]) (D__law_any : At K mg "_law_any" s__law_any ["_law_feed_here", "_law_some_here"]) (D__law_pick : At K mg "_law_pick" s__law_pick ["_law_feed_here", "_law_limit"]) (z_int : mg "int" = none) (z_len : mg "len" = none) (D__law_cycles : At K mg "_law_cycles" s__law_cycles ["_law_size_here"]) (D__law_divisors : At K mg "_law_divisors" s__law_divisors ["_law_size_here"]) (z_range : mg "range" = none) (D__law_divided : At K mg "_law_divided" s__law_divided ["_law_one", "_law_late"]) (D__law_some : At K mg "_law_some" s__law_some ["_law_feed_here", "_law_size_here"]) (z_tuple : mg "tuple" = none) (D_silent_voice : At K mg "silent_voice" s_silent_voice ["size", "divisors"]) (D_need_divisors : At K mg "need_divisors" s_need_divisors ["size", "divisors"]) (D_need : At K mg "need" s_need ["fits", "word"]) (D_is_size : At K mg "is_size" s_is_size ["thing"]) (D_is_integer : At K mg "is_integer" s_is_integer ["thing"]) (z_isinstance : mg "isinstance" = none) (z_bool : mg "bool" = none) (D_is_divisor_set : At K mg "is_divisor_set" s_is_divisor_set ["number", "thing"]) (D_is_integer_set : At K mg "is_integer_set" s_is_integer_set ["thing"]) (D_are_integers : At K mg "are_integers" s_are_integers ["thing"]) (z_all : mg "all" = none) (z_zip : mg "zip" = none) (D_is_divisor : At K mg "is_divisor" s_is_divisor ["number", "thing"]) (D_factor_of : At K mg "factor_of" s_factor_of ["divisors"]) (D_times : At K mg "times" s_times ["one", "other"]) (D_is_polynomial : At K mg "is_polynomial" s_is_polynomial ["thing"]) (D_trimmed : At K mg "trimmed" s_trimmed ["weights"]) (z_enumerate : mg "enumerate" = none) (D_cyclotomic : At K mg "cyclotomic" s_cyclotomic ["number"]) (D_prime_parts : At K mg "prime_parts" s_prime_parts ["number"]) (D_least_prime : At K mg "least_prime" s_least_prime ["number"]) (D_widened : At K mg "widened" s_widened ["one", "step"]) (D_exact_by : At K mg "exact_by" s_exact_by ["one", "divisor"]) (D_is_monic : At K mg "is_monic" s_is_monic ["thing"]) (D_divided : At K mg "divided" s_divided ["one", "divisor"]) (z_reversed : mg "reversed" = none) (D_padded : At K mg "padded" s_padded ["one", "many"]) (D__law_same : At K mg "_law_same" s__law_same ["_law_due", "_law_told"]) (z_str : mg "str" = none) (D_silent_rank : At K mg "silent_rank" s_silent_rank ["size", "divisors"]) (D_totient_of : At K mg "totient_of" s_totient_of ["number"]) (D_need_number : At K mg "need_number" s_need_number ["number"]) (m_MOST_FACTORED : mg "MOST_FACTORED" = some (.int 10000 tm)) (z_sum : mg "sum" = none) (D__law_is_silent : At K mg "_law_is_silent" s__law_is_silent ["_law_voice", "_law_size_here", "_law_cycles_here", "_law_some_here"]) (D__law_cut : At K mg "_law_cut" s__law_cut ["_law_numbers"]) (D__law_silences : At K mg "_law_silences" s__law_silences ["_law_voice", "_law_cycles_here"]) (D__law_is_told : At K mg "_law_is_told" s__law_is_told ["_law_feed_here", "_law_size_here", "_law_some_here"]) (D_silent_basis : At K mg "silent_basis" s_silent_basis ["size", "divisors"]) (D_rule_of : At K mg "rule_of" s_rule_of ["size", "divisors"]) (D_round_polynomial : At K mg "round_polynomial" s_round_polynomial ["size"]) (D_carried_on : At K mg "carried_on" s_carried_on ["size", "rule", "weights"]) (D_voice_of : At K mg "voice_of" s_voice_of ["size", "beats"]) (D_is_beats : At K mg "is_beats" s_is_beats ["size", "thing"]) (D_is_beat : At K mg "is_beat" s_is_beat ["size", "thing"]) (D_silent_from : At K mg "silent_from" s_silent_from ["size", "divisors", "weights"]) (D__law_size : At K mg "_law_size" s__law_size ["_law_feed_here"]) (D__law_are_refused : AtL K mg "_law_are_refused" s__law_are_refused ["_law_size_here", "_law_some_here", "_law_rank"] c) (D__law_heard : At K mg "_law_heard" s__law_heard ["_law_call"]) (HC : HeC K mg C BE IP PE VE) (T : Err2 K mg "NotUsable" "word" "at" C) (D_law : At K mg "law" s_law ["_law_script"]) :
    ∃ fd : FuncData, (∀ (s : Shared) (v : Value), BindsTo s fd ⟨[v], []⟩ [("_law_script", v)]) ∧ ∀ base : Heap, K.In base → base.Ns mainGlobals mg → TabB base mg c P0 → FnOk P w K mg base CX0 11 fa fd ["_law_script"] (spLawT K P0) := by
  obtain ⟨f, fd, hm, F, _⟩ := D_law.ex
  cases hfa.symm.trans hm
  refine ⟨fd, ?_, fun base _ _ TB => ?_⟩
  · obtain ⟨oc, od, kV, doc, pm, an, cdv, ct, osl, rfl, lk, hcd⟩ := F.ex
    exact fun s v => .of_eq rfl
  have h__law_feed : Cal P w K mg base 1 "_law_feed" (spFeed K) := K8.c__law_feed (P := P) (w := w) (base := base) D__law_feed z_list
  have h__law_pick : Cal P w K mg base 1 "_law_pick" spDraw := K8.c__law_pick (P := P) (w := w) (base := base) D__law_pick z_int z_len
  have h__law_any : Cal P w K mg base 2 "_law_any" spAny := K8.c__law_any (P := P) (w := w) (base := base) D__law_any h__law_pick z_len
  have h__law_divisors : Cal P w K mg base 1 "_law_divisors" spDvsL := K8.c__law_divisors (P := P) (w := w) (base := base) D__law_divisors z_int z_range
  have h__law_divided : Cal P w K mg base 1 "_law_divided" (spDivL K) := K8.c__law_divided (P := P) (w := w) (base := base) D__law_divided z_len z_list z_range
  have h__law_cycles : Cal P w K mg base 2 "_law_cycles" spCycles := K8.c__law_cycles (P := P) (w := w) (base := base) D__law_cycles h__law_divisors h__law_divided z_int
  have h__law_some : Cal P w K mg base 2 "_law_some" spSome := K8.c__law_some (P := P) (w := w) (base := base) D__law_some h__law_pick h__law_divisors z_tuple
  have h_need : Cal P w K mg base 1 "need" spNeed := K8.c_need (P := P) (w := w) (base := base) D_need
  have h_is_integerD : Cal P w K mg base 1 "is_integer" (spIsIntD K) := K8.c_is_integerD (P := P) (w := w) (base := base) D_is_integer z_isinstance z_int z_bool
  have h_is_sizeD : Cal P w K mg base 2 "is_size" (spIsSizeD K) := K8.c_is_sizeD (P := P) (w := w) (base := base) D_is_size h_is_integerD
  have h_are_integersD : Cal P w K mg base 2 "are_integers" (spAreIntsD K) := K8.c_are_integersD (P := P) (w := w) (base := base) D_are_integers h_is_integerD z_isinstance z_tuple z_all
  have h_is_integer_setD : Cal P w K mg base 3 "is_integer_set" (spSetD K) := K8.c_is_integer_setD (P := P) (w := w) (base := base) D_is_integer_set h_are_integersD z_all z_zip
  have h_is_divisorD : Cal P w K mg base 3 "is_divisor" (spDivD K) := K8.c_is_divisorD (P := P) (w := w) (base := base) D_is_divisor h_is_sizeD
  have h_is_divisor_setD : Cal P w K mg base 4 "is_divisor_set" (spDsetD K) := K8.c_is_divisor_setD (P := P) (w := w) (base := base) D_is_divisor_set h_is_integer_setD h_is_divisorD z_all
  have h_need_divisorsOO : Cal P w K mg base 5 "need_divisors" (spNeedDO K) := K8.c_need_divisorsO (P := P) (w := w) (base := base) D_need_divisors h_need h_is_sizeD h_is_divisor_setD
  have h_is_integer : Cal P w K mg base 1 "is_integer" spIsInt := K8.c_is_integer (P := P) (w := w) (base := base) D_is_integer z_isinstance z_int z_bool
  have h_are_integers : Cal P w K mg base 2 "are_integers" (spAreInts K) := K8.c_are_integers (P := P) (w := w) (base := base) D_are_integers h_is_integer z_isinstance z_tuple z_all
  have h_is_polynomial : Cal P w K mg base 3 "is_polynomial" spIsPoly := K8.c_is_polynomial (P := P) (w := w) (base := base) D_is_polynomial h_are_integers
  have h_trimmedL : Cal P w K mg base 1 "trimmed" spTrimL := K8.c_trimmedL (P := P) (w := w) (base := base) D_trimmed z_len z_tuple
  have h_times : Cal P w K mg base 4 "times" spTimes := K8.c_times (P := P) (w := w) (base := base) D_times h_need h_is_polynomial h_trimmedL z_len z_range z_enumerate
  have h_is_size : Cal P w K mg base 2 "is_size" spIsSize := K8.c_is_size (P := P) (w := w) (base := base) D_is_size h_is_integer
  have h_least_prime : Cal P w K mg base 1 "least_prime" spLeast := K8.c_least_prime (P := P) (w := w) (base := base) D_least_prime
  have h_prime_parts : Cal P w K mg base 2 "prime_parts" spParts := K8.c_prime_parts (P := P) (w := w) (base := base) D_prime_parts h_least_prime z_tuple
  have h_widened : Cal P w K mg base 1 "widened" spWid := K8.c_widened (P := P) (w := w) (base := base) D_widened z_len z_range z_enumerate z_tuple
  have h_is_monic : Cal P w K mg base 3 "is_monic" spIsMonic := K8.c_is_monic (P := P) (w := w) (base := base) D_is_monic h_are_integers
  have h_divided : Cal P w K mg base 2 "divided" spDiv := K8.c_divided (P := P) (w := w) (base := base) D_divided h_trimmedL z_len z_list z_range z_reversed
  have h_exact_by : Cal P w K mg base 4 "exact_by" spExact := K8.c_exact_by (P := P) (w := w) (base := base) D_exact_by h_need h_is_polynomial h_is_monic h_divided
  have h_cyclotomic : Cal P w K mg base 5 "cyclotomic" spCyc := K8.c_cyclotomic (P := P) (w := w) (base := base) D_cyclotomic h_need h_is_size h_prime_parts h_widened h_exact_by
  have h_factor_of : Cal P w K mg base 6 "factor_of" (spFac K) := K8.c_factor_of (P := P) (w := w) (base := base) D_factor_of h_times h_cyclotomic
  have h_padded : Cal P w K mg base 1 "padded" spPad := K8.c_padded (P := P) (w := w) (base := base) D_padded z_len
  have h_silent_voice : Cal P w K mg base 7 "silent_voice" (spSilV K) := K8.c_silent_voice (P := P) (w := w) (base := base) D_silent_voice h_need_divisorsOO h_factor_of h_padded z_len
  have h_same0 : Cal P w K mg base 1 "_law_same" (spSameR K 0) := K8.c__law_same (P := P) (w := w) (base := base) D__law_same z_isinstance z_tuple z_list z_str z_bool z_int z_len z_range 0
  have h_need_number : Cal P w K mg base 3 "need_number" spNum := K8.c_need_number (P := P) (w := w) (base := base) D_need_number h_need h_is_size m_MOST_FACTORED
  have h_totient_of : Cal P w K mg base 4 "totient_of" spTot := K8.c_totient_of (P := P) (w := w) (base := base) D_totient_of h_need_number h_prime_parts
  have h_silent_rank : Cal P w K mg base 6 "silent_rank" (spRank K) := K8.c_silent_rank (P := P) (w := w) (base := base) D_silent_rank h_need_divisorsOO h_totient_of z_sum
  have h__law_cut : Cal P w K mg base 1 "_law_cut" spTrimL := K8.c__law_cut (P := P) (w := w) (base := base) D__law_cut z_len z_range z_tuple
  have h__law_is_silent : Cal P w K mg base 2 "_law_is_silent" (spIsSil K) := K8.c__law_is_silent (P := P) (w := w) (base := base) D__law_is_silent h__law_divided h__law_cut z_isinstance z_tuple z_bool z_int z_list z_len
  have h__law_silences : Cal P w K mg base 2 "_law_silences" spSil := K8.c__law_silences (P := P) (w := w) (base := base) D__law_silences h__law_divided h__law_cut z_list z_tuple
  have h__law_is_wide : Cal P w K mg base 8 "_law_is_wide" spWide := K8.c__law_is_wide (P := P) (w := w) (base := base) D__law_is_wide h__law_any h__law_cycles h__law_some h_silent_voice h_same0 h_silent_rank h__law_is_silent h__law_silences z_tuple z_sum z_len
  have h_round_polynomial : Cal P w K mg base 1 "round_polynomial" spRoundP := K8.c_round_polynomial (P := P) (w := w) (base := base) D_round_polynomial
  have h_rule_of : Cal P w K mg base 7 "rule_of" (spRule K) := K8.c_rule_of (P := P) (w := w) (base := base) D_rule_of h_exact_by h_round_polynomial h_factor_of
  have h_carried_on : Cal P w K mg base 1 "carried_on" (spCar K) := K8.c_carried_on (P := P) (w := w) (base := base) D_carried_on z_len z_list z_range z_sum z_tuple
  have h_is_integer_set : Cal P w K mg base 3 "is_integer_set" spIntSet := K8.c_is_integer_set (P := P) (w := w) (base := base) D_is_integer_set h_are_integers z_all z_zip
  have h_is_beat : Cal P w K mg base 2 "is_beat" spIsBeat := K8.c_is_beat (P := P) (w := w) (base := base) D_is_beat h_is_integer
  have h_is_beats : Cal P w K mg base 4 "is_beats" spIsBeats := K8.c_is_beats (P := P) (w := w) (base := base) D_is_beats h_is_size h_is_integer_set h_is_beat z_all
  have h_voice_of : Cal P w K mg base 5 "voice_of" spVoiceOf := K8.c_voice_of (P := P) (w := w) (base := base) D_voice_of h_need h_is_size h_is_beats z_range z_tuple
  have h_silent_basis : Cal P w K mg base 8 "silent_basis" (spBasis K) := K8.c_silent_basis (P := P) (w := w) (base := base) D_silent_basis h_silent_rank h_rule_of h_carried_on h_voice_of z_range z_tuple
  have h_silent_from : Cal P w K mg base 8 "silent_from" (spFrom K) := K8.c_silent_from (P := P) (w := w) (base := base) D_silent_from h_silent_rank h_need h_are_integersD h_rule_of h_carried_on z_len
  have h__law_is_told : Cal P w K mg base 9 "_law_is_told" spTold := K8.c__law_is_told (P := P) (w := w) (base := base) D__law_is_told h__law_pick h__law_cycles h_silent_basis h_silent_from h_silent_voice h_same0 h_silent_rank h__law_is_silent h__law_silences z_tuple z_sum z_len z_isinstance z_range z_int z_zip
  have h__law_size : Cal P w K mg base 3 "_law_size" spSizeL := K8.c__law_size (P := P) (w := w) (base := base) D__law_size h__law_any
  have h_needX : CalX P w K mg base 3 "need" (spNeedX C) := K8.c_needX (P := P) (w := w) (base := base) T D_need
  have h_need_divisorsX : CalX P w K mg base 5 "need_divisors" (spNeedDX C K) := K8.c_need_divisorsX (P := P) (w := w) (base := base) D_need_divisors h_needX h_need h_is_sizeD h_is_divisor_setD
  have h_silent_rankX : CalX P w K mg base 6 "silent_rank" (spNeedDX C K) := K8.c_silent_rankX (P := P) (w := w) (base := base) D_silent_rank h_need_divisorsX
  have h_silent_basisX : CalX P w K mg base 7 "silent_basis" (spNeedDX C K) := K8.c_silent_basisX (P := P) (w := w) (base := base) D_silent_basis h_silent_rankX
  have h_silent_voiceX : CalX P w K mg base 6 "silent_voice" (spNeedDX C K) := K8.c_silent_voiceX (P := P) (w := w) (base := base) D_silent_voice h_need_divisorsX
  have h_silent_fromX : CalX P w K mg base 7 "silent_from" (spFromX C K) := K8.c_silent_fromX (P := P) (w := w) (base := base) D_silent_from h_silent_rankX h_needX h_silent_rank h_are_integersD z_len
  have h_same2 : Cal P w K mg base 3 "_law_same" (spSameR K 2) := K8.c__law_same (P := P) (w := w) (base := base) D__law_same z_isinstance z_tuple z_list z_str z_bool z_int z_len z_range 2
  have h__law_are_refused : Cal P w K mg base 10 "_law_are_refused" (spRefused K P0) := K8.c__law_are_refused (P := P) (w := w) (base := base) D__law_are_refused D__law_heard HC TB h_silent_rankX h_silent_basisX h_silent_voiceX h_silent_fromX h_same2 z_isinstance
  exact ok_law F h__law_feed h__law_is_wide h__law_is_told h__law_size h__law_some h__law_divisors h__law_cycles h__law_are_refused z_tuple z_sum z_len
end
end K8

set_option Elab.async false
set_option linter.all false
set_option maxRecDepth 100000
namespace K8
open PySem PySem.Spec PyProof.Rows L2 Gd Pv RZ Po Nm LamX
section
variable {w : World} {K : PySem.W.Frag} {h : Heap} {mg : Str → Option Value}
theorem at4 {x a1 a2 a3 a4 : String} {st : Stmt} {f : Addr} {od an : Option Addr} {sl : Array (Option Value)} {oc kV dc pm cd ct : Value} (X : K.In h) (G : h.Ns mainGlobals mg)
    (a : PySem.W.nsIn K mainGlobals x = some (some (.ref f))) (l : K.lookup f = some ⟨oc, od, .func (PySem.W.fnOf x x (defArgs st) (defBody st) (defScope st) .none kV dc pm an cd ct), sl⟩) (c : PySem.W.codeIn K cd x = true) (k : PySem.W.keepIn K (.ref f) = true)
    (hb : ∀ (kV doc pm : Value) (an : Option Addr) (cdv ct u v z y : Value), bindArgs (PySem.W.fnOf x x (defArgs st) (defBody st) (defScope st) .none kV doc pm an cdv ct) ⟨[u, v, z, y], []⟩ = pure [((a1 : Str), u), ((a2 : Str), v), ((a3 : Str), z), ((a4 : Str), y)]) : At K mg x st [(a1 : Str), (a2 : Str), (a3 : Str), (a4 : Str)] :=
  ⟨f, _, PySem.W.mg_of X G a, fun_mk l c k, (fun_mk l c k).binds fun kV doc pm an cdv ct us hl => match us, hl with | [u, v, z, y], _ => hb kV doc pm an cdv ct u v z y⟩
theorem atL3 {x a1 a2 a3 : String} {st : Stmt} {f c : Addr} {od an : Option Addr} {sl : Array (Option Value)} {oc kV dc pm ct : Value} (X : K.In h) (G : h.Ns mainGlobals mg)
    (a : PySem.W.nsIn K mainGlobals x = some (some (.ref f))) (l : K.lookup f = some ⟨oc, od, .func (PySem.W.fnOf x x (defArgs st) (defBody st) (defScope st) .none kV dc pm an (.ref c) ct), sl⟩) (cd : PySem.W.codeIn K (.ref c) x = true) (k : PySem.W.keepIn K (.ref f) = true)
    (hb : ∀ (kV doc pm : Value) (an : Option Addr) (cdv ct u v z : Value), bindArgs (PySem.W.fnOf x x (defArgs st) (defBody st) (defScope st) .none kV doc pm an cdv ct) ⟨[u, v, z], []⟩ = pure [((a1 : Str), u), ((a2 : Str), v), ((a3 : Str), z)]) : AtL K mg x st [(a1 : Str), (a2 : Str), (a3 : Str)] c :=
  ⟨f, _, oc, od, kV, dc, pm, an, ct, sl, PySem.W.mg_of X G a, rfl, l, cd, k, (fun_mk l cd k).binds fun kV doc pm an cdv ct us hl => match us, hl with | [u, v, z], _ => hb kV doc pm an cdv ct u v z⟩
theorem oex_mk {C N : Addr} {nm q : Str} {bs bm : List Value} {sn : List Str} {sub : List Value} {ab : Bool} {col : Option Bool} {dd : Option Addr} {k0 k1 k2 k3 k5 : Option Value}
    (o1 : K.lookup C = some (excClassObj nm q C N bs bm true sn sub ab col dd k0 k1 k2 k3 k5 "ValueError.__new__")) (o2 : PySem.HandSPX.refsVE bm = true) (o3 : PySem.W.findIn K (.ref C) "__setattr__" = some (some (.builtin "object.__setattr__")))
    (o4 : PySem.W.subIn K (.ref C) (.type "BaseException") = some true) (o5 : PySem.W.typeIn K (.ref C) = some (.type "type")) (o6 : PySem.W.keepIn K (.ref C) = true) : OexC K C := ⟨⟨nm, q, N, bs, bm, sn, sub, ab, col, dd, k0, k1, k2, k3, k5, o1, o2⟩, o3, o4, o5, o6⟩
theorem xf_mk {C : Addr} (h1 : PySem.W.findIn K (.ref C) "__getattribute__" = some (some (.builtin "BaseException.__getattribute__"))) (h2 : PySem.W.findIn K (.ref C) "__getattr__" = some none) (h3 : PySem.W.subIn K (.ref C) (.type "BaseException") = some true) (h4 : PySem.W.hasDictIn K C = true) : XfC K C := ⟨h1, h2, h3, h4⟩
theorem err_mk {C fI : Addr} {od an : Option Addr} {sl : Array (Option Value)} {oc kV dc pm cd ct : Value} (X : K.In h) (G : h.Ns mainGlobals mg) (mC : PySem.W.nsIn K mainGlobals "NotUsable" = some (some (.ref C))) (o : OexC K C) (n1 : PySem.W.findIn K (.ref C) "word" = some none) (n2 : PySem.W.findIn K (.ref C) "at" = some none)
    (iC : PySem.W.findIn K (.ref C) "__init__" = some (some (.ref fI))) (tI : PySem.W.typeIn K (.ref fI) = some (.type "function"))
    (l : K.lookup fI = some ⟨oc, od, .func (PySem.W.fnOf "__init__" "NotUsable.__init__" (defArgs s_NotUsable_init) (defBody s_NotUsable_init) (defScope s_NotUsable_init) .none kV dc pm an cd ct), sl⟩) (c : PySem.W.codeIn K cd "NotUsable.__init__" = true) (k : PySem.W.keepIn K (.ref fI) = true) : Err2 K mg "NotUsable" "word" "at" C :=
  nu_err (PySem.W.mg_of X G mC) o n1 n2 iC tI (fun_mk l c k) ((fun_mk l c k).binds fun kV doc pm an cdv ct us hl => match us, hl with | [u, v, z], _ => rfl)
theorem law_at {l : PySem.W.OpenLaw} {fa c P0 : Addr} (hm : ∃ fd : FuncData, (∀ (s : Shared) (v : Value), BindsTo s fd ⟨[v], []⟩ [("_law_script", v)]) ∧ ∀ base : Heap, K.In base → base.Ns mainGlobals mg → TabB base mg c P0 → FnOk l.prog w K mg base CX0 11 fa fd ["_law_script"] (spLawT K P0))
    (hT : h.get? P0 = some (PySem.W.tabObj #[])) (nT : K.lookup P0 = none) (hc : PySem.W.CodeHd h c P0) : LawAtS l w K CX0 11 63 "_law_script" mg fa h := by
  obtain ⟨fd, hb, hF⟩ := hm
  refine ⟨fd, [(c, P0)], spLawT K P0, fun p hp => ?_, fun p hp => ?_, fun p hp => ?_, hb, fun H a ns hl _ ht hS => ⟨a, ns, rfl, hS, hl, fun p hp => ?_, fun _ => rfl⟩, fun base kb nb TB => hF base kb nb (TB (c, P0) (List.mem_singleton.mpr rfl))⟩
  · rw [List.mem_singleton.mp hp]
    exact hT
  · rw [List.mem_singleton.mp hp]
    exact nT
  · rw [List.mem_singleton.mp hp]
    exact hc
  · rw [List.mem_singleton.mp hp]
    exact TabS.nil (ht (c, P0) (List.mem_singleton.mpr rfl))
end
end K8

set_option Elab.async false
set_option linter.all false
open PySem PySem.W PyProof.Rows
set_option maxRecDepth 100000 in
set_option maxHeartbeats 0 in
theorem PySem.Challenge.cw_silentbeats_k08_whole_silent_at_told_div_holds : PySem.Challenge.rw_silentbeats_k08_whole_silent_at_told_div.Holds := by
  w_on; o_law; k_head; (case hw => w_witness2)
  k_fill
  refine LamX.walk_ofTs (l := PySem.Challenge.rw_silentbeats_k08_whole_silent_at_told_div) (n := 63) (k := 11) (x := "_law_script") (CX := fun _ => L2.CX0) rfl (by decide) rfl ⟨rfl, by decide, by decide⟩ (fun w h Y => PySem.W.km_in_of Y) ?F (fun _ _ _ _ _ h => h)
  case F =>
    intro w mg fa h Y KX G hmg
    refine' K8.law_at (K8.all_mk hmg (K8.at1 (x := "_law_feed") (st := K8.s__law_feed) KX G ?a1 ?l1 ?c1 ?k1 (fun _ _ _ _ _ _ _ => rfl)) (PySem.W.mg_none_of KX G ?z2) (K8.at1 (x := "_law_is_wide") (st := K8.s__law_is_wide) KX G ?a3 ?l3 ?c3 ?k3 (fun _ _ _ _ _ _ _ => rfl)) (K8.at2 (x := "_law_any") (st := K8.s__law_any) KX G ?a4 ?l4 ?c4 ?k4 (fun _ _ _ _ _ _ _ _ => rfl)) (K8.at2 (x := "_law_pick") (st := K8.s__law_pick) KX G ?a5 ?l5 ?c5 ?k5 (fun _ _ _ _ _ _ _ _ => rfl)) (PySem.W.mg_none_of KX G ?z6) (PySem.W.mg_none_of KX G ?z7) (K8.at1 (x := "_law_cycles") (st := K8.s__law_cycles) KX G ?a8 ?l8 ?c8 ?k8 (fun _ _ _ _ _ _ _ => rfl)) (K8.at1 (x := "_law_divisors") (st := K8.s__law_divisors) KX G ?a9 ?l9 ?c9 ?k9 (fun _ _ _ _ _ _ _ => rfl)) (PySem.W.mg_none_of KX G ?z10) (K8.at2 (x := "_law_divided") (st := K8.s__law_divided) KX G ?a11 ?l11 ?c11 ?k11 (fun _ _ _ _ _ _ _ _ => rfl)) (K8.at2 (x := "_law_some") (st := K8.s__law_some) KX G ?a12 ?l12 ?c12 ?k12 (fun _ _ _ _ _ _ _ _ => rfl)) (PySem.W.mg_none_of KX G ?z13) (K8.at2 (x := "silent_voice") (st := K8.s_silent_voice) KX G ?a14 ?l14 ?c14 ?k14 (fun _ _ _ _ _ _ _ _ => rfl)) (K8.at2 (x := "need_divisors") (st := K8.s_need_divisors) KX G ?a15 ?l15 ?c15 ?k15 (fun _ _ _ _ _ _ _ _ => rfl)) (K8.at2 (x := "need") (st := K8.s_need) KX G ?a16 ?l16 ?c16 ?k16 (fun _ _ _ _ _ _ _ _ => rfl)) (K8.at1 (x := "is_size") (st := K8.s_is_size) KX G ?a17 ?l17 ?c17 ?k17 (fun _ _ _ _ _ _ _ => rfl)) (K8.at1 (x := "is_integer") (st := K8.s_is_integer) KX G ?a18 ?l18 ?c18 ?k18 (fun _ _ _ _ _ _ _ => rfl)) (PySem.W.mg_none_of KX G ?z19) (PySem.W.mg_none_of KX G ?z20) (K8.at2 (x := "is_divisor_set") (st := K8.s_is_divisor_set) KX G ?a21 ?l21 ?c21 ?k21 (fun _ _ _ _ _ _ _ _ => rfl)) (K8.at1 (x := "is_integer_set") (st := K8.s_is_integer_set) KX G ?a22 ?l22 ?c22 ?k22 (fun _ _ _ _ _ _ _ => rfl)) (K8.at1 (x := "are_integers") (st := K8.s_are_integers) KX G ?a23 ?l23 ?c23 ?k23 (fun _ _ _ _ _ _ _ => rfl)) (PySem.W.mg_none_of KX G ?z24) (PySem.W.mg_none_of KX G ?z25) (K8.at2 (x := "is_divisor") (st := K8.s_is_divisor) KX G ?a26 ?l26 ?c26 ?k26 (fun _ _ _ _ _ _ _ _ => rfl)) (K8.at1 (x := "factor_of") (st := K8.s_factor_of) KX G ?a27 ?l27 ?c27 ?k27 (fun _ _ _ _ _ _ _ => rfl)) (K8.at2 (x := "times") (st := K8.s_times) KX G ?a28 ?l28 ?c28 ?k28 (fun _ _ _ _ _ _ _ _ => rfl)) (K8.at1 (x := "is_polynomial") (st := K8.s_is_polynomial) KX G ?a29 ?l29 ?c29 ?k29 (fun _ _ _ _ _ _ _ => rfl)) (K8.at1 (x := "trimmed") (st := K8.s_trimmed) KX G ?a30 ?l30 ?c30 ?k30 (fun _ _ _ _ _ _ _ => rfl)) (PySem.W.mg_none_of KX G ?z31) (K8.at1 (x := "cyclotomic") (st := K8.s_cyclotomic) KX G ?a32 ?l32 ?c32 ?k32 (fun _ _ _ _ _ _ _ => rfl)) (K8.at1 (x := "prime_parts") (st := K8.s_prime_parts) KX G ?a33 ?l33 ?c33 ?k33 (fun _ _ _ _ _ _ _ => rfl)) (K8.at1 (x := "least_prime") (st := K8.s_least_prime) KX G ?a34 ?l34 ?c34 ?k34 (fun _ _ _ _ _ _ _ => rfl)) (K8.at2 (x := "widened") (st := K8.s_widened) KX G ?a35 ?l35 ?c35 ?k35 (fun _ _ _ _ _ _ _ _ => rfl)) (K8.at2 (x := "exact_by") (st := K8.s_exact_by) KX G ?a36 ?l36 ?c36 ?k36 (fun _ _ _ _ _ _ _ _ => rfl)) (K8.at1 (x := "is_monic") (st := K8.s_is_monic) KX G ?a37 ?l37 ?c37 ?k37 (fun _ _ _ _ _ _ _ => rfl)) (K8.at2 (x := "divided") (st := K8.s_divided) KX G ?a38 ?l38 ?c38 ?k38 (fun _ _ _ _ _ _ _ _ => rfl)) (PySem.W.mg_none_of KX G ?z39) (K8.at2 (x := "padded") (st := K8.s_padded) KX G ?a40 ?l40 ?c40 ?k40 (fun _ _ _ _ _ _ _ _ => rfl)) (K8.at2 (x := "_law_same") (st := K8.s__law_same) KX G ?a41 ?l41 ?c41 ?k41 (fun _ _ _ _ _ _ _ _ => rfl)) (PySem.W.mg_none_of KX G ?z42) (K8.at2 (x := "silent_rank") (st := K8.s_silent_rank) KX G ?a43 ?l43 ?c43 ?k43 (fun _ _ _ _ _ _ _ _ => rfl)) (K8.at1 (x := "totient_of") (st := K8.s_totient_of) KX G ?a44 ?l44 ?c44 ?k44 (fun _ _ _ _ _ _ _ => rfl)) (K8.at1 (x := "need_number") (st := K8.s_need_number) KX G ?a45 ?l45 ?c45 ?k45 (fun _ _ _ _ _ _ _ => rfl)) (PySem.W.mg_of KX G ?m46) (PySem.W.mg_none_of KX G ?z47) (K8.at4 (x := "_law_is_silent") (st := K8.s__law_is_silent) KX G ?a48 ?l48 ?c48 ?k48 (fun _ _ _ _ _ _ _ _ _ _ => rfl)) (K8.at1 (x := "_law_cut") (st := K8.s__law_cut) KX G ?a49 ?l49 ?c49 ?k49 (fun _ _ _ _ _ _ _ => rfl)) (K8.at2 (x := "_law_silences") (st := K8.s__law_silences) KX G ?a50 ?l50 ?c50 ?k50 (fun _ _ _ _ _ _ _ _ => rfl)) (K8.at3 (x := "_law_is_told") (st := K8.s__law_is_told) KX G ?a51 ?l51 ?c51 ?k51 (fun _ _ _ _ _ _ _ _ _ => rfl)) (K8.at2 (x := "silent_basis") (st := K8.s_silent_basis) KX G ?a52 ?l52 ?c52 ?k52 (fun _ _ _ _ _ _ _ _ => rfl)) (K8.at2 (x := "rule_of") (st := K8.s_rule_of) KX G ?a53 ?l53 ?c53 ?k53 (fun _ _ _ _ _ _ _ _ => rfl)) (K8.at1 (x := "round_polynomial") (st := K8.s_round_polynomial) KX G ?a54 ?l54 ?c54 ?k54 (fun _ _ _ _ _ _ _ => rfl)) (K8.at3 (x := "carried_on") (st := K8.s_carried_on) KX G ?a55 ?l55 ?c55 ?k55 (fun _ _ _ _ _ _ _ _ _ => rfl)) (K8.at2 (x := "voice_of") (st := K8.s_voice_of) KX G ?a56 ?l56 ?c56 ?k56 (fun _ _ _ _ _ _ _ _ => rfl)) (K8.at2 (x := "is_beats") (st := K8.s_is_beats) KX G ?a57 ?l57 ?c57 ?k57 (fun _ _ _ _ _ _ _ _ => rfl)) (K8.at2 (x := "is_beat") (st := K8.s_is_beat) KX G ?a58 ?l58 ?c58 ?k58 (fun _ _ _ _ _ _ _ _ => rfl)) (K8.at3 (x := "silent_from") (st := K8.s_silent_from) KX G ?a59 ?l59 ?c59 ?k59 (fun _ _ _ _ _ _ _ _ _ => rfl)) (K8.at1 (x := "_law_size") (st := K8.s__law_size) KX G ?a60 ?l60 ?c60 ?k60 (fun _ _ _ _ _ _ _ => rfl)) (K8.atL3 (x := "_law_are_refused") (st := K8.s__law_are_refused) KX G ?a61 ?l61 ?c61 ?k61 (fun _ _ _ _ _ _ _ _ _ => rfl)) (K8.at1 (x := "_law_heard") (st := K8.s__law_heard) KX G ?a62 ?l62 ?c62 ?k62 (fun _ _ _ _ _ _ _ => rfl)) ⟨PySem.W.mg_of KX G ?hC, PySem.W.mg_of KX G ?hB, PySem.W.mg_of KX G ?hI, PySem.W.mg_of KX G ?hP, PySem.W.mg_of KX G ?hV, ?xB, ?kC, ?kI, ?kP, ?kV, ⟨?e1, ?e2, ?e3, ?e4, ?e5, ?e6, ?e7, ?e8⟩, K8.xf_mk ?f1 ?f2 ?f3 ?f4, ?n1, ?n2⟩ (K8.err_mk KX G ?t1 (K8.oex_mk ?o1 ?o2 ?o3 ?o4 ?o5 ?o6) ?t2 ?t3 ?t4 ?t5 ?t6 ?t7 ?t8) (K8.at1 (x := "law") (st := K8.s_law) KX G ?a65 ?l65 ?c65 ?k65 (fun _ _ _ _ _ _ _ => rfl))) (PySem.W.km_tabs_of Y _ List.mem_cons_self) ?nT (PySem.W.codeHd_of_K KX ?cc)
    (case a1 => first | k_is | kernel_rfl); (case l1 => first | k_is | kernel_rfl); (case c1 => first | k_is | kernel_rfl); (case k1 => first | k_is | kernel_rfl); (case z2 => first | k_is | kernel_rfl); (case a3 => first | k_is | kernel_rfl); (case l3 => first | k_is | kernel_rfl); (case c3 => first | k_is | kernel_rfl); (case k3 => first | k_is | kernel_rfl); (case a4 => first | k_is | kernel_rfl); (case l4 => first | k_is | kernel_rfl); (case c4 => first | k_is | kernel_rfl); (case k4 => first | k_is | kernel_rfl); (case a5 => first | k_is | kernel_rfl); (case l5 => first | k_is | kernel_rfl); (case c5 => first | k_is | kernel_rfl); (case k5 => first | k_is | kernel_rfl); (case z6 => first | k_is | kernel_rfl); (case z7 => first | k_is | kernel_rfl); (case a8 => first | k_is | kernel_rfl); (case l8 => first | k_is | kernel_rfl); (case c8 => first | k_is | kernel_rfl); (case k8 => first | k_is | kernel_rfl); (case a9 => first | k_is | kernel_rfl); (case l9 => first | k_is | kernel_rfl); (case c9 => first | k_is | kernel_rfl); (case k9 => first | k_is | kernel_rfl); (case z10 => first | k_is | kernel_rfl); (case a11 => first | k_is | kernel_rfl); (case l11 => first | k_is | kernel_rfl); (case c11 => first | k_is | kernel_rfl); (case k11 => first | k_is | kernel_rfl); (case a12 => first | k_is | kernel_rfl); (case l12 => first | k_is | kernel_rfl); (case c12 => first | k_is | kernel_rfl); (case k12 => first | k_is | kernel_rfl); (case z13 => first | k_is | kernel_rfl); (case a14 => first | k_is | kernel_rfl); (case l14 => first | k_is | kernel_rfl); (case c14 => first | k_is | kernel_rfl); (case k14 => first | k_is | kernel_rfl); (case a15 => first | k_is | kernel_rfl); (case l15 => first | k_is | kernel_rfl); (case c15 => first | k_is | kernel_rfl); (case k15 => first | k_is | kernel_rfl); (case a16 => first | k_is | kernel_rfl); (case l16 => first | k_is | kernel_rfl); (case c16 => first | k_is | kernel_rfl); (case k16 => first | k_is | kernel_rfl); (case a17 => first | k_is | kernel_rfl); (case l17 => first | k_is | kernel_rfl); (case c17 => first | k_is | kernel_rfl); (case k17 => first | k_is | kernel_rfl); (case a18 => first | k_is | kernel_rfl); (case l18 => first | k_is | kernel_rfl); (case c18 => first | k_is | kernel_rfl); (case k18 => first | k_is | kernel_rfl); (case z19 => first | k_is | kernel_rfl); (case z20 => first | k_is | kernel_rfl); (case a21 => first | k_is | kernel_rfl); (case l21 => first | k_is | kernel_rfl); (case c21 => first | k_is | kernel_rfl); (case k21 => first | k_is | kernel_rfl); (case a22 => first | k_is | kernel_rfl); (case l22 => first | k_is | kernel_rfl); (case c22 => first | k_is | kernel_rfl); (case k22 => first | k_is | kernel_rfl); (case a23 => first | k_is | kernel_rfl); (case l23 => first | k_is | kernel_rfl); (case c23 => first | k_is | kernel_rfl); (case k23 => first | k_is | kernel_rfl); (case z24 => first | k_is | kernel_rfl); (case z25 => first | k_is | kernel_rfl); (case a26 => first | k_is | kernel_rfl); (case l26 => first | k_is | kernel_rfl); (case c26 => first | k_is | kernel_rfl); (case k26 => first | k_is | kernel_rfl); (case a27 => first | k_is | kernel_rfl); (case l27 => first | k_is | kernel_rfl); (case c27 => first | k_is | kernel_rfl); (case k27 => first | k_is | kernel_rfl); (case a28 => first | k_is | kernel_rfl); (case l28 => first | k_is | kernel_rfl); (case c28 => first | k_is | kernel_rfl); (case k28 => first | k_is | kernel_rfl); (case a29 => first | k_is | kernel_rfl); (case l29 => first | k_is | kernel_rfl); (case c29 => first | k_is | kernel_rfl); (case k29 => first | k_is | kernel_rfl); (case a30 => first | k_is | kernel_rfl); (case l30 => first | k_is | kernel_rfl); (case c30 => first | k_is | kernel_rfl); (case k30 => first | k_is | kernel_rfl); (case z31 => first | k_is | kernel_rfl); (case a32 => first | k_is | kernel_rfl); (case l32 => first | k_is | kernel_rfl); (case c32 => first | k_is | kernel_rfl); (case k32 => first | k_is | kernel_rfl); (case a33 => first | k_is | kernel_rfl); (case l33 => first | k_is | kernel_rfl); (case c33 => first | k_is | kernel_rfl); (case k33 => first | k_is | kernel_rfl); (case a34 => first | k_is | kernel_rfl); (case l34 => first | k_is | kernel_rfl); (case c34 => first | k_is | kernel_rfl); (case k34 => first | k_is | kernel_rfl); (case a35 => first | k_is | kernel_rfl); (case l35 => first | k_is | kernel_rfl); (case c35 => first | k_is | kernel_rfl); (case k35 => first | k_is | kernel_rfl); (case a36 => first | k_is | kernel_rfl); (case l36 => first | k_is | kernel_rfl); (case c36 => first | k_is | kernel_rfl); (case k36 => first | k_is | kernel_rfl); (case a37 => first | k_is | kernel_rfl); (case l37 => first | k_is | kernel_rfl); (case c37 => first | k_is | kernel_rfl); (case k37 => first | k_is | kernel_rfl); (case a38 => first | k_is | kernel_rfl); (case l38 => first | k_is | kernel_rfl); (case c38 => first | k_is | kernel_rfl); (case k38 => first | k_is | kernel_rfl); (case z39 => first | k_is | kernel_rfl); (case a40 => first | k_is | kernel_rfl); (case l40 => first | k_is | kernel_rfl); (case c40 => first | k_is | kernel_rfl); (case k40 => first | k_is | kernel_rfl); (case a41 => first | k_is | kernel_rfl); (case l41 => first | k_is | kernel_rfl); (case c41 => first | k_is | kernel_rfl); (case k41 => first | k_is | kernel_rfl); (case z42 => first | k_is | kernel_rfl); (case a43 => first | k_is | kernel_rfl); (case l43 => first | k_is | kernel_rfl); (case c43 => first | k_is | kernel_rfl); (case k43 => first | k_is | kernel_rfl); (case a44 => first | k_is | kernel_rfl); (case l44 => first | k_is | kernel_rfl); (case c44 => first | k_is | kernel_rfl); (case k44 => first | k_is | kernel_rfl); (case a45 => first | k_is | kernel_rfl); (case l45 => first | k_is | kernel_rfl); (case c45 => first | k_is | kernel_rfl); (case k45 => first | k_is | kernel_rfl); (case m46 => first | k_is | kernel_rfl); (case z47 => first | k_is | kernel_rfl); (case a48 => first | k_is | kernel_rfl); (case l48 => first | k_is | kernel_rfl); (case c48 => first | k_is | kernel_rfl); (case k48 => first | k_is | kernel_rfl); (case a49 => first | k_is | kernel_rfl); (case l49 => first | k_is | kernel_rfl); (case c49 => first | k_is | kernel_rfl); (case k49 => first | k_is | kernel_rfl); (case a50 => first | k_is | kernel_rfl); (case l50 => first | k_is | kernel_rfl); (case c50 => first | k_is | kernel_rfl); (case k50 => first | k_is | kernel_rfl); (case a51 => first | k_is | kernel_rfl); (case l51 => first | k_is | kernel_rfl); (case c51 => first | k_is | kernel_rfl); (case k51 => first | k_is | kernel_rfl); (case a52 => first | k_is | kernel_rfl); (case l52 => first | k_is | kernel_rfl); (case c52 => first | k_is | kernel_rfl); (case k52 => first | k_is | kernel_rfl); (case a53 => first | k_is | kernel_rfl); (case l53 => first | k_is | kernel_rfl); (case c53 => first | k_is | kernel_rfl); (case k53 => first | k_is | kernel_rfl); (case a54 => first | k_is | kernel_rfl); (case l54 => first | k_is | kernel_rfl); (case c54 => first | k_is | kernel_rfl); (case k54 => first | k_is | kernel_rfl); (case a55 => first | k_is | kernel_rfl); (case l55 => first | k_is | kernel_rfl); (case c55 => first | k_is | kernel_rfl); (case k55 => first | k_is | kernel_rfl); (case a56 => first | k_is | kernel_rfl); (case l56 => first | k_is | kernel_rfl); (case c56 => first | k_is | kernel_rfl); (case k56 => first | k_is | kernel_rfl); (case a57 => first | k_is | kernel_rfl); (case l57 => first | k_is | kernel_rfl); (case c57 => first | k_is | kernel_rfl); (case k57 => first | k_is | kernel_rfl); (case a58 => first | k_is | kernel_rfl); (case l58 => first | k_is | kernel_rfl); (case c58 => first | k_is | kernel_rfl); (case k58 => first | k_is | kernel_rfl); (case a59 => first | k_is | kernel_rfl); (case l59 => first | k_is | kernel_rfl); (case c59 => first | k_is | kernel_rfl); (case k59 => first | k_is | kernel_rfl); (case a60 => first | k_is | kernel_rfl); (case l60 => first | k_is | kernel_rfl); (case c60 => first | k_is | kernel_rfl); (case k60 => first | k_is | kernel_rfl); (case a61 => first | k_is | kernel_rfl); (case l61 => first | k_is | kernel_rfl); (case c61 => first | k_is | kernel_rfl); (case k61 => first | k_is | kernel_rfl); (case a62 => first | k_is | kernel_rfl); (case l62 => first | k_is | kernel_rfl); (case c62 => first | k_is | kernel_rfl); (case k62 => first | k_is | kernel_rfl); (case a65 => first | k_is | kernel_rfl); (case l65 => first | k_is | kernel_rfl); (case c65 => first | k_is | kernel_rfl); (case k65 => first | k_is | kernel_rfl); (case hC => first | k_is | kernel_rfl); (case hB => first | k_is | kernel_rfl); (case hI => first | k_is | kernel_rfl); (case hP => first | k_is | kernel_rfl); (case hV => first | k_is | kernel_rfl); (case xB => first | k_is | kernel_rfl); (case kC => first | k_is | kernel_rfl); (case kI => first | k_is | kernel_rfl); (case kP => first | k_is | kernel_rfl); (case kV => first | k_is | kernel_rfl); (case e1 => first | k_is | kernel_rfl); (case e2 => first | k_is | kernel_rfl); (case e3 => first | k_is | kernel_rfl); (case e4 => first | k_is | kernel_rfl); (case e5 => first | k_is | kernel_rfl); (case e6 => first | k_is | kernel_rfl); (case e7 => first | k_is | kernel_rfl); (case e8 => first | k_is | kernel_rfl); (case f1 => first | k_is | kernel_rfl); (case f2 => first | k_is | kernel_rfl); (case f3 => first | k_is | kernel_rfl); (case f4 => first | k_is | kernel_rfl); (case n1 => first | k_is | kernel_rfl); (case n2 => first | k_is | kernel_rfl); (case t1 => first | k_is | kernel_rfl); (case o1 => first | k_is | kernel_rfl); (case o2 => first | k_is | kernel_rfl); (case o3 => first | k_is | kernel_rfl); (case o4 => first | k_is | kernel_rfl); (case o5 => first | k_is | kernel_rfl); (case o6 => first | k_is | kernel_rfl); (case t2 => first | k_is | kernel_rfl); (case t3 => first | k_is | kernel_rfl); (case t4 => first | k_is | kernel_rfl); (case t5 => first | k_is | kernel_rfl); (case t6 => first | k_is | kernel_rfl); (case t7 => first | k_is | kernel_rfl); (case t8 => first | k_is | kernel_rfl); (case nT => first | k_is | kernel_rfl); (case cc => first | k_is | kernel_rfl)
