import PyProof.Rows.All
import Wide.All
import OpenK.AllK
import Wide.FinOn
import PyProof.EqAt
import PyProof.EqKinds
import PyProof.TupleCall
import PyProof.ReprReads
import HandS.ForMost
import HandS.Exc
import HandS.TryOnly
import HandS.ExcOwn
import HandS.WordsExc
import HandS.Wide
import HandS.IsInst
import HandS.Deep
import HandS.Style
import HandS.Conv
import HandS.Zip
import HandS.SortRule
import HandS.SortInts
import HandS.DictComp
import HandS.FStr
import HandS.RaiseMore
import HandS.TryMany
import HandS.ExcIs
import HandS.ExcValue
import KE.KExcIs
import PySem.Challenge.RW_nudgewebs_k46_errors_of_webs
set_option Elab.async false
set_option linter.all false
set_option maxRecDepth 100000
set_option maxHeartbeats 4000000
/-! The ground: defs that run where nothing is being shown (so that repr may be asked), calls by name, repr of data, powers. -/
namespace Nw
open PySem PySem.Spec PyProof.Rows L2

/-! ### defs that run where no repr is under way -/
abbrev Quiet (A : Around) : Prop := A.guards = some []
structure FnG (P : Program) (w : World) (K : PySem.W.Frag) (mg : Str → Option Value)
    (base : Heap) (CX : CXT) (k : Nat) (f : Addr) (fd : FuncData) (ps : List Str) (sp : Sp) : Prop where
  len : ∀ vs H Q E, sp vs H Q E → vs.length = ps.length
  run : ∀ (A : Around) (outer : List Env) (s : Shared) (H : Hp) (args : Args) (us : List Value) (vs : List V)
    (Q : VK) (E : XK), Room k A → Quiet A → Env0 P w K mg base A outer s H →
    BindsTo s fd args (ps.zip us) → Vals vs us → sp vs H Q E →
    codeAny (model P w) A (.call (.ref f) args) (CR CX outer P w H s Q E) s

section
variable {P : Program} {w : World} {K : PySem.W.Frag} {mg : Str → Option Value} {base : Heap} {CX : CXT}
theorem FnG.mono {j k : Nat} {f : Addr} {fd : FuncData} {ps : List Str} {sp : Sp}
    (F : FnG P w K mg base CX j f fd ps sp) (h : j ≤ k) : FnG P w K mg base CX k f fd ps sp :=
  ⟨F.len, fun A outer s H args us vs Q E hr =>
    F.run A outer s H args us vs Q E (hr.mono h)⟩

theorem fng_of {k : Nat} {f : Addr} {name qual : Str} {params : Arguments} {body : List Stmt} {scope : Scope}
    {dV kV doc pm cdv ct oc : Value} {an od : Option Addr} {osl : Array (Option Value)} {N ps : List Str} {sp : Sp}
    (lk : K.lookup f = some ⟨oc, od, .func (PySem.W.fnOf name qual params body scope dV kV doc pm an cdv ct), osl⟩)
    (hcd : PySem.W.codeIn K cdv qual = true) (S : FnScope N ps scope)
    (len : ∀ vs H Q E, sp vs H Q E → vs.length = ps.length)
    (hbody : ∀ (A : Around) (outer : List Env) (s : Shared) (H : Hp) (vs : List V) (Q : VK) (E : XK),
      Room k (A.deeper (envOfC qual scope s.heap.objs.size f cdv)) → Quiet A → sp vs H Q E →
      ∃ t, PSs (cxOf CX P w K mg base N qual scope f cdv A outer s H E) body t ∧
        t { nx := fun _ H' => Q .non H', rt := Q } (start N vs) H) :
    FnG P w K mg base CX (k + 1) f (PySem.W.fnOf name qual params body scope dV kV doc pm an cdv ct) ps sp := by
  refine ⟨len, ?_⟩
  intro A outer s H args us vs Q E hr hgd e0 hb r hsp
  have hl := len _ _ _ _ hsp
  have old := fun b o (e : base.get? b = some o) => (e0.bs b o e).1
  have kinds : ∀ y ∈ ps.zip us, scope.names.lookup y.1 = some .local ∨
      (scope.names.lookup y.1 = some .cell ∧ ((cellsFrom (s.heap.objs.size + 1) scope.names []).lookup y.1).isSome = true) := by
    rintro ⟨n, v⟩ hy
    rcases S.par n (List.of_mem_zip hy).1 with q | q
    · exact Or.inl q
    · exact Or.inr ⟨q, PySem.W.cellsFrom_some _ _ _ (Or.inl q)⟩
  refine codeAny_call_function hr.depth ((e0.mod.kin.keeps old) _ _ lk) rfl S.co S.gen rfl
    (PySem.W.codeRec_of (e0.mod.kin.keeps old) hcd) (hb _ _ _ _ ?_)
  refine wpAny_newFunctionEnv_cells S.kind kinds fun env he s1 x => ?_
  subst he
  refine ⟨(e0.mod.nolimit.keeps old).keeps x.toInCall.keep, codeAny_func ?_⟩
  obtain ⟨t, ht, hq⟩ := hbody A outer s H vs Q E (hr.deeper _) hgd hsp
  have I0 : Inv (cxOf CX P w K mg base N qual scope f cdv A outer s H E) [] (start N vs) H s1 :=
    inv_start S hr.hd e0 hl r x
  refine wpAny_mono (ht.run [] s1 (start N vs) H _ I0 hq) ?_ (fun e s' hs => hs)
  intro fl s' hs
  cases fl with
  | ret u =>
    obtain ⟨v, σ', H', J, rv, q⟩ := hs
    exact (show CE outer P w H s Q u s' from ⟨v, H', J.os, J.bare, J.base, J.hok, rv, q⟩)
  | next =>
    obtain ⟨σ', H', J, q⟩ := hs
    exact (show CE outer P w H s Q Value.none s' from ⟨V.non, H', J.os, J.bare, J.base, J.hok, rfl, q⟩)
  | brk =>
    obtain ⟨_, _, _, q⟩ := hs
    exact q.elim
  | cont =>
    obtain ⟨_, _, _, q⟩ := hs
    exact q.elim

/-- a def of the text, by its body -/
theorem okG {x qual : Str} {st : Stmt} {f : Addr} {fd : FuncData} {N ps : List Str} {k : Nat} {sp : Sp}
    (F : Fun K x qual st f fd) (S : FnScope N ps (defScope st)) (len : ∀ vs H Q E, sp vs H Q E → vs.length = ps.length)
    (hbody : ∀ (cdv : Value) (A : Around) (outer : List Env) (s : Shared) (H : Hp) (vs : List V) (Q : VK) (E : XK),
      Room k (A.deeper (envOfC qual (defScope st) s.heap.objs.size f cdv)) →
      Quiet (A.deeper (envOfC qual (defScope st) s.heap.objs.size f cdv)) → sp vs H Q E →
      ∃ t, PSs (cxOf CX P w K mg base N qual (defScope st) f cdv A outer s H E) (defBody st) t ∧
        t { nx := fun _ H' => Q .non H', rt := Q } (start N vs) H) : FnG P w K mg base CX (k + 1) f fd ps sp := by
  obtain ⟨oc, od, kV, doc, pm, an, cdv, ct, osl, rfl, lk, hcd⟩ := F.ex
  exact fng_of lk hcd S len fun A outer s H vs Q E hr hq hsp => hbody cdv A outer s H vs Q E hr hq hsp

/-- a def as its callers see it -/
structure DefOk (P : Program) (w : World) (K : PySem.W.Frag) (mg : Str → Option Value) (base : Heap) (CX : CXT)
    (k : Nat) (x : Str) (ps : List Str) (sp : Sp) : Prop where
  ex : ∃ f fd, FnG P w K mg base CX k f fd ps sp ∧ mg x = some (.ref f) ∧
    PySem.W.keepIn K (.ref f) = true ∧ Binds K fd ps []
theorem DefOk.mono {j k : Nat} {x : Str} {ps : List Str} {sp : Sp} (D : DefOk P w K mg base CX j x ps sp) (h : j ≤ k) :
    DefOk P w K mg base CX k x ps sp := by
  obtain ⟨f, fd, F, r⟩ := D.ex
  exact ⟨f, fd, F.mono h, r⟩
end

/-- f(e, ..) -/
def tCallD (sp : Sp) (E : XK) (t : TA) : TE := fun σ H Q => t σ H fun vs H1 => sp vs H1 Q E
section
variable {X : Cx} {CX : CXT} {k : Nat} {ps : List Str} {sp : Sp} {E : XK} {x : Str} {p pos : Pos} {e : Expr} {es : List Expr} {t : TA}
theorem run_fng {f : Addr} {fd : FuncData} {pins : List (Addr × Obj)} {σ : L2.St} {H : Hp} {s : Shared} {Q : VK} {us : List Value} {vs : List V}
    (F : FnG X.prog X.w X.K X.mg X.base CX k f fd ps sp) (hr : Room k X.A) (hgd : Quiet X.A) (hb : Binds X.K fd ps [])
    (hx : Passes CX X E) (I : Inv X pins σ H s) (r : Vals vs us) (h : sp vs H Q E) :
    wpAny (model X.prog X.w) X.A (call (.ref f) us) (EP X pins σ Q) X.xe s := by
  have hl : (us ++ ([] : List Value)).length = ps.length := by
    rw [List.append_nil, ← r.length]
    exact F.len _ _ _ _ h
  have hb2 := hb s us I.kIn hl
  rw [List.append_nil] at hb2
  refine wpAny_call (codeAny_mono (F.run X.A X.stack s H ⟨us, []⟩ us vs Q E hr hgd I.env0 hb2 r h) ?_)
  intro r s' hq
  cases r with
  | error e => exact hx pins σ H s e s' I hq
  | ok fl =>
    cases fl with
    | ret u => exact I.after hq
    | next => exact (show False from hq).elim
    | brk => exact (show False from hq).elim
    | cont => exact (show False from hq).elim

theorem pe_callD (D : DefOk X.prog X.w X.K X.mg X.base CX k x ps sp) (hr : Room k X.A) (hgd : Quiet X.A) (hx : Passes CX X E)
    (ha : PA X (e :: es) t) (hg : Gl X x := by rfl) (hdb : (x == ("__debug__" : Str)) = false := by decide)
    (he : starEach (e :: es) X.env = (false, eval e X.env) :: starEach es X.env := by rfl)
    (hpl : (backTo pos (starEach es X.env)).any (·.1) = false := by rfl) :
    PE X (.Call (.Name x p) (e :: es) [] pos) (tCallD sp E t) := by
  obtain ⟨f, fd, F, hm, hk, hb⟩ := D.ex
  refine ⟨fun pins s σ H Q I h => ?_⟩
  refine wpAny_Call_Name_kw (ld_glob I hg hm ?_ hdb)
  refine PySem.W.callWith_K (h₀ := X.base) I.ok.mod.kin hk (thn (ha.run pos pins s σ H _ I h) ?_) he hpl
  rintro us s1 ⟨vs, H1, I1, r, q⟩
  exact ⟨I1.kIn, run_fng F hr hgd hb hx I1 r q⟩
end

/-! ### the law's end -/
section
variable {P : Program} {w : World} {K : PySem.W.Frag}
theorem law_callG {mg mb : Str → Option Value} {CX : CXT} {k : Nat} {fa a : Addr} {fd : FuncData} {x : Str} {sp : Sp}
    {s1 : Shared} {vs : List Value} {ns : List Int}
    (KX : K.In s1.heap) (hns : s1.heap.Ns mainGlobals mg) (hb : s1.heap.Ns builtinsNs mb)
    (hbb : ∀ x : Str, x ≠ "__name__" → mb x = bootBuiltins x) (hlim : s1.heap.NoLimit) (hg : s1.gens = #[])
    (ha : s1.heap.get? a = some { cls := .type "list", data := .seq vs.toArray }) (hi : IntsAre vs ns)
    (hl : ns.length ≤ sizeLine) (hr : Room k callerA)
    (F : ∀ base : Heap, K.In base → base.Ns mainGlobals mg → FnG P w K mg base CX k fa fd [x] sp)
    (hbind : ∀ (s : Shared) (u : Value), BindsTo s fd ⟨[u], []⟩ [(x, u)])
    (hsp : ∀ H : Hp, Only H → SqL K H a (ns.map V.int) → sp [.ref a] H (fun v _ => v = .bl true) fun _ _ _ => False)
    (hCX : ∀ H e s', CX [] H s1 (fun _ _ _ => False) e s' → False) :
    codeAny (model P w) callerA (.call (.ref fa) ⟨[.ref a], []⟩)
      (fun r s' => r = .ok (.ret (.bool true)) ∧ OldK s1.heap s'.heap ∧ s'.os = s1.os ∧ AllBare s'.gens) s1 := by
  have rv := vals_ints hi
  have lenV := hi.length
  have core : ∀ H : Hp, Only H → SqL K H a (ns.map V.int) → HOk P w H s1.heap →
      (∀ b, H b ≠ none → b = a) → (H a ≠ none → K.lookup a = none) →
      codeAny (model P w) callerA (.call (.ref fa) ⟨[.ref a], []⟩)
        (fun r s' => r = .ok (.ret (.bool true)) ∧ OldK s1.heap s'.heap ∧ s'.os = s1.os ∧ AllBare s'.gens) s1 := by
    intro H hO hS hok hA hK
    have fromH : ∀ {b : Addr} {o : Obj}, s1.heap.get? b = some o → H b = none →
        (hidT s1.heap H).get? b = some o := fun e n => hidT_get e n
    have free : ∀ {b : Addr} {o : Obj} {es : Array DictEntry} {ep : Nat},
        s1.heap.get? b = some o → o.data = .dict es ep → H b = none := by
      intro b o es ep e d
      cases q : H b with
      | none => rfl
      | some u =>
        have e' : b = a := hA b (by rw [q]; exact fun z => nomatch z)
        subst e'
        rw [ha] at e
        cases e
        exact nomatch d
    have nsK : ∀ {b : Addr} {m : Str → Option Value}, s1.heap.Ns b m → (hidT s1.heap H).Ns b m := by
      rintro b m ⟨o, es, ep, e, d, r⟩
      exact ⟨o, es, ep, fromH e (free e d), d, r⟩
    have hKb : K.In (hidT s1.heap H) := by
      intro b o e
      refine fromH (KX b o e) ?_
      cases q : H b with
      | none => rfl
      | some u =>
        have e' : b = a := hA b (by rw [q]; exact fun z => nomatch z)
        subst e'
        rw [hK (by rw [q]; exact fun z => nomatch z)] at e
        cases e
    have hM : Mod K mg (hidT s1.heap H) := by
      obtain ⟨mc, h1, h2⟩ := hlim
      exact ⟨hKb, nsK hns, ⟨mb, nsK hb, hbb⟩, ⟨mc, nsK h1, h2⟩⟩
    have e0 : Env0 P w K mg (hidT s1.heap H) callerA [] s1 H :=
      ⟨rfl, hM, fun b o e => of_hidT e, Nat.le_of_eq (hidT_size _ _), trivial,
        fun b hb => (List.not_mem_nil hb).elim, hok, .of_eq hg⟩
    refine codeAny_mono ((F _ hKb (nsK hns)).run callerA [] s1 H ⟨[.ref a], []⟩ [.ref a] [.ref a] _ _ hr rfl e0
      (hbind s1 (.ref a)) (.cons rfl .nil) (hsp H hO hS)) ?_
    intro r s' h
    cases r with
    | error e => exact (hCX H e s' h).elim
    | ok fl =>
      cases fl with
      | next => exact (show False from h).elim
      | brk => exact (show False from h).elim
      | cont => exact (show False from h).elim
      | ret u =>
        obtain ⟨v, H', os, bare, un, hok', r', q⟩ := h
        have q' : v = .bl true := q
        subst q'
        obtain rfl : u = Value.bool true := r'
        refine ⟨rfl, OldK.of_keep ?_, os, bare⟩
        intro b o e
        cases q : H b with
        | none => exact un.keep b o e q (fun z => (List.not_mem_nil z).elim) (fun z => (List.not_mem_nil z).elim)
        | some u =>
          rcases hO b with z | ⟨ob, xs, z⟩
          · rw [q] at z
            cases z
          · obtain ⟨e1, _⟩ := hok b _ z
            obtain ⟨e2, _⟩ := hok' b _ (un.frzs b ob _ z)
            rw [e] at e1
            cases e1
            exact e2
  cases hk : K.lookup a with
  | some o =>
    have e := KX a o hk
    rw [ha] at e
    cases e
    exact core (fun _ => none) (fun _ => .inl rfl)
      (.inr ⟨_, vs.toArray, _, hk, rfl, rfl, rfl, by rw [List.size_toArray, lenV]; exact hl, by simpa using rv⟩)
      (fun b u z => nomatch z) (fun b z => (z rfl).elim) (fun z => (z rfl).elim)
  | none =>
    refine core (fun b => if b = a then some (.frz { cls := .type "list", data := .seq vs.toArray } (.lst (ns.map V.int))) else none)
      ?_ (.inl (.inr ⟨{ cls := .type "list", data := .seq vs.toArray }, if_pos rfl⟩)) ?_ ?_ (fun _ => hk)
    · intro b
      by_cases hb : b = a
      · exact .inr ⟨_, _, if_pos hb⟩
      · exact .inl (if_neg hb)
    · intro b u z
      by_cases hb : b = a
      · have z' := (if_pos hb).symm.trans z
        cases z'
        subst hb
        exact ⟨ha, by rw [List.length_map]; exact hl, vs, _, rv, ha⟩
      · have z' := (if_neg hb).symm.trans z
        cases z'
    · intro b z
      by_cases hb : b = a
      · exact hb
      · exact (z (if_neg hb)).elim
end

theorem walkG {l : PySem.W.OpenLaw} {n k : Nat} {q : Program} {loose : List Str} {XP : (Str → Option Value) → Heap → Prop}
    {YP : World → Heap → Prop} {d : DefRec} {K : Params → PySem.W.Frag} {CX : World → CXT} {sp : World → Sp} {x : Str}
    (hn : l.most = some n) (hn2 : n ≤ sizeLine) (hdf : d.params.defaults = []) (hr : Room k callerA)
    (hY : ∀ (w : World) (h : Heap), YP w h → (K w.params).In h)
    (F : ∀ (w : World) (mg : Str → Option Value) (fa : Addr) (h : Heap), (K w.params).In h → h.Ns mainGlobals mg →
      mg d.name = some (.ref fa) → ∃ fd : FuncData, (∀ (s : Shared) (u : Value), BindsTo s fd ⟨[u], []⟩ [(x, u)]) ∧
        ∀ base : Heap, (K w.params).In base → base.Ns mainGlobals mg →
          FnG l.prog w (K w.params) mg base (CX w) k fa fd [x] (sp w))
    (hsp : ∀ (w : World) (H : Hp) (a : Addr) (ns : List Int), ns.length ≤ n → Only H →
      SqL (K w.params) H a (ns.map V.int) → sp w [.ref a] H (fun v _ => v = .bl true) fun _ _ _ => False)
    (hCX : ∀ (w : World) (H : Hp) (s : Shared) (e : Value) (s' : Shared), CX w [] H s (fun _ _ _ => False) e s' → False) :
    PySem.W.WalkO q loose XP YP l.row.toRowW d [] (fun f vs => PySem.call f vs) := by
  refine Att.attach_call hn hdf ?_
  intro w s0 s1 mg mb fa o pm cd doc a vs ns G Y ho hd hcd hmg hobj hints hlen hg
  obtain ⟨fd, hb, hF⟩ := F w mg fa _ (hY w _ Y) G.T.g hmg
  exact law_callG (hY w _ Y) G.T.g G.T.b G.T.builtins G.T.nolimit hg hobj hints (Nat.le_trans hlen hn2) hr hF hb
    (fun H hO hS => hsp w H a ns hlen hO hS) (fun H e s' => hCX w H s1 e s')

/-! ### repr of data -/
section
variable {X : Cx}
mutual
theorem dp_noDict {K : PySem.W.Frag} {H : Hp} : ∀ (d : PyData) (v : V), Dp K H v d → d.hasDict = false
  | .none, _, _ => by simp only [PyData.hasDict]
  | .bool _, _, _ => by simp only [PyData.hasDict]
  | .int _, _, _ => by simp only [PyData.hasDict]
  | .str _, _, _ => by simp only [PyData.hasDict]
  | .list ds, _, h => by
    cases h with
    | lst _ ha =>
      simp only [PyData.hasDict]
      exact dp_noDictAll ds _ ha
  | .tuple ds, _, h => by
    cases h with
    | tup _ ha =>
      simp only [PyData.hasDict]
      exact dp_noDictAll ds _ ha
  | .dict _, _, h => by cases h
theorem dp_noDictAll {K : PySem.W.Frag} {H : Hp} : ∀ (ds : List PyData) (vs : List V), DpAll K H vs ds → PyData.hasDictAll ds = false
  | [], _, _ => by simp only [PyData.hasDictAll]
  | d :: ds, _, h => by
    cases h with
    | cons h1 h2 => simp only [PyData.hasDictAll, dp_noDict d _ h1, dp_noDictAll ds _ h2, Bool.or_self]
end
/-- repr(x), x any data without dicts -/
def rReprD (K : PySem.W.Frag) : List V → Hp → VK → Prop := fun xs H Q =>
  ∃ x d, xs = [x] ∧ Dp K H x d ∧ d.showable = true ∧ d.shown.length ≤ sizeLine ∧ d.depth ≤ 60 ∧ Q (.str d.shown) H
end
end Nw
/-! Data as trees over the abstract heap; what is asked of them. -/
namespace Nw
open PySem PySem.Spec PyProof.Rows L2

/-- what is known stays known -/
abbrev Ex (H H' : Hp) : Prop := ∀ b o, H b = some o → H' b = some o
theorem Ex.rfl {H : Hp} : Ex H H := fun _ _ h => h
theorem Ex.tr {H H1 H2 : Hp} (a : Ex H H1) (b : Ex H1 H2) : Ex H H2 := fun c o h => b c o (a c o h)
theorem Ex.nw {H : Hp} {p : Addr} {o : HO} (h : H p = none) : Ex H (upd H p o) := fun b u e => by
  rw [upd_ne (ne_of_none e h)]
  exact e
theorem Ex.nw2 {H H' : Hp} {p : Addr} {o : HO} (e : Ex H H') (h : H' p = none) : Ex H (upd H' p o) := e.tr (Ex.nw h)
theorem Ex.fr {H H' : Hp} (e : Ex H H') {l : Addr} (h : H' l = none) : H l = none := by
  cases q : H l with
  | none => exact Eq.refl _
  | some o =>
    rw [e l o q] at h
    cases h
/-- an object that H does not know may change -/
theorem Ex.wr {H H' : Hp} {p : Addr} {o : HO} (e : Ex H H') (h : H p = none) : Ex H (upd H' p o) := fun a u ha => by
  rw [upd_ne (ne_of_none ha h)]
  exact e a u ha
section
variable {K : PySem.W.Frag} {H H' : Hp}
theorem Ex.rd {a : Addr} {u : HO} (e : Ex H H') (h : Rd H a u) : Rd H' a u := by
  rcases h with h | ⟨o, h⟩
  · exact Or.inl (e a _ h)
  · exact Or.inr ⟨o, e a _ h⟩
theorem Ex.l {a : Addr} {xs : List V} (e : Ex H H') (h : SqL K H a xs) : SqL K H' a xs := by
  rcases h with h | h
  · exact Or.inl (e.rd h)
  · exact Or.inr h
theorem Ex.t {a : Addr} {xs : List V} (e : Ex H H') (h : SqT K H a xs) : SqT K H' a xs := by
  rcases h with h | h
  · exact Or.inl (e.rd h)
  · exact Or.inr h
end

/-! ### data -/
/-- a dict of ints and texts with plain values -/
def keyD : Key → PyData
  | .inl i => .int i
  | .inr x => .str x
mutual
def Da (K : PySem.W.Frag) (H : Hp) : PyData → V → Prop
  | .none, v => v = .non
  | .bool b, v => v = .bl b
  | .int i, v => v = .int i
  | .str x, v => v = .str x
  | .list ds, v => ∃ a xs, v = .ref a ∧ H a = some (.lst xs) ∧ DaAll K H ds xs ∧ ds.length ≤ 100000
  | .tuple ds, v => ∃ a xs, v = .ref a ∧ H a = some (.tup xs) ∧ DaAll K H ds xs
  | .dict kd, v => ∃ a kvs, v = .ref a ∧ H a = some (.dK kvs) ∧ (kvs.map fun kv => keyD kv.1) = kd.map (·.1) ∧ DaKv K H kd (kvs.map (·.2))
def DaAll (K : PySem.W.Frag) (H : Hp) : List PyData → List V → Prop
  | [], vs => vs = []
  | d :: ds, vs => ∃ x xs, vs = x :: xs ∧ Da K H d x ∧ DaAll K H ds xs
def DaKv (K : PySem.W.Frag) (H : Hp) : List (PyData × PyData) → List V → Prop
  | [], vs => vs = []
  | (_, d) :: ds, vs => ∃ x xs, vs = x :: xs ∧ Da K H d x ∧ DaKv K H ds xs
end
section
variable {K : PySem.W.Frag} {H H' : Hp}
mutual
theorem Da.mono (e : Ex H H') : ∀ (d : PyData) (v : V), Da K H d v → Da K H' d v
  | .none, _, h => h
  | .bool _, _, h => h
  | .int _, _, h => h
  | .str _, _, h => h
  | .list ds, v, h => by
    obtain ⟨a, xs, ev, hs, ha, hz⟩ := h
    exact ⟨a, xs, ev, e _ _ hs, DaAll.mono e ds xs ha, hz⟩
  | .tuple ds, v, h => by
    obtain ⟨a, xs, ev, hs, ha⟩ := h
    exact ⟨a, xs, ev, e _ _ hs, DaAll.mono e ds xs ha⟩
  | .dict kd, v, h => by
    obtain ⟨a, kvs, ev, hs, hk, hv⟩ := h
    exact ⟨a, kvs, ev, e _ _ hs, hk, DaKv.mono e kd _ hv⟩
theorem DaAll.mono (e : Ex H H') : ∀ (ds : List PyData) (vs : List V), DaAll K H ds vs → DaAll K H' ds vs
  | [], _, h => h
  | d :: ds, vs, h => by
    obtain ⟨x, xs, ev, h1, h2⟩ := h
    exact ⟨x, xs, ev, Da.mono e d x h1, DaAll.mono e ds xs h2⟩
theorem DaKv.mono (e : Ex H H') : ∀ (ds : List (PyData × PyData)) (vs : List V), DaKv K H ds vs → DaKv K H' ds vs
  | [], _, h => h
  | (_, d) :: ds, vs, h => by
    obtain ⟨x, xs, ev, h1, h2⟩ := h
    exact ⟨x, xs, ev, Da.mono e d x h1, DaKv.mono e ds xs h2⟩
end
theorem Da.up {d : PyData} {v : V} (h : Da K H d v) (e : Ex H H') : Da K H' d v := Da.mono e d v h
theorem DaAll.up {ds : List PyData} {vs : List V} (h : DaAll K H ds vs) (e : Ex H H') : DaAll K H' ds vs := DaAll.mono e ds vs h
mutual
theorem Da.dp : ∀ (d : PyData) (v : V), Da K H d v → d.hasDict = false → Dp K H v d
  | .none, _, h, _ => by
    obtain rfl := h
    exact .non
  | .bool b, _, h, _ => by
    obtain rfl := h
    exact .bl b
  | .int i, _, h, _ => by
    obtain rfl := h
    exact .int i
  | .str x, _, h, _ => by
    obtain rfl := h
    exact .str x
  | .list ds, v, h, hd => by
    obtain ⟨a, xs, rfl, hs, ha, _⟩ := h
    exact .lst (.inl (.inl hs)) (DaAll.dp ds xs ha (by simpa only [PyData.hasDict] using hd))
  | .tuple ds, v, h, hd => by
    obtain ⟨a, xs, rfl, hs, ha⟩ := h
    exact .tup (.inl (.inl hs)) (DaAll.dp ds xs ha (by simpa only [PyData.hasDict] using hd))
  | .dict kd, v, h, hd => by
    simp only [PyData.hasDict] at hd
    cases hd
theorem DaAll.dp : ∀ (ds : List PyData) (vs : List V), DaAll K H ds vs → PyData.hasDictAll ds = false → DpAll K H vs ds
  | [], _, h, _ => by
    obtain rfl := h
    exact .nil
  | d :: ds, vs, h, hd => by
    obtain ⟨x, xs, rfl, h1, h2⟩ := h
    simp only [PyData.hasDictAll, Bool.or_eq_false_iff] at hd
    exact .cons (Da.dp d x h1 hd.1) (DaAll.dp ds xs h2 hd.2)
end
theorem DaAll.len : ∀ {ds : List PyData} {vs : List V}, DaAll K H ds vs → ds.length = vs.length
  | [], _, h => by
    obtain rfl := h
    exact Eq.refl _
  | d :: ds, vs, h => by
    obtain ⟨x, xs, rfl, _, h2⟩ := h
    rw [List.length_cons, List.length_cons, DaAll.len h2]
theorem DaAll.at : ∀ {ds : List PyData} {vs : List V} {i : Nat} {d : PyData}, DaAll K H ds vs → ds[i]? = some d → ∃ x, vs[i]? = some x ∧ Da K H d x
  | [], _, _, _, _, e => by simp at e
  | d :: ds, vs, 0, _, h, e => by
    obtain ⟨x, xs, rfl, h1, _⟩ := h
    cases e
    exact ⟨x, Eq.refl _, h1⟩
  | d :: ds, vs, i + 1, _, h, e => by
    obtain ⟨x, xs, rfl, _, h2⟩ := h
    simp only [List.getElem?_cons_succ] at e ⊢
    exact DaAll.at h2 e
theorem DaAll.at' : ∀ {ds : List PyData} {vs : List V} {i : Nat} {x : V}, DaAll K H ds vs → vs[i]? = some x → ∃ d, ds[i]? = some d ∧ Da K H d x
  | [], _, _, _, h, e => by
    obtain rfl := h
    simp at e
  | d :: ds, vs, 0, _, h, e => by
    obtain ⟨x, xs, rfl, h1, _⟩ := h
    cases e
    exact ⟨d, Eq.refl _, h1⟩
  | d :: ds, vs, i + 1, _, h, e => by
    obtain ⟨x, xs, rfl, _, h2⟩ := h
    simp only [List.getElem?_cons_succ] at e ⊢
    exact DaAll.at' h2 e
theorem DaAll.app : ∀ {ds es : List PyData} {vs ws : List V}, DaAll K H ds vs → DaAll K H es ws → DaAll K H (ds ++ es) (vs ++ ws)
  | [], _, _, _, h, g => by
    obtain rfl := h
    exact g
  | d :: ds, es, vs, ws, h, g => by
    obtain ⟨x, xs, rfl, h1, h2⟩ := h
    exact ⟨x, xs ++ ws, Eq.refl _, h1, DaAll.app h2 g⟩
theorem DaAll.ints : ∀ {ns : List Int} {vs : List V}, DaAll K H (ns.map PyData.int) vs ↔ vs = ns.map V.int
  | [], vs => Iff.rfl
  | n :: ns, vs => by
    constructor
    · rintro ⟨x, xs, rfl, rfl, h2⟩
      rw [List.map_cons, DaAll.ints.mp h2]
    · rintro rfl
      exact ⟨_, _, Eq.refl _, Eq.refl _, DaAll.ints.mpr (Eq.refl _)⟩
theorem DaAll.mem : ∀ {ds : List PyData} {vs : List V}, DaAll K H ds vs → ∀ x ∈ vs, ∃ d ∈ ds, Da K H d x
  | [], _, h, x, hx => by
    obtain rfl := h
    cases hx
  | d :: ds, vs, h, x, hx => by
    obtain ⟨y, ys, rfl, h1, h2⟩ := h
    rcases List.mem_cons.mp hx with rfl | hx
    · exact ⟨d, List.mem_cons_self, h1⟩
    · obtain ⟨e, he, hd⟩ := DaAll.mem h2 x hx
      exact ⟨e, List.mem_cons_of_mem _ he, hd⟩

/-! ### types -/
theorem tyx_l {a : Addr} {xs : List V} (h : SqL K H a xs) : TyX K H (.ref a) (.type "list") := by
  rcases h with (h | ⟨o, h⟩) | ⟨o, its, n, e, c, _⟩
  · exact .base (.lst h)
  · exact .base (.frz h)
  · exact .kList e c
theorem tyx_t {a : Addr} {xs : List V} (h : SqT K H a xs) : TyX K H (.ref a) (.type "tuple") := by
  rcases h with (h | ⟨o, h⟩) | ⟨o, its, n, e, c, _⟩
  · exact .base (.tup h)
  · exact .fTuple h
  · exact .kTuple e c
/-- the name of a datum's type -/
def tyName : PyData → String
  | .none => "NoneType"
  | .bool _ => "bool"
  | .int _ => "int"
  | .str _ => "str"
  | .list _ => "list"
  | .tuple _ => "tuple"
  | .dict _ => "dict"
theorem Da.ty : ∀ {d : PyData} {v : V}, Da K H d v → TyX K H v (.type (tyName d))
  | .none, _, h => by
    obtain rfl := h
    exact .base .non
  | .bool b, _, h => by
    obtain rfl := h
    exact .base (.bl b)
  | .int i, _, h => by
    obtain rfl := h
    exact .base (.int i)
  | .str x, _, h => by
    obtain rfl := h
    exact .base (.str x)
  | .list ds, v, h => by
    obtain ⟨a, xs, rfl, hs, _⟩ := h
    exact tyx_l (.inl (.inl hs))
  | .tuple ds, v, h => by
    obtain ⟨a, xs, rfl, hs, _⟩ := h
    exact tyx_t (.inl (.inl hs))
  | .dict kd, v, h => by
    obtain ⟨a, kvs, rfl, hs, _⟩ := h
    exact .base (.dK hs)
/-- isinstance by the types' names -/
def isN (T n : String) : Bool := T == n || (T == "int" && n == "bool")
/-- isinstance of data: int, bool, list, tuple, str -/
def isA (T : String) (d : PyData) : Bool := isN T (tyName d)
theorem isN_ok (T : String) (hT : T = "int" ∨ T = "bool" ∨ T = "list" ∨ T = "tuple" ∨ T = "str") (n : String)
    (hn : n = "NoneType" ∨ n = "bool" ∨ n = "int" ∨ n = "str" ∨ n = "list" ∨ n = "tuple" ∨ n = "dict") :
    PySem.W.kitOne K (.type n) (.type T) = some (isN T n) := by
  rcases hT with rfl | rfl | rfl | rfl | rfl <;> rcases hn with rfl | rfl | rfl | rfl | rfl | rfl | rfl <;> exact kit_ty (by decide +kernel)
theorem isA_ok (T : String) (hT : T = "int" ∨ T = "bool" ∨ T = "list" ∨ T = "tuple" ∨ T = "str") (d : PyData) :
    PySem.W.kitOne K (.type (tyName d)) (.type T) = some (isA T d) := isN_ok T hT _ (by cases d <;> simp [tyName])
end

/-! ### rules -/
section
variable {X : Cx}
theorem call_reprD {k : Nat} (hq : Quiet X.A) (hr : Room k X.A) : CallR X (.builtin "repr") (rReprD X.K) := by
  intro pins s σ H xs us Q I r h
  obtain ⟨x, d, rfl, hd, hs, hz, hdp, q⟩ := h
  obtain ⟨u, rfl, rx⟩ := Vals.one r
  obtain ⟨as, rd⟩ := Dp.reads I d x u hd rx
  have nd := dp_noDict d x hd
  have hu : X.A.units + 200 < cLine := by have := hr.un; omega
  have fin : ∀ h' u' tk, (∀ b o, s.heap.get? b = some o → h'.get? b = some o) →
      EP X pins σ Q (.str d.shown u') { s with heap := h', toks := tk } :=
    fun h' u' tk hk => ⟨.str d.shown, H, I.kept hk, ⟨_, rfl⟩, q⟩
  cases d with
  | none =>
    cases hd
    obtain rfl : u = Value.none := rx
    exact PySem.P.repr_of_none (fin s.heap _ _ fun _ _ e => e)
  | bool b =>
    cases hd
    obtain rfl : u = Value.bool b := rx
    exact PySem.P.repr_of_bool (fin s.heap _ _ fun _ _ e => e)
  | int i =>
    cases hd
    obtain ⟨t, rfl⟩ := rx
    exact PySem.P.repr_of_int (by simpa only [PyData.showable, decide_eq_true_eq] using hs) (fin s.heap _ _ fun _ _ e => e)
  | str z =>
    cases hd
    obtain ⟨t, rfl⟩ := rx
    exact PySem.P.repr_of_str (fin s.heap _ _ fun _ _ e => e) (by simpa only [PyData.shown] using hz)
  | list ds =>
    cases hd with
    | lst h1 h2 =>
      cases rx
      exact repr_of_reads' rd hs (PyData.noDict_hsm nd) hq (by omega) (fun _ _ e => e) fin hz
  | tuple ds =>
    cases hd with
    | tup h1 h2 =>
      cases rx
      exact repr_of_reads' rd hs (PyData.noDict_hsm nd) hq (by omega) (fun _ _ e => e) fin hz
  | dict kd => cases hd

/-- a ** b of great numbers -/
def CPowW (i j : Int) : Prop := 0 ≤ j ∧ j ≤ 100 ∧ i.natAbs < 2 ^ 10000
theorem op_powW : OpR X (binaryOp .Pow) (rI CPowW fun i j => .int (i ^ j.toNat)) := opI fun i j t u s A E hc q => by
  obtain ⟨h0, h8, hi⟩ := hc
  refine pow_int h0 ?_ q
  have hb : Builtin.Int.intBits i ≤ 10000 := by
    unfold Builtin.Int.intBits
    split
    · omega
    · rename_i hn
      have hne : i.natAbs ≠ 0 := by
        intro e
        exact hn (by simpa using e)
      have := (Nat.log2_lt hne).mpr hi
      omega
  have h1 : (Builtin.Int.intBits i : Int) * j ≤ 10000 * 100 := Int.mul_le_mul (by omega) h8 h0 (by omega)
  omega
end
end Nw
namespace Nw
open PySem PySem.Spec PyProof.Rows L2
section
variable {P : Program} {w : World} {K : PySem.W.Frag} {mg : Str → Option Value} {base : Heap}
/-- a def that lets no exception out -/
theorem okG0 {x qual : Str} {st : Stmt} {f : Addr} {fd : FuncData} {N ps : List Str} {k : Nat} {sp : Sp}
    (F : Fun K x qual st f fd) (S : FnScope N ps (defScope st)) (len : ∀ vs H Q E, sp vs H Q E → vs.length = ps.length)
    (hbody : ∀ (cdv : Value) (A : Around) (outer : List Env) (s : Shared) (H : Hp) (vs : List V) (Q : VK) (E : XK),
      Room k (A.deeper (envOfC qual (defScope st) s.heap.objs.size f cdv)) →
      Quiet (A.deeper (envOfC qual (defScope st) s.heap.objs.size f cdv)) → sp vs H Q E →
      ∃ t, PSs (cxOf CX0 P w K mg base N qual (defScope st) f cdv A outer s H E).nox (defBody st) t ∧
        t { nx := fun _ H' => Q .non H', rt := Q } (start N vs) H) : FnG P w K mg base CX0 (k + 1) f fd ps sp :=
  okG F S len fun cdv A outer s H vs Q E hr hq hsp => by
    obtain ⟨t, h, q⟩ := hbody cdv A outer s H vs Q E hr hq hsp
    exact ⟨t, h.nox, q⟩
end
theorem pe_globI {X : Cx} {x : Str} {n : Int} {pos : Pos} (hm : ∃ t, X.mg x = some (.int n t)) (hg : Gl X x := by rfl)
    (hd : (x == ("__debug__" : Str)) = false := by decide) : PE X (.Name x pos) (tC (.int n)) := by
  obtain ⟨t, h⟩ := hm
  exact pe_glob hg h ⟨t, rfl⟩ hd
theorem pe_bty {X : Cx} {x : Str} {n : String} {pos : Pos} (hm : X.mg x = none) (hv : bootBuiltins x = some (.type n)) (hg : Gl X x := by rfl)
    (hn : x ≠ "__name__" := by decide) (hd : (x == ("__debug__" : Str)) = false := by decide) : PE X (.Name x pos) (tC (.ty n)) :=
  pe_bltn hg hm hv rfl hn hd
theorem bt_isinstance : bootBuiltins "isinstance" = some (.builtin "isinstance") := by decide +kernel
theorem bt_len : bootBuiltins "len" = some (.builtin "len") := by decide +kernel
theorem bt_all : bootBuiltins "all" = some (.builtin "all") := by decide +kernel
theorem bt_any : bootBuiltins "any" = some (.builtin "any") := by decide +kernel
theorem bt_sum : bootBuiltins "sum" = some (.builtin "sum") := by decide +kernel
theorem bt_repr : bootBuiltins "repr" = some (.builtin "repr") := by decide +kernel
theorem bt_abs : bootBuiltins "abs" = some (.builtin "abs") := by decide +kernel
theorem bt_max : bootBuiltins "max" = some (.builtin "max") := by decide +kernel
theorem bt_min : bootBuiltins "min" = some (.builtin "min") := by decide +kernel
theorem bt_sorted : bootBuiltins "sorted" = some (.builtin "sorted") := by decide +kernel
theorem bt_int : bootBuiltins "int" = some (.type "int") := by decide +kernel
theorem bt_bool : bootBuiltins "bool" = some (.type "bool") := by decide +kernel
theorem bt_str : bootBuiltins "str" = some (.type "str") := by decide +kernel
theorem bt_list : bootBuiltins "list" = some (.type "list") := by decide +kernel
theorem bt_tuple : bootBuiltins "tuple" = some (.type "tuple") := by decide +kernel
theorem bt_set : bootBuiltins "set" = some (.type "set") := by decide +kernel
/-- isinstance(x, T) of data -/
theorem isi_da {K : PySem.W.Frag} {H : Hp} {d : PyData} {v : V} {T : String} {Q : VK} (h : Da K H d v)
    (hT : T = "int" ∨ T = "bool" ∨ T = "list" ∨ T = "tuple" ∨ T = "str") (q : Q (.bl (isA T d)) H) : rIsi K [v, .ty T] H Q :=
  ⟨v, .ty T, _, _, _, rfl, .ty T, h.ty, isA_ok T hT d, q⟩
theorem start_eq {N : List Str} {vs : List V} : start N vs = vs.map some ++ List.replicate (N.length - vs.length) none := rfl
end Nw
/-! repr of data with dicts: sys.modules has to be told apart, which the top knows. -/
namespace Nw
open PySem PySem.Spec PyProof.Rows L2
abbrev SysAt (base : Heap) : Prop := ∃ mm, base.Ns sysModules mm
section
variable {X : Cx} {pins : List (Addr × Obj)} {σ : L2.St} {H : Hp} {s : Shared}
theorem sys_no_list (I : Inv X pins σ H s) (SM : SysAt X.base) {a : Addr} {o : Obj} {vs : Array Value} {n : Nat} (h : s.heap.get? a = some o) (hd : o.data = .seq vs n) : a ≠ sysModules := by
  rintro rfl
  obtain ⟨mm, o2, es, ep, e, d, _⟩ := SM
  have h2 := I.bk _ _ e
  rw [h] at h2
  cases h2
  rw [hd] at d
  cases d
theorem reads_keys : ∀ {kd : List PyData} {kvs : List (Key × V)} {vs : List (Key × Value)} {es : List DictEntry} {h : Heap} {P : Program} {w : World}, (kvs.map fun kv => keyD kv.1) = kd → KV kvs vs → Pairs (mixKind P w) es vs →
    ReadsAll h (es.map (·.key)) kd [] ∧ Vals (kvs.map (·.2)) (es.map (·.val))
  | [], [], _, _, _, _, _, _, .nil, .nil => ⟨.nil, .nil⟩
  | [], _ :: _, _, _, _, _, _, hk, _, _ => by simp at hk
  | _ :: _, [], _, _, _, _, _, hk, _, _ => by simp at hk
  | k :: kd, (k', v') :: kvs, _, _, h, P, w, hk, .cons (a := _) (b := q) ⟨e1, r1⟩ t, .cons (e := en) hk2 hv t2 => by
    simp only [List.map_cons, List.cons.injEq] at hk
    obtain ⟨rfl, hk3⟩ := hk
    obtain ⟨ih1, ih2⟩ := reads_keys (h := h) (P := P) (w := w) hk3 t t2
    simp only at e1 r1
    subst e1
    have hkey : Reads h en.key (keyD q.1) [] := by
      rcases keyIs_shape (show keyIs q.1 en.key = true from hk2) with ⟨i, t, e, e'⟩ | ⟨x, t, e, e'⟩
      · rw [e', e]
        exact .int i t
      · rw [e', e]
        exact .str x t
    simp only [List.map_cons]
    rw [hv]
    exact ⟨.cons (as := []) (bs := []) hkey ih1, .cons r1 ih2⟩
mutual
theorem Da.reads (I : Inv X pins σ H s) (SM : SysAt X.base) : ∀ (d : PyData) (v : V) (u : Value), Da X.K H d v → RelV v u → ∃ as, Reads s.heap u d as ∧ sysModules ∉ as
  | .none, _, _, h, r => by
    obtain rfl := h
    cases r
    exact ⟨_, .none, by simp⟩
  | .bool b, _, _, h, r => by
    obtain rfl := h
    cases r
    exact ⟨_, .bool b, by simp⟩
  | .int i, _, _, h, r => by
    obtain rfl := h
    obtain ⟨t, rfl⟩ := r
    exact ⟨_, .int i t, by simp⟩
  | .str x, _, _, h, r => by
    obtain rfl := h
    obtain ⟨t, rfl⟩ := r
    exact ⟨_, .str x t, by simp⟩
  | .list ds, _, _, h, r => by
    obtain ⟨a, xs, rfl, hs, ha, _⟩ := h
    cases r
    obtain ⟨its, rv, ⟨o, n, ho, hc, _, hd⟩, _⟩ := I.list (.inl (.inl hs))
    obtain ⟨as, hr, hn⟩ := Da.readsAll I SM ds _ its ha rv
    refine ⟨_, Reads.list ho hc hd hr, fun hm => ?_⟩
    rcases List.mem_cons.mp hm with e | hm
    · exact sys_no_list I SM ho hd e.symm
    · exact hn hm
  | .tuple ds, _, _, h, r => by
    obtain ⟨a, xs, rfl, hs, ha⟩ := h
    cases r
    obtain ⟨its, rv, ⟨o, ho, hc, n, hd⟩, _⟩ := I.tuple (.inl (.inl hs))
    obtain ⟨as, hr, hn⟩ := Da.readsAll I SM ds _ its ha rv
    exact ⟨_, Reads.tuple ho hc hd hr, hn⟩
  | .dict kd, _, _, h, r => by
    obtain ⟨a, kvs, rfl, hs, hk, hv⟩ := h
    cases r
    obtain ⟨_, lo, vs, rk, o, es, ep, h1, h2, h3, _, h5, _⟩ := dk_of I.hok hs
    obtain ⟨g1, g2⟩ := reads_keys (h := s.heap) hk rk h5
    obtain ⟨as, g3, g4⟩ := Da.readsKv I SM kd _ _ hv g2
    refine ⟨_, Reads.dict h1 h2.1 h3 g1 g3, fun hm => ?_⟩
    rcases List.mem_cons.mp hm with hm | hm
    · rw [← hm] at lo
      simp at lo
    · exact g4 hm
theorem Da.readsAll (I : Inv X pins σ H s) (SM : SysAt X.base) : ∀ (ds : List PyData) (vs : List V) (us : List Value), DaAll X.K H ds vs → Vals vs us → ∃ as, ReadsAll s.heap us ds as ∧ sysModules ∉ as
  | [], _, _, h, r => by
    obtain rfl := h
    cases r
    exact ⟨_, .nil, by simp⟩
  | d :: ds, _, _, h, r => by
    obtain ⟨x, xs, rfl, h1, h2⟩ := h
    cases r with
    | cons r1 r2 =>
      obtain ⟨as, q1, n1⟩ := Da.reads I SM d _ _ h1 r1
      obtain ⟨bs, q2, n2⟩ := Da.readsAll I SM ds _ _ h2 r2
      refine ⟨_, .cons q1 q2, fun hm => ?_⟩
      rcases List.mem_append.mp hm with hm | hm
      · exact n1 hm
      · exact n2 hm
theorem Da.readsKv (I : Inv X pins σ H s) (SM : SysAt X.base) : ∀ (ds : List (PyData × PyData)) (vs : List V) (us : List Value), DaKv X.K H ds vs → Vals vs us → ∃ as, ReadsAll s.heap us (ds.map (·.2)) as ∧ sysModules ∉ as
  | [], _, _, h, r => by
    obtain rfl := h
    cases r
    exact ⟨_, .nil, by simp⟩
  | (_, d) :: ds, _, _, h, r => by
    obtain ⟨x, xs, rfl, h1, h2⟩ := h
    cases r with
    | cons r1 r2 =>
      obtain ⟨as, q1, n1⟩ := Da.reads I SM d _ _ h1 r1
      obtain ⟨bs, q2, n2⟩ := Da.readsKv I SM ds _ _ h2 r2
      refine ⟨_, .cons q1 q2, fun hm => ?_⟩
      rcases List.mem_append.mp hm with hm | hm
      · exact n1 hm
      · exact n2 hm
end
end
/-- repr(x), x any data -/
def rReprS (K : PySem.W.Frag) : List V → Hp → VK → Prop := fun xs H Q =>
  ∃ x d, xs = [x] ∧ Da K H d x ∧ d.showable = true ∧ d.shown.length ≤ sizeLine ∧ d.depth ≤ 60 ∧ Q (.str d.shown) H
section
variable {X : Cx}
theorem call_reprS (K : PySem.W.Frag) {k : Nat} (hq : Quiet X.A) (hr : Room k X.A) (SM : SysAt X.base) (hK : X.K = K := by rfl) : CallR X (.builtin "repr") (rReprS K) := by
  subst hK
  intro pins s σ H xs us Q I r h
  obtain ⟨x, d, rfl, hd, hs, hz, hdp, q⟩ := h
  obtain ⟨u, rfl, rx⟩ := Vals.one r
  obtain ⟨as, rd, hn⟩ := Da.reads I SM d x u hd rx
  have hu : X.A.units + 200 < cLine := by have := hr.un; omega
  have fin : ∀ h' u' tk, (∀ b o, s.heap.get? b = some o → h'.get? b = some o) →
      EP X pins σ Q (.str d.shown u') { s with heap := h', toks := tk } :=
    fun h' u' tk hk => ⟨.str d.shown, H, I.kept hk, ⟨_, rfl⟩, q⟩
  cases d with
  | none =>
    obtain rfl := hd
    obtain rfl : u = Value.none := rx
    exact PySem.P.repr_of_none (fin s.heap _ _ fun _ _ e => e)
  | bool b =>
    obtain rfl := hd
    obtain rfl : u = Value.bool b := rx
    exact PySem.P.repr_of_bool (fin s.heap _ _ fun _ _ e => e)
  | int i =>
    obtain rfl := hd
    obtain ⟨t, rfl⟩ := rx
    exact PySem.P.repr_of_int (by simpa only [PyData.showable, decide_eq_true_eq] using hs) (fin s.heap _ _ fun _ _ e => e)
  | str z =>
    obtain rfl := hd
    obtain ⟨t, rfl⟩ := rx
    exact PySem.P.repr_of_str (fin s.heap _ _ fun _ _ e => e) (by simpa only [PyData.shown] using hz)
  | list ds =>
    obtain ⟨a, xs, rfl, _⟩ := hd
    cases rx
    exact repr_of_reads' rd hs (fun _ => hn) hq (by omega) (fun _ _ e => e) fin hz
  | tuple ds =>
    obtain ⟨a, xs, rfl, _⟩ := hd
    cases rx
    exact repr_of_reads' rd hs (fun _ => hn) hq (by omega) (fun _ _ e => e) fin hz
  | dict kd =>
    obtain ⟨a, xs, rfl, _⟩ := hd
    cases rx
    exact repr_of_reads' rd hs (fun _ => hn) hq (by omega) (fun _ _ e => e) fin hz
end
section
variable {P : Program} {w : World} {K : PySem.W.Frag}
theorem law_callS {mg mb : Str → Option Value} {CX : CXT} {k : Nat} {fa a : Addr} {fd : FuncData} {x : Str} {sp : Sp}
    {s1 : Shared} {vs : List Value} {ns : List Int}
    (KX : K.In s1.heap) (hns : s1.heap.Ns mainGlobals mg) (hb : s1.heap.Ns builtinsNs mb)
    (hbb : ∀ x : Str, x ≠ "__name__" → mb x = bootBuiltins x) (hlim : s1.heap.NoLimit) (hg : s1.gens = #[])
    (ha : s1.heap.get? a = some { cls := .type "list", data := .seq vs.toArray }) (hi : IntsAre vs ns)
    (hl : ns.length ≤ sizeLine) (hr : Room k callerA)
    (hsys : ∃ mm, s1.heap.Ns sysModules mm)
    (F : ∀ base : Heap, K.In base → base.Ns mainGlobals mg → SysAt base → FnG P w K mg base CX k fa fd [x] sp)
    (hbind : ∀ (s : Shared) (u : Value), BindsTo s fd ⟨[u], []⟩ [(x, u)])
    (hsp : ∀ H : Hp, Only H → SqL K H a (ns.map V.int) → sp [.ref a] H (fun v _ => v = .bl true) fun _ _ _ => False)
    (hCX : ∀ H e s', CX [] H s1 (fun _ _ _ => False) e s' → False) :
    codeAny (model P w) callerA (.call (.ref fa) ⟨[.ref a], []⟩)
      (fun r s' => r = .ok (.ret (.bool true)) ∧ OldK s1.heap s'.heap ∧ s'.os = s1.os ∧ AllBare s'.gens) s1 := by
  have rv := vals_ints hi
  have lenV := hi.length
  have core : ∀ H : Hp, Only H → SqL K H a (ns.map V.int) → HOk P w H s1.heap →
      (∀ b, H b ≠ none → b = a) → (H a ≠ none → K.lookup a = none) →
      codeAny (model P w) callerA (.call (.ref fa) ⟨[.ref a], []⟩)
        (fun r s' => r = .ok (.ret (.bool true)) ∧ OldK s1.heap s'.heap ∧ s'.os = s1.os ∧ AllBare s'.gens) s1 := by
    intro H hO hS hok hA hK
    have fromH : ∀ {b : Addr} {o : Obj}, s1.heap.get? b = some o → H b = none →
        (hidT s1.heap H).get? b = some o := fun e n => hidT_get e n
    have free : ∀ {b : Addr} {o : Obj} {es : Array DictEntry} {ep : Nat},
        s1.heap.get? b = some o → o.data = .dict es ep → H b = none := by
      intro b o es ep e d
      cases q : H b with
      | none => rfl
      | some u =>
        have e' : b = a := hA b (by rw [q]; exact fun z => nomatch z)
        subst e'
        rw [ha] at e
        cases e
        exact nomatch d
    have nsK : ∀ {b : Addr} {m : Str → Option Value}, s1.heap.Ns b m → (hidT s1.heap H).Ns b m := by
      rintro b m ⟨o, es, ep, e, d, r⟩
      exact ⟨o, es, ep, fromH e (free e d), d, r⟩
    have hKb : K.In (hidT s1.heap H) := by
      intro b o e
      refine fromH (KX b o e) ?_
      cases q : H b with
      | none => rfl
      | some u =>
        have e' : b = a := hA b (by rw [q]; exact fun z => nomatch z)
        subst e'
        rw [hK (by rw [q]; exact fun z => nomatch z)] at e
        cases e
    have hM : Mod K mg (hidT s1.heap H) := by
      obtain ⟨mc, h1, h2⟩ := hlim
      exact ⟨hKb, nsK hns, ⟨mb, nsK hb, hbb⟩, ⟨mc, nsK h1, h2⟩⟩
    have e0 : Env0 P w K mg (hidT s1.heap H) callerA [] s1 H :=
      ⟨rfl, hM, fun b o e => of_hidT e, Nat.le_of_eq (hidT_size _ _), trivial,
        fun b hb => (List.not_mem_nil hb).elim, hok, .of_eq hg⟩
    refine codeAny_mono ((F _ hKb (nsK hns) (by obtain ⟨mm, hm⟩ := hsys; exact ⟨mm, nsK hm⟩)).run callerA [] s1 H ⟨[.ref a], []⟩ [.ref a] [.ref a] _ _ hr rfl e0
      (hbind s1 (.ref a)) (.cons rfl .nil) (hsp H hO hS)) ?_
    intro r s' h
    cases r with
    | error e => exact (hCX H e s' h).elim
    | ok fl =>
      cases fl with
      | next => exact (show False from h).elim
      | brk => exact (show False from h).elim
      | cont => exact (show False from h).elim
      | ret u =>
        obtain ⟨v, H', os, bare, un, hok', r', q⟩ := h
        have q' : v = .bl true := q
        subst q'
        obtain rfl : u = Value.bool true := r'
        refine ⟨rfl, OldK.of_keep ?_, os, bare⟩
        intro b o e
        cases q : H b with
        | none => exact un.keep b o e q (fun z => (List.not_mem_nil z).elim) (fun z => (List.not_mem_nil z).elim)
        | some u =>
          rcases hO b with z | ⟨ob, xs, z⟩
          · rw [q] at z
            cases z
          · obtain ⟨e1, _⟩ := hok b _ z
            obtain ⟨e2, _⟩ := hok' b _ (un.frzs b ob _ z)
            rw [e] at e1
            cases e1
            exact e2
  cases hk : K.lookup a with
  | some o =>
    have e := KX a o hk
    rw [ha] at e
    cases e
    exact core (fun _ => none) (fun _ => .inl rfl)
      (.inr ⟨_, vs.toArray, _, hk, rfl, rfl, rfl, by rw [List.size_toArray, lenV]; exact hl, by simpa using rv⟩)
      (fun b u z => nomatch z) (fun b z => (z rfl).elim) (fun z => (z rfl).elim)
  | none =>
    refine core (fun b => if b = a then some (.frz { cls := .type "list", data := .seq vs.toArray } (.lst (ns.map V.int))) else none)
      ?_ (.inl (.inr ⟨{ cls := .type "list", data := .seq vs.toArray }, if_pos rfl⟩)) ?_ ?_ (fun _ => hk)
    · intro b
      by_cases hb : b = a
      · exact .inr ⟨_, _, if_pos hb⟩
      · exact .inl (if_neg hb)
    · intro b u z
      by_cases hb : b = a
      · have z' := (if_pos hb).symm.trans z
        cases z'
        subst hb
        exact ⟨ha, by rw [List.length_map]; exact hl, vs, _, rv, ha⟩
      · have z' := (if_neg hb).symm.trans z
        cases z'
    · intro b z
      by_cases hb : b = a
      · exact hb
      · exact (z (if_neg hb)).elim
end

theorem walkS {l : PySem.W.OpenLaw} {n k : Nat} {q : Program} {loose : List Str} {XP : (Str → Option Value) → Heap → Prop}
    {YP : World → Heap → Prop} {d : DefRec} {K : Params → PySem.W.Frag} {CX : World → CXT} {sp : World → Sp} {x : Str}
    (hi : PyProof.Rows.importsNone q = true) (hn : l.most = some n) (hn2 : n ≤ sizeLine) (hdf : d.params.defaults = []) (hr : Room k callerA)
    (hY : ∀ (w : World) (h : Heap), YP w h → (K w.params).In h)
    (F : ∀ (w : World) (mg : Str → Option Value) (fa : Addr) (h : Heap), (K w.params).In h → h.Ns mainGlobals mg →
      mg d.name = some (.ref fa) → ∃ fd : FuncData, (∀ (s : Shared) (u : Value), BindsTo s fd ⟨[u], []⟩ [(x, u)]) ∧
        ∀ base : Heap, (K w.params).In base → base.Ns mainGlobals mg → SysAt base →
          FnG l.prog w (K w.params) mg base (CX w) k fa fd [x] (sp w))
    (hsp : ∀ (w : World) (H : Hp) (a : Addr) (ns : List Int), ns.length ≤ n → Only H →
      SqL (K w.params) H a (ns.map V.int) → sp w [.ref a] H (fun v _ => v = .bl true) fun _ _ _ => False)
    (hCX : ∀ (w : World) (H : Hp) (s : Shared) (e : Value) (s' : Shared), CX w [] H s (fun _ _ _ => False) e s' → False) :
    PySem.W.WalkO q loose XP YP l.row.toRowW d [] (fun f vs => PySem.call f vs) := by
  refine Att.attach_call hn hdf ?_
  intro w s0 s1 mg mb fa o pm cd doc a vs ns G Y ho hd hcd hmg hobj hints hlen hg
  obtain ⟨fd, hb, hF⟩ := F w mg fa _ (hY w _ Y) G.T.g hmg
  exact law_callS (hY w _ Y) G.T.g G.T.b G.T.builtins G.T.nolimit hg hobj hints (Nat.le_trans hlen hn2) hr (by obtain ⟨mm, hm, _⟩ := (G.T.seer hi).mods; exact ⟨mm, hm⟩) hF hb
    (fun H hO hS => hsp w H a ns hlen hO hS) (fun H e s' => hCX w H s1 e s')

end Nw
/-! Walks of anything by one word. -/
namespace Nw
open PySem PySem.Spec PyProof.Rows L2

/-- what a comprehension's reading asks, D its new list -/
abbrev LcW (J : It) (g : TG) (tt : TT) (te : TE) (vs : List Nat) (σ : L2.St) (D : Addr) (H1 : Hp) (Qd : Hp → Prop) : Prop :=
  ∃ W : Nat → Nat → Hp → Prop, (∃ m, W 0 m (upd H1 D (.lst []))) ∧ ∀ i m H, W i m H →
    (J.stop i H ∧ Qd H) ∨ (J.go i H ∧ ∃ Nx : Hp → Prop, (∀ H', Nx H' → ∃ m', m' < m ∧ W (i + 1) m' H') ∧
      ∀ x H', J.yld i H x H' → g x (wipe σ vs) H' fun σ2 H2 => wipe σ2 vs = wipe σ vs ∧ tt σ2 H2 fun b H3 =>
        if b = true then te σ2 H3 fun y H4 => ∃ acc, H4 D = some (.lst acc) ∧ acc.length < sizeLine ∧
          Nx (upd H4 D (.lst (acc ++ [y]))) else Nx H3)
theorem lc_by {J : It} {g : TG} {tt : TT} {te : TE} {vs : List Nat} {σ : L2.St} {D : Addr} {H1 : Hp} {Qd : Hp → Prop}
    (n : Nat) (Pv : Nat → Hp → Prop) (h0 : Pv 0 (upd H1 D (.lst [])))
    (hgo : ∀ i H, i < n → Pv i H → J.go i H) (hst : ∀ H, Pv n H → J.stop n H)
    (hs : ∀ i H x H', i < n → Pv i H → J.yld i H x H' → g x (wipe σ vs) H' fun σ2 H2 => wipe σ2 vs = wipe σ vs ∧
      tt σ2 H2 fun b H3 => if b = true then te σ2 H3 fun y H4 => ∃ acc, H4 D = some (.lst acc) ∧ acc.length < sizeLine ∧
        Pv (i + 1) (upd H4 D (.lst (acc ++ [y]))) else Pv (i + 1) H3)
    (hd : ∀ H, Pv n H → Qd H) : LcW J g tt te vs σ D H1 Qd := by
  refine ⟨fun i m H => m = n - i ∧ i ≤ n ∧ Pv i H, ⟨n, by omega, Nat.zero_le _, h0⟩, ?_⟩
  rintro i m H ⟨rfl, hi, p⟩
  by_cases hlt : i < n
  · refine .inr ⟨hgo i H hlt p, Pv (i + 1), fun H' p' => ⟨n - (i + 1), by omega, rfl, hlt, p'⟩, ?_⟩
    intro x H' y
    exact hs i H x H' hlt p y
  · have e : i = n := by omega
    subst e
    exact .inl ⟨hst H p, hd H p⟩
theorem for_by {J : It} {g : TG} {tb : TS} {D : Ends} {σ : L2.St} {H1 : Hp} (n : Nat) (Pv : Nat → L2.St → Hp → Prop) (h0 : Pv 0 σ H1)
    (hgo : ∀ i σ H, i < n → Pv i σ H → J.go i H) (hst : ∀ σ H, Pv n σ H → J.stop n H)
    (hs : ∀ i σ H x H', i < n → Pv i σ H → J.yld i H x H' →
      g x σ H' fun σ2 H2 => tb { D with nx := Pv (i + 1), ct := Pv (i + 1), bk := D.nx } σ2 H2)
    (hd : ∀ σ H, Pv n σ H → D.nx σ H) :
    ∃ W : Nat → Nat → L2.St → Hp → Prop, (∃ m, W 0 m σ H1) ∧ ∀ i m σ H, W i m σ H →
      (J.stop i H ∧ D.nx σ H) ∨ (J.go i H ∧ ∃ N : L2.St → Hp → Prop, (∀ σ' H', N σ' H' → ∃ m', m' < m ∧ W (i + 1) m' σ' H') ∧
        ∀ x H', J.yld i H x H' → g x σ H' fun σ2 H2 => tb { D with nx := N, ct := N, bk := D.nx } σ2 H2) := by
  refine ⟨fun i m σ H => m = n - i ∧ i ≤ n ∧ Pv i σ H, ⟨n, by omega, Nat.zero_le _, h0⟩, ?_⟩
  rintro i m σ H ⟨rfl, hi, p⟩
  by_cases hlt : i < n
  · refine .inr ⟨hgo i σ H hlt p, Pv (i + 1), fun σ' H' p' => ⟨n - (i + 1), by omega, rfl, hlt, p'⟩, ?_⟩
    intro x H' y
    exact hs i σ H x H' hlt p y
  · have e : i = n := by omega
    subst e
    exact .inl ⟨hst σ H p, hd σ H p⟩

/-- what is known but at D stays known -/
abbrev ExD (D : Addr) (H H' : Hp) : Prop := ∀ b o, b ≠ D → H b = some o → H' b = some o
theorem Ex.d {D : Addr} {H H' : Hp} (e : Ex H H') : ExD D H H' := fun b o _ h => e b o h
theorem ExD.put {D : Addr} {H : Hp} {o : HO} : ExD D H (upd H D o) := fun b u n h => by
  rw [upd_ne n]
  exact h
theorem ExD.tr {D : Addr} {H H1 H2 : Hp} (a : ExD D H H1) (b : ExD D H1 H2) : ExD D H H2 := fun c o n h => b c o n (a c o n h)
/-- item by item over the turns that give -/
def Given (n : Nat) (f : Nat → Bool) (R : Nat → V → Prop) (ys : List V) : Prop := Paired R ((List.range n).filter f) ys
theorem Given.nil {f : Nat → Bool} {R : Nat → V → Prop} : Given 0 f R [] := Paired.nil
theorem paired_app {α β : Type} {F : α → β → Prop} : ∀ {as : List α} {bs : List β} {as' : List α} {bs' : List β}, Paired F as bs → Paired F as' bs' → Paired F (as ++ as') (bs ++ bs')
  | _, _, _, _, .nil, h => h
  | _, _, _, _, .cons r t, h => .cons r (paired_app t h)
theorem Given.yes {n : Nat} {f : Nat → Bool} {R : Nat → V → Prop} {ys : List V} {y : V} (h : Given n f R ys) (hf : f n = true) (r : R n y) : Given (n + 1) f R (ys ++ [y]) := by
  unfold Given
  rw [List.range_succ, List.filter_append, List.filter_cons, if_pos hf]
  exact paired_app h (Paired.cons r Paired.nil)
theorem Given.no {n : Nat} {f : Nat → Bool} {R : Nat → V → Prop} {ys : List V} (h : Given n f R ys) (hf : f n = false) : Given (n + 1) f R ys := by
  unfold Given
  rw [List.range_succ, List.filter_append, List.filter_cons, if_neg (by rw [hf]; decide)]
  rw [List.filter_nil, List.append_nil]
  exact h
theorem paired_imp {α β : Type} {F G : α → β → Prop} (h : ∀ a b, F a b → G a b) : ∀ {as : List α} {bs : List β}, Paired F as bs → Paired G as bs
  | _, _, .nil => .nil
  | _, _, .cons r t => .cons (h _ _ r) (paired_imp h t)
theorem Given.imp {n : Nat} {f : Nat → Bool} {R S : Nat → V → Prop} {ys : List V} (g : Given n f R ys) (h : ∀ i y, R i y → S i y) : Given n f S ys := paired_imp h g
theorem Given.len {n : Nat} {f : Nat → Bool} {R : Nat → V → Prop} {ys : List V} (g : Given n f R ys) : ys.length ≤ n := by
  have h := Paired.length g
  have h2 := List.length_filter_le f (List.range n)
  rw [List.length_range] at h2
  omega
theorem paired_eq {α β : Type} {v : α → β} : ∀ {as : List α} {bs : List β}, Paired (fun a b => b = v a) as bs → bs = as.map v
  | _, _, .nil => rfl
  | _, _, .cons r t => by
    rw [List.map_cons, ← r, ← paired_eq t]
/-- what each turn gives is told outright -/
theorem Given.eq {n : Nat} {f : Nat → Bool} {v : Nat → V} {ys : List V} (g : Given n f (fun i y => y = v i) ys) : ys = ((List.range n).filter f).map v := paired_eq g
theorem filter_true {α : Type} (l : List α) : l.filter (fun _ => true) = l := List.filter_eq_self.mpr fun _ _ => rfl
theorem Given.all {n : Nat} {v : Nat → V} {ys : List V} (g : Given n (fun _ => true) (fun i y => y = v i) ys) : ys = (List.range n).map v := by
  have h := g.eq
  rw [filter_true] at h
  exact h

/-- a comprehension that changes nothing that was there: f which turns give, R what (not hanging on D) -/
theorem lc_ev {J : It} {g : TG} {tt : TT} {te : TE} {vs : List Nat} {σ : L2.St} {D : Addr} {H1 : Hp} {Qd : Hp → Prop}
    (n : Nat) (f : Nat → Bool) (R : Nat → V → Hp → Prop) (hz : n ≤ 100000) (hD : H1 D = none)
    (mono : ∀ i y H H', ExD D H H' → R i y H → R i y H')
    (hgo : ∀ i H, i < n → Ex H1 H → J.go i H) (hst : ∀ H, Ex H1 H → J.stop n H)
    (hs : ∀ i H x H', i < n → Ex H1 H → (∃ acc, H D = some (.lst acc)) → J.yld i H x H' → ∀ (Q : V → Hp → Prop) (N : Hp → Prop),
      (f i = true → ∀ y H4, Ex H H4 → R i y H4 → Q y H4) → (f i = false → ∀ H4, Ex H H4 → N H4) →
      g x (wipe σ vs) H' fun σ2 H2 => wipe σ2 vs = wipe σ vs ∧ tt σ2 H2 fun b H3 => if b = true then te σ2 H3 Q else N H3)
    (hd : ∀ ys H, Ex H1 H → H D = some (.lst ys) → Given n f (fun i y => R i y H) ys → Qd H) : LcW J g tt te vs σ D H1 Qd := by
  refine lc_by n (fun i H => Ex H1 H ∧ ∃ ys, H D = some (.lst ys) ∧ Given i f (fun i y => R i y H) ys)
    ⟨Ex.nw hD, [], upd_same, .nil⟩ (fun i H hi p => hgo i H hi p.1) (fun H p => hst H p.1) ?_ ?_
  · rintro i H x H' hi ⟨e, ys, hy, gv⟩ y
    refine hs i H x H' hi e ⟨_, hy⟩ y _ _ ?_ ?_
    · intro hf z H4 e4 r
      refine ⟨ys, e4 D _ hy, by have := gv.len; have e1 : sizeLine = 16777216 := sizeLine_eq; omega, (e.tr e4).wr hD, _, upd_same, ?_⟩
      exact (gv.imp fun j y r' => mono j y _ _ (e4.d.tr ExD.put) r').yes hf (mono i z _ _ ExD.put r)
    · intro hf H4 e4
      exact ⟨e.tr e4, ys, e4 D _ hy, (gv.imp fun j y r' => mono j y _ _ e4.d r').no hf⟩
  · rintro H ⟨e, ys, hy, gv⟩
    exact hd ys H e hy gv
/-- turns over a list that stands -/
theorem itl_go {K : PySem.W.Frag} {H H' : Hp} {a : Addr} {xs : List V} (h : SqL K H a xs) (e : Ex H H') {i : Nat} (hi : i < xs.length) : (Itl K a).go i H' :=
  ⟨xs, xs[i], e.l h, List.getElem?_eq_getElem hi⟩
theorem itl_stop {K : PySem.W.Frag} {H H' : Hp} {a : Addr} {xs : List V} (h : SqL K H a xs) (e : Ex H H') : (Itl K a).stop xs.length H' :=
  ⟨xs, e.l h, Nat.le_refl _⟩
theorem itl_yld {K : PySem.W.Frag} {H H' H'' : Hp} {a : Addr} {xs : List V} {i : Nat} {x : V} (y : (Itl K a).yld i H' x H'') (h : SqL K H a xs) (e : Ex H H') : H'' = H' ∧ xs[i]? = some x :=
  ⟨y.1, y.2 xs (e.l h)⟩
theorem itz_go {K : PySem.W.Frag} {H H' : Hp} {a b : Addr} {xs ys : List V} (h : SqL K H a xs) (g : SqL K H b ys) (e : Ex H H') {i : Nat} (hi : i < min xs.length ys.length) : (Itz K a b).go i H' :=
  ⟨xs, ys, xs[i]'(by omega), ys[i]'(by omega), e.l h, e.l g, List.getElem?_eq_getElem _, List.getElem?_eq_getElem _⟩
theorem itz_stop {K : PySem.W.Frag} {H H' : Hp} {a b : Addr} {xs ys : List V} (h : SqL K H a xs) (g : SqL K H b ys) (e : Ex H H') : (Itz K a b).stop (min xs.length ys.length) H' :=
  ⟨xs, ys, e.l h, e.l g, by omega⟩
theorem ite_go {K : PySem.W.Frag} {H H' : Hp} {a : Addr} {xs : List V} (h : SqL K H a xs) (e : Ex H H') {i : Nat} (hi : i < xs.length) : (Ite K a).go i H' :=
  ⟨xs, xs[i], e.l h, List.getElem?_eq_getElem hi⟩
theorem ite_stop {K : PySem.W.Frag} {H H' : Hp} {a : Addr} {xs : List V} (h : SqL K H a xs) (e : Ex H H') : (Ite K a).stop xs.length H' :=
  ⟨xs, e.l h, Nat.le_refl _⟩
theorem cut1 (xs : List V) : cutV xs (some 1) none = xs.drop 1 := by
  unfold cutV
  rw [show HT.sIx xs.length 0 (some 1) = min 1 xs.length from HT.sIx_nat xs.length 0 1, HT.sIx_none]
  cases xs with
  | nil => rfl
  | cons x r =>
    have e : min 1 (x :: r).length = 1 := by
      rw [List.length_cons]
      omega
    rw [e]
    show List.take ((x :: r).length - 1) r = r
    rw [List.length_cons, Nat.add_sub_cancel]
    exact List.take_length
end Nw
namespace Nw
open PySem PySem.Spec PyProof.Rows L2
/-- the inner loop of a comprehension of two clauses -/
abbrev LcI (J1 : It) (g1 : TG) (tt1 : TT) (te : TE) (vs1 : List Nat) (σ2 : L2.St) (D : Addr) (H4 : Hp) (Nx : Hp → Prop) : Prop :=
  ∃ W1 : Nat → Nat → Hp → Prop, (∃ m, W1 0 m H4) ∧ ∀ j k H, W1 j k H →
    (J1.stop j H ∧ Nx H) ∨ (J1.go j H ∧ ∃ Nx1 : Hp → Prop, (∀ H', Nx1 H' → ∃ k', k' < k ∧ W1 (j + 1) k' H') ∧
      ∀ x H', J1.yld j H x H' → g1 x (wipe σ2 vs1) H' fun σ3 H5 => wipe σ3 vs1 = wipe σ2 vs1 ∧ tt1 σ3 H5 fun b H6 =>
        if b = true then te σ3 H6 fun y H7 => ∃ acc, H7 D = some (.lst acc) ∧ acc.length < sizeLine ∧
          Nx1 (upd H7 D (.lst (acc ++ [y]))) else Nx1 H6)
theorem lci_by {J1 : It} {g1 : TG} {tt1 : TT} {te : TE} {vs1 : List Nat} {σ2 : L2.St} {D : Addr} {H4 : Hp} {Nx : Hp → Prop}
    (n : Nat) (Pv : Nat → Hp → Prop) (h0 : Pv 0 H4) (hgo : ∀ i H, i < n → Pv i H → J1.go i H) (hst : ∀ H, Pv n H → J1.stop n H)
    (hs : ∀ i H x H', i < n → Pv i H → J1.yld i H x H' → g1 x (wipe σ2 vs1) H' fun σ3 H5 => wipe σ3 vs1 = wipe σ2 vs1 ∧
      tt1 σ3 H5 fun b H6 => if b = true then te σ3 H6 fun y H7 => ∃ acc, H7 D = some (.lst acc) ∧ acc.length < sizeLine ∧
        Pv (i + 1) (upd H7 D (.lst (acc ++ [y]))) else Pv (i + 1) H6)
    (hd : ∀ H, Pv n H → Nx H) : LcI J1 g1 tt1 te vs1 σ2 D H4 Nx := by
  refine ⟨fun i m H => m = n - i ∧ i ≤ n ∧ Pv i H, ⟨n, by omega, Nat.zero_le _, h0⟩, ?_⟩
  rintro i m H ⟨rfl, hi, p⟩
  by_cases hlt : i < n
  · refine .inr ⟨hgo i H hlt p, Pv (i + 1), fun H' p' => ⟨n - (i + 1), by omega, rfl, hlt, p'⟩, ?_⟩
    intro x H' y
    exact hs i H x H' hlt p y
  · have e : i = n := by omega
    subst e
    exact .inl ⟨hst H p, hd H p⟩
theorem lc2_by {J : It} {g : TG} {tt : TT} {wi1 : TI} {g1 : TG} {tt1 : TT} {te : TE} {vs vs1 : List Nat} {σ : L2.St} {D : Addr} {H1 : Hp} {Qd : Hp → Prop}
    (n : Nat) (Pv : Nat → Hp → Prop) (h0 : Pv 0 (upd H1 D (.lst [])))
    (hgo : ∀ i H, i < n → Pv i H → J.go i H) (hst : ∀ H, Pv n H → J.stop n H)
    (hs : ∀ i H x H', i < n → Pv i H → J.yld i H x H' → g x (wipe σ vs) H' fun σ2 H2 => wipe σ2 vs = wipe σ vs ∧
      tt σ2 H2 fun b H3 => if b = true then wi1 σ2 H3 fun J1 H4 => LcI J1 g1 tt1 te vs1 σ2 D H4 (Pv (i + 1)) else Pv (i + 1) H3)
    (hd : ∀ H, Pv n H → Qd H) :
    ∃ W : Nat → Nat → Hp → Prop, (∃ m, W 0 m (upd H1 D (.lst []))) ∧ ∀ i m H, W i m H →
      (J.stop i H ∧ Qd H) ∨ (J.go i H ∧ ∃ Nx : Hp → Prop, (∀ H', Nx H' → ∃ m', m' < m ∧ W (i + 1) m' H') ∧ ∀ x H', J.yld i H x H' →
        g x (wipe σ vs) H' fun σ2 H2 => wipe σ2 vs = wipe σ vs ∧ tt σ2 H2 fun b H3 =>
          if b = true then wi1 σ2 H3 fun J1 H4 => LcI J1 g1 tt1 te vs1 σ2 D H4 Nx else Nx H3) := by
  refine ⟨fun i m H => m = n - i ∧ i ≤ n ∧ Pv i H, ⟨n, by omega, Nat.zero_le _, h0⟩, ?_⟩
  rintro i m H ⟨rfl, hi, p⟩
  by_cases hlt : i < n
  · refine .inr ⟨hgo i H hlt p, Pv (i + 1), fun H' p' => ⟨n - (i + 1), by omega, rfl, hlt, p'⟩, ?_⟩
    intro x H' y
    exact hs i H x H' hlt p y
  · have e : i = n := by omega
    subst e
    exact .inl ⟨hst H p, hd H p⟩
end Nw
/-! Rules told over the written part by its own name, so that a comprehension's block may use them. -/
namespace Nw
open PySem PySem.Spec PyProof.Rows L2
section
variable {X : Cx} {K : PySem.W.Frag}
theorem op_eqDk (K : PySem.W.Frag) (hu : X.A.units + 64 < cLine) (hK : X.K = K := by rfl) : OpR X (compareOp .Eq) (rEqD K) := by
  subst hK
  exact op_eqD hu
theorem op_neDk (K : PySem.W.Frag) (hu : X.A.units + 64 < cLine) (hK : X.K = K := by rfl) : OpR X (compareOp .NotEq) (rNeD K) := by
  subst hK
  exact op_neD hu
theorem op_inK (K : PySem.W.Frag) (hK : X.K = K := by rfl) : OpR X (compareOp .In) (rIn K false) := by
  subst hK
  exact op_in_seq
theorem op_notInK (K : PySem.W.Frag) (hK : X.K = K := by rfl) : OpR X (compareOp .NotIn) (rIn K true) := by
  subst hK
  exact op_notIn_seq
theorem op_inDk (K : PySem.W.Frag) {k : Nat} (hr : Room k X.A) (hK : X.K = K := by rfl) : OpR X (compareOp .In) (rInD K) := by
  subst hK
  exact op_inD (by have := hr.un; omega)
theorem op_notInDk (K : PySem.W.Frag) {k : Nat} (hr : Room k X.A) (hK : X.K = K := by rfl) : OpR X (compareOp .NotIn) (rNotInD K) := by
  subst hK
  exact op_notInD (by have := hr.un; omega)
/-- < of ints, of tuples of ints -/
def rLtA (K : PySem.W.Frag) : R2 := fun x y H Q => (∃ i j, x = .int i ∧ y = .int j ∧ Q (.bl (decide (i < j))) H) ∨ rLtT K x y H Q
theorem op_ltA (K : PySem.W.Frag) (hu : X.A.units < cLine) (hK : X.K = K := by rfl) : OpR X (compareOp .Lt) (rLtA K) := by
  subst hK
  intro pins s σ H x y v u Q I rx ry q
  rcases q with q | q
  · exact op_lt pins s σ H x y v u Q I rx ry q
  · exact op_ltT hu pins s σ H x y v u Q I rx ry q
theorem op_catTk (K : PySem.W.Frag) (hK : X.K = K := by rfl) : OpR X (binaryOp .Add) (rCatT K) := by
  subst hK
  exact op_catT
theorem ix_listK (K : PySem.W.Frag) (hK : X.K = K := by rfl) : IxR X (rIxL K) := by
  subst hK
  exact ix_list
theorem ix_tupK (K : PySem.W.Frag) (hK : X.K = K := by rfl) : IxR X (rIxT K) := by
  subst hK
  exact ix_tup
theorem ix_seqK (K : PySem.W.Frag) (hK : X.K = K := by rfl) : IxR X (rIx K) := by
  subst hK
  exact ix_seq
theorem sl_listK (K : PySem.W.Frag) (hK : X.K = K := by rfl) : SlR X (rSlL K) := by
  subst hK
  exact sl_list
theorem sl_tupK (K : PySem.W.Frag) (hK : X.K = K := by rfl) : SlR X (rSlT K) := by
  subst hK
  exact sl_tup
def rLenQ (K : PySem.W.Frag) : List V → Hp → VK → Prop := fun xs H Q => ∃ p ys, xs = [.ref p] ∧ (SqL K H p ys ∨ SqT K H p ys) ∧ Q (.int ys.length) H
theorem call_lenK (K : PySem.W.Frag) (hK : X.K = K := by rfl) : CallR X (.builtin "len") (rLenQ K) := by
  subst hK
  exact call_len_seq
def rListQ (K : PySem.W.Frag) : List V → Hp → VK → Prop := fun xs H Q => ∃ p ys, xs = [.ref p] ∧ (SqL K H p ys ∨ SqT K H p ys) ∧ ∀ l, H l = none → Q (.ref l) (upd H l (.lst ys))
theorem call_listK (K : PySem.W.Frag) (hK : X.K = K := by rfl) : CallR X (.type "list") (rListQ K) := by
  subst hK
  exact call_list_of
theorem call_reprK (K : PySem.W.Frag) {k : Nat} (hq : Quiet X.A) (hr : Room k X.A) (hK : X.K = K := by rfl) : CallR X (.builtin "repr") (rReprD K) := by
  subst hK
  exact call_reprD hq hr
theorem call_isiK (K : PySem.W.Frag) (hK : X.K = K := by rfl) : CallR X (.builtin "isinstance") (rIsi K) := by
  subst hK
  exact call_isi
theorem cr_allK (K : PySem.W.Frag) (hc : X.calm = true) (hK : X.K = K := by rfl) : CallR X (.builtin "all") (rAll K) := by
  subst hK
  exact cr_all hc
theorem cr_anyK (K : PySem.W.Frag) (hc : X.calm = true) (hK : X.K = K := by rfl) : CallR X (.builtin "any") (rAny K) := by
  subst hK
  exact cr_any hc
theorem cr_sumK (K : PySem.W.Frag) (hc : X.calm = true) (hK : X.K = K := by rfl) : CallR X (.builtin "sum") (rSum K) := by
  subst hK
  exact cr_sum hc
theorem cr_maxK (K : PySem.W.Frag) (hc : X.calm = true) (hK : X.K = K := by rfl) : CallR X (.builtin "max") (rMax K) := by
  subst hK
  exact cr_max hc
theorem cr_minK' (K : PySem.W.Frag) (hc : X.calm = true) (hK : X.K = K := by rfl) : CallR X (.builtin "min") (rMin K) := by
  subst hK
  exact cr_min hc
theorem cr_sortedIk (K : PySem.W.Frag) (hK : X.K = K := by rfl) : CallR X (.builtin "sorted") (rSortedI K) := by
  subst hK
  exact cr_sortedI
theorem cr_sortedPOk (K : PySem.W.Frag) (hK : X.K = K := by rfl) : CallR X (.builtin "sorted") (rSortedPO K) := by
  subst hK
  exact cr_sortedPO
theorem pi_listK (K : PySem.W.Frag) {tg l : Expr} {tl : TE} (hl : PE X l tl) (hK : X.K = K := by rfl) : PI X tg l (iList K tl) := by
  subst hK
  exact pi_list hl
theorem pi_tupK (K : PySem.W.Frag) {tg l : Expr} {tl : TE} (hl : PE X l tl) (hK : X.K = K := by rfl) : PI X tg l (iTup K tl) := by
  subst hK
  exact pi_tup hl
theorem pg_tupK (K : PySem.W.Frag) {es : List Expr} {k : Nat} {pos : Pos} {t : TGs} {n : Nat} (hc : X.calm = true) (h : PGs X es t)
    (hn : (assignEach es X.env).length = n := by rfl)
    (hst : (assignEach es X.env).findIdx? (·.1) = none := by rfl) (hK : X.K = K := by rfl) : PG X (.Tuple es k pos) (gTup K n t) := by
  subst hK
  exact pg_tup hc h hn hst
end
end Nw
namespace Nw
open PySem PySem.Spec PyProof.Rows L2
theorem mil {n : Nat} (h : n ≤ 1000000) : n ≤ sizeLine := by
  rw [sizeLine_eq]
  omega
theorem mil' {n : Nat} (h : n < 1000000) : n < sizeLine := by
  rw [sizeLine_eq]
  omega
/-- xs + ys, lists that are read -/
def rCatS (K : PySem.W.Frag) : R2 := fun x y H Q => ∃ l b xs zs, x = .ref l ∧ y = .ref b ∧ SqL K H l xs ∧ SqL K H b zs ∧
  xs.length + zs.length ≤ 1000000 ∧ ∀ p, H p = none → Q (.ref p) (upd H p (.lst (xs ++ zs)))
theorem op_catS {X : Cx} (K : PySem.W.Frag) (hK : X.K = K := by rfl) : OpR X (binaryOp .Add) (rCatS K) := by
  subst hK
  intro pins s σ H x y v u Q I rx ry h
  obtain ⟨l, b, xs, zs, rfl, rfl, hH, hB, hz, q⟩ := h
  cases rx
  cases ry
  obtain ⟨its, r, ⟨⟨cls, dd, data, sl⟩, n, e, hc, hd0, hd⟩, _⟩ := I.list hH
  obtain ⟨its2, r2, ⟨⟨cls2, dd2, data2, sl2⟩, n2, e2, hc2, hd02, hd2⟩, _⟩ := I.list hB
  simp only at hc hd hc2 hd2
  subst hc hd hc2 hd2
  have l1 := r.length
  have l2 := r2.length
  have z : xs.length + zs.length ≤ sizeLine := mil hz
  refine concat_meets ⟨_, e, rfl⟩ ⟨_, e2, rfl⟩ noFill_list_add seq_list_add PySem.F.slot_list_add PySem.F.entry_list_add
    (PySem.F.args_list_add_2 _ _) (list_addW l b its.toArray its2.toArray n n2 dd dd2 sl sl2 (by simp only [List.size_toArray]; omega)) ⟨e, e2, ?_⟩
  have ea : its.toArray ++ its2.toArray = (its ++ its2).toArray := by simp
  rw [ea]
  exact ⟨.ref _, _, I.lnew (t' := s.toks) (r.append r2) (by rw [List.length_append]; omega), rfl, q _ I.fresh⟩
end Nw
/-! What the package's looks at values answer, on data. -/
namespace Nw
open PySem PySem.Spec PyProof.Rows L2

def isInt : PyData → Bool
  | .int _ => true
  | _ => false
theorem isInt_eq (d : PyData) : (isA "int" d && !isA "bool" d) = isInt d := by
  cases d <;> first | rfl | decide +kernel
/-- an int from 0 to m - 1 -/
def numB : PyData → Int → Bool
  | .int i, m => decide (0 ≤ i) && decide (i < m)
  | _, _ => false
def tupB : PyData → Int → Int → Bool
  | .tuple [a, b], m, n => numB a m && numB b n
  | _, _, _ => false
def listB : PyData → Int → Bool
  | .list ds, m => ds.all fun d => numB d m
  | _, _ => false
/-- ascending, by an order on the items -/
def ascB {α : Type} (lt : α → α → Bool) : List α → Bool
  | x :: y :: r => lt x y && ascB lt (y :: r)
  | _ => true
def ltIn (x y : Int) : Bool := decide (x < y)
def ltPr (x y : Int × Int) : Bool := HT.lexLt [x.1, x.2] [y.1, y.2]
def dPair (p : Int × Int) : PyData := .tuple [.int p.1, .int p.2]
/-- the ints of a list of ints, the pairs of a list of pairs -/
def intsOf : List PyData → Option (List Int)
  | [] => some []
  | .int i :: r => (intsOf r).map (i :: ·)
  | _ => none
def pairsOf : List PyData → Option (List (Int × Int))
  | [] => some []
  | .tuple [.int i, .int j] :: r => (pairsOf r).map ((i, j) :: ·)
  | _ => none
theorem intsOf_map : ∀ ns : List Int, intsOf (ns.map PyData.int) = some ns
  | [] => rfl
  | n :: ns => by
    simp only [List.map_cons, intsOf, intsOf_map ns, Option.map_some]
theorem pairsOf_map : ∀ ps : List (Int × Int), pairsOf (ps.map dPair) = some ps
  | [] => rfl
  | (a, b) :: ps => by
    simp only [List.map_cons, dPair, pairsOf, pairsOf_map ps, Option.map_some]
theorem ints_of_all {m : Int} : ∀ {ds : List PyData}, (ds.all fun d => numB d m) = true → ∃ ns : List Int, ds = ns.map PyData.int ∧ ∀ n ∈ ns, 0 ≤ n ∧ n < m
  | [], _ => ⟨[], rfl, fun _ h => nomatch h⟩
  | d :: ds, h => by
    simp only [List.all_cons, Bool.and_eq_true] at h
    obtain ⟨ns, rfl, hn⟩ := ints_of_all h.2
    cases d with
    | int i =>
      have h1 := h.1
      simp only [numB, Bool.and_eq_true, decide_eq_true_eq] at h1
      refine ⟨i :: ns, rfl, ?_⟩
      intro n hm
      rcases List.mem_cons.mp hm with rfl | hm
      · exact h1
      · exact hn n hm
    | _ =>
      have h1 := h.1
      simp [numB] at h1
theorem numB_inv {d : PyData} {m : Int} (h : numB d m = true) : ∃ i, d = .int i ∧ 0 ≤ i ∧ i < m := by
  cases d with
  | int i =>
    simp only [numB, Bool.and_eq_true, decide_eq_true_eq] at h
    exact ⟨i, rfl, h⟩
  | _ => simp [numB] at h
theorem tupB_inv {d : PyData} {m k : Int} (h : tupB d m k = true) : ∃ i j, d = dPair (i, j) ∧ (0 ≤ i ∧ i < m) ∧ (0 ≤ j ∧ j < k) := by
  match d, h with
  | .tuple [a, b], h =>
    simp only [tupB, Bool.and_eq_true] at h
    obtain ⟨i, rfl, hi⟩ := numB_inv h.1
    obtain ⟨j, rfl, hj⟩ := numB_inv h.2
    exact ⟨i, j, rfl, hi, hj⟩
theorem pairs_of_all {m k : Int} : ∀ {ds : List PyData}, (ds.all fun d => tupB d m k) = true →
    ∃ ps : List (Int × Int), ds = ps.map dPair ∧ ∀ p ∈ ps, (0 ≤ p.1 ∧ p.1 < m) ∧ (0 ≤ p.2 ∧ p.2 < k)
  | [], _ => ⟨[], rfl, fun _ h => nomatch h⟩
  | d :: ds, h => by
    simp only [List.all_cons, Bool.and_eq_true] at h
    obtain ⟨ps, rfl, hn⟩ := pairs_of_all h.2
    obtain ⟨i, j, rfl, hi, hj⟩ := tupB_inv h.1
    refine ⟨(i, j) :: ps, rfl, ?_⟩
    intro p hp
    rcases List.mem_cons.mp hp with rfl | hp
    · exact ⟨hi, hj⟩
    · exact hn p hp
def tuplesB : PyData → Int → Int → Bool
  | .list ds, m, n => (ds.all fun d => tupB d m n) && (match pairsOf ds with | some ps => ascB ltPr ps | none => false)
  | _, _, _ => false
def targetsB : PyData → Int → Bool
  | .list ds, m => (ds.all fun d => numB d m) && (decide (0 < ds.length) && (match intsOf ds with | some ns => ascB ltIn ns | none => false))
  | _, _ => false
def nudgesB : PyData → Int → Bool
  | .list ds, m => decide (ds.length ≤ 8) && ds.all fun d => targetsB d m
  | _, _ => false
def webB : PyData → Bool
  | .tuple [.int n, ps, ns] => (decide (1 ≤ n) && decide (n ≤ 20)) && (tuplesB ps n n && nudgesB ns n)
  | _ => false
/-- ascending, turn by turn -/
def ascAt {α : Type} (lt : α → α → Bool) (xs : List α) (i : Nat) : Bool :=
  match xs[i]?, xs[i + 1]? with
  | some x, some y => lt x y
  | _, _ => true
theorem ascB_range {α : Type} (lt : α → α → Bool) : ∀ xs : List α, ((List.range (xs.length - 1)).map fun i => ascAt lt xs i).all id = ascB lt xs
  | [] => rfl
  | [x] => rfl
  | x :: y :: r => by
    have ih := ascB_range lt (y :: r)
    have e : (x :: y :: r).length - 1 = ((y :: r).length - 1) + 1 := by
      simp only [List.length_cons]
      omega
    rw [e, List.range_succ_eq_map, List.map_cons, List.all_cons, List.map_map]
    show (lt x y && _) = (lt x y && ascB lt (y :: r))
    rw [← ih]
    rfl
theorem all_range_get {α : Type} (p : α → Bool) (d : α) : ∀ xs : List α, ((List.range xs.length).map fun i => p (xs.getD i d)).all id = xs.all p
  | [] => rfl
  | x :: xs => by
    rw [List.length_cons, List.range_succ_eq_map, List.map_cons, List.all_cons, List.map_map, List.all_cons]
    show (p x && _) = (p x && xs.all p)
    rw [← all_range_get p d xs]
    rfl
theorem given_bl {n : Nat} {f : Nat → Bool} : ((List.range n).map fun i => V.bl (f i)) = ((List.range n).map f).map V.bl := by
  rw [List.map_map]
  rfl
end Nw
namespace Nw
section
variable {K : PySem.W.Frag}
theorem isa_int (d : PySem.PyData) : PySem.W.kitOne K (.type (tyName d)) (.type "int") = some (isA "int" d) := isA_ok "int" (by simp) d
theorem isa_bool (d : PySem.PyData) : PySem.W.kitOne K (.type (tyName d)) (.type "bool") = some (isA "bool" d) := isA_ok "bool" (by simp) d
theorem isa_list (d : PySem.PyData) : PySem.W.kitOne K (.type (tyName d)) (.type "list") = some (isA "list" d) := isA_ok "list" (by simp) d
theorem isa_tuple (d : PySem.PyData) : PySem.W.kitOne K (.type (tyName d)) (.type "tuple") = some (isA "tuple" d) := isA_ok "tuple" (by simp) d
theorem isa_str (d : PySem.PyData) : PySem.W.kitOne K (.type (tyName d)) (.type "str") = some (isA "str" d) := isA_ok "str" (by simp) d
end
end Nw
namespace Nw
open PySem PySem.Spec PyProof.Rows L2
theorem map_at {α β : Type} {f : α → β} {l : List α} {i : Nat} {y : β} (h : (l.map f)[i]? = some y) : ∃ x, l[i]? = some x ∧ y = f x := by
  rw [List.getElem?_map] at h
  cases e : l[i]? with
  | none =>
    rw [e] at h
    cases h
  | some x =>
    rw [e] at h
    exact ⟨x, rfl, (Option.some.inj h).symm⟩
theorem drop1_at {α : Type} {l : List α} {i : Nat} {y : α} (h : (l.drop 1)[i]? = some y) : l[i + 1]? = some y := by
  rw [List.getElem?_drop, Nat.add_comm] at h
  exact h
theorem min_drop1 {α : Type} (l : List α) : min l.length (l.drop 1).length = l.length - 1 := by
  rw [List.length_drop]
  omega
/-- the pairs that a list of tuples of two ints holds -/
theorem pairs_at {K : PySem.W.Frag} {H : Hp} {ps : List (Int × Int)} {xs : List V} {i : Nat} {x : V} (h : DaAll K H (ps.map dPair) xs) (hx : xs[i]? = some x) :
    ∃ p, ps[i]? = some p ∧ ∃ a, x = .ref a ∧ SqT K H a [.int p.1, .int p.2] := by
  obtain ⟨d, hd, hdx⟩ := h.at' hx
  obtain ⟨p, hp, rfl⟩ := map_at hd
  obtain ⟨a, ys, rfl, hS, z1, r1, rfl, e1, z2, r2, rfl, e2, rfl⟩ := hdx
  obtain rfl := e1
  obtain rfl := e2
  exact ⟨p, hp, a, rfl, .inl (.inl hS)⟩
end Nw
namespace Nw
open PySem PySem.Spec PyProof.Rows L2
end Nw
/-! Webs as numbers. -/
namespace Nw
open PySem PySem.Spec PyProof.Rows L2
structure Wb where
  n : Int
  ps : List (Int × Int)
  ns : List (List Int)
  deriving DecidableEq
def dInts (r : List Int) : PyData := .list (r.map PyData.int)
def dPairs (ps : List (Int × Int)) : PyData := .list (ps.map dPair)
def dRows (ns : List (List Int)) : PyData := .list (ns.map dInts)
def Wb.d (w : Wb) : PyData := .tuple [.int w.n, dPairs w.ps, dRows w.ns]
structure Wb.Ok (w : Wb) : Prop where
  lo : 1 ≤ w.n
  hi : w.n ≤ 20
  ps : ∀ p ∈ w.ps, (0 ≤ p.1 ∧ p.1 < w.n) ∧ (0 ≤ p.2 ∧ p.2 < w.n)
  asc : ascB ltPr w.ps = true
  few : w.ns.length ≤ 8
  ns : ∀ r ∈ w.ns, r ≠ [] ∧ (∀ t ∈ r, 0 ≤ t ∧ t < w.n) ∧ ascB ltIn r = true
theorem targetsB_of {r : List Int} {m : Int} (h0 : r ≠ []) (h1 : ∀ t ∈ r, 0 ≤ t ∧ t < m) (h2 : ascB ltIn r = true) : targetsB (dInts r) m = true := by
  unfold dInts targetsB
  simp only [intsOf_map, h2, Bool.and_true, Bool.and_eq_true, decide_eq_true_eq, List.length_map]
  refine ⟨?_, List.length_pos_iff.mpr h0⟩
  simp only [List.all_map, List.all_eq_true]
  intro t ht
  have := h1 t ht
  simp [numB, this.1, this.2]
theorem tuplesB_of {ps : List (Int × Int)} {m n : Int} (h1 : ∀ p ∈ ps, (0 ≤ p.1 ∧ p.1 < m) ∧ (0 ≤ p.2 ∧ p.2 < n)) (h2 : ascB ltPr ps = true) : tuplesB (dPairs ps) m n = true := by
  unfold dPairs tuplesB
  simp only [pairsOf_map, h2, Bool.and_true]
  simp only [List.all_map, List.all_eq_true]
  intro p hp
  obtain ⟨⟨a, b⟩, c, d⟩ := h1 p hp
  simp [dPair, tupB, numB, a, b, c, d]
theorem Wb.Ok.web {w : Wb} (h : w.Ok) : webB w.d = true := by
  unfold Wb.d webB
  have h1 := h.lo
  have h2 := h.hi
  have h3 := tuplesB_of h.ps h.asc
  have h4 : nudgesB (dRows w.ns) w.n = true := by
    unfold dRows nudgesB
    simp only [List.length_map, h.few, decide_true, Bool.true_and]
    simp only [List.all_map, List.all_eq_true]
    intro r hr
    obtain ⟨a, b, c⟩ := h.ns r hr
    exact targetsB_of a b c
  simp [h1, h2, h3, h4]
/-- how long ascending rows of small numbers may be -/
theorem asc_len {m : Int} : ∀ (r : List Int) (lo : Int), (∀ t ∈ r, lo ≤ t ∧ t < m) → ascB ltIn r = true → (r.length : Int) ≤ max 0 (m - lo)
  | [], lo, _, _ => by
    simp only [List.length_nil]
    omega
  | [x], lo, h, _ => by
    have := h x (by simp)
    simp only [List.length_singleton]
    omega
  | x :: y :: r, lo, h, ha => by
    simp only [ascB, Bool.and_eq_true, ltIn, decide_eq_true_eq] at ha
    have hx := h x (by simp)
    have hy := h y (by simp)
    have key : ∀ (l : List Int) (a : Int), ascB ltIn (a :: l) = true → ∀ t ∈ l, a + 1 ≤ t := by
      intro l
      induction l with
      | nil =>
        intro a _ t ht
        cases ht
      | cons b l ih =>
        intro a hab t ht
        simp only [ascB, Bool.and_eq_true, ltIn, decide_eq_true_eq] at hab
        rcases List.mem_cons.mp ht with rfl | ht
        · omega
        · have := ih b hab.2 t ht
          omega
    have h' : ∀ t ∈ y :: r, x + 1 ≤ t ∧ t < m := by
      intro t ht
      refine ⟨?_, (h t (List.mem_cons_of_mem _ ht)).2⟩
      exact key (y :: r) x (by simp only [ascB, Bool.and_eq_true, ltIn, decide_eq_true_eq]; exact ha) t ht
    have ih := asc_len (y :: r) (x + 1) h' ha.2
    simp only [List.length_cons] at ih ⊢
    omega
theorem Wb.Ok.row {w : Wb} (h : w.Ok) {r : List Int} (hr : r ∈ w.ns) : r.length ≤ 20 := by
  obtain ⟨_, b, c⟩ := h.ns r hr
  have := asc_len r 0 b c
  have := h.hi
  have := h.lo
  omega
/-- the lines of a web -/
def pushedAt (n : Int) (i : Nat) (r : List Int) : List (Int × Int) := r.map fun t => (n + (i : Int), t)
def pushedFrom (n : Int) : Nat → List (List Int) → List (Int × Int)
  | _, [] => []
  | i, r :: rs => pushedAt n i r ++ pushedFrom n (i + 1) rs
def Wb.lines (w : Wb) : List (Int × Int) := w.ps ++ pushedFrom w.n 0 w.ns
theorem pushedFrom_take (n : Int) : ∀ (rs : List (List Int)) (i k : Nat) (r : List Int), rs[k]? = some r →
    pushedFrom n i (rs.take (k + 1)) = pushedFrom n i (rs.take k) ++ pushedAt n (i + k) r
  | [], _, _, _, h => by simp at h
  | a :: rs, i, 0, r, h => by
    obtain rfl : a = r := by simpa using h
    simp [pushedFrom]
  | a :: rs, i, k + 1, r, h => by
    have ih := pushedFrom_take n rs (i + 1) k r (by simpa using h)
    simp only [List.take_succ_cons, pushedFrom]
    rw [ih, List.append_assoc, show i + 1 + k = i + (k + 1) by omega]
theorem take_all {α : Type} (l : List α) : l.take l.length = l := List.take_length
end Nw
namespace Nw
open PySem PySem.Spec PyProof.Rows L2
theorem ltPr_iff {p q : Int × Int} : ltPr p q = true ↔ p.1 < q.1 ∨ (p.1 = q.1 ∧ p.2 < q.2) := by
  unfold ltPr
  rw [HT.lexLt_cons]
  by_cases h : p.1 = q.1
  · rw [if_pos h, HT.lexLt_cons]
    by_cases h2 : p.2 = q.2
    · rw [if_pos h2, HT.lexLt_nil_nil]
      constructor
      · intro e
        cases e
      · intro e
        omega
    · rw [if_neg h2, decide_eq_true_eq]
      omega
  · rw [if_neg h, decide_eq_true_eq]
    omega
theorem asc_code : ∀ {ps : List (Int × Int)}, (∀ p ∈ ps, 0 ≤ p.2 ∧ p.2 < 64) → ascB ltPr ps = true → ascB ltIn (ps.map fun p => 64 * p.1 + p.2) = true
  | [], _, _ => rfl
  | [_], _, _ => rfl
  | p :: q :: r, h, ha => by
    simp only [ascB, Bool.and_eq_true] at ha
    have hp := h p (by simp)
    have hq := h q (by simp)
    have h1 := ltPr_iff.mp ha.1
    have ih := asc_code (ps := q :: r) (fun z hz => h z (List.mem_cons_of_mem _ hz)) ha.2
    simp only [List.map_cons, ascB, Bool.and_eq_true, ltIn, decide_eq_true_eq] at ih ⊢
    exact ⟨by omega, ih⟩
theorem Wb.Ok.len {w : Wb} (h : w.Ok) : w.ps.length ≤ 1300 := by
  have h1 := asc_code (ps := w.ps) (fun p hp => by have := h.ps p hp; have := h.hi; omega) h.asc
  have h2 := asc_len _ 0 (m := 1300) (by
    intro t ht
    obtain ⟨p, hp, rfl⟩ := List.mem_map.mp ht
    have := h.ps p hp
    have := h.hi
    omega) h1
  rw [List.length_map] at h2
  omega
theorem pushed_len (n : Int) : ∀ (rs : List (List Int)) (i : Nat), (∀ r ∈ rs, r.length ≤ 20) → (pushedFrom n i rs).length ≤ 20 * rs.length
  | [], _, _ => by simp [pushedFrom]
  | r :: rs, i, h => by
    have h1 := h r (by simp)
    have h2 := pushed_len n rs (i + 1) (fun z hz => h z (List.mem_cons_of_mem _ hz))
    simp only [pushedFrom, pushedAt, List.length_append, List.length_map, List.length_cons]
    omega
theorem Wb.Ok.lines_len {w : Wb} (h : w.Ok) : w.lines.length ≤ 1500 := by
  have h1 := h.len
  have h2 := pushed_len w.n w.ns 0 (fun r hr => h.row hr)
  have h3 := h.few
  unfold Wb.lines
  rw [List.length_append]
  omega
/-- a web as it stands -/
theorem Wb.at {K : PySem.W.Frag} {H : Hp} {w : Wb} {v : V} (h : Da K H w.d v) : ∃ t x2 x3, v = .ref t ∧ SqT K H t [.int w.n, x2, x3] ∧ Da K H (dPairs w.ps) x2 ∧ Da K H (dRows w.ns) x3 := by
  obtain ⟨t, xs, rfl, hS, x1, r1, rfl, g1, x2, r2, rfl, g2, x3, r3, rfl, g3, rfl⟩ := h
  obtain rfl := g1
  exact ⟨t, x2, x3, rfl, .inl (.inl hS), g2, g3⟩
theorem dInts_at {K : PySem.W.Frag} {H : Hp} {r : List Int} {v : V} (h : Da K H (dInts r) v) : ∃ a, v = .ref a ∧ SqL K H a (r.map V.int) := by
  obtain ⟨a, xs, rfl, hS, hA, _⟩ := h
  obtain rfl := DaAll.ints.mp hA
  exact ⟨a, rfl, .inl (.inl hS)⟩
theorem dInts_of {K : PySem.W.Frag} {H : Hp} {r : List Int} {a : Addr} (h : H a = some (.lst (r.map V.int))) (hz : r.length ≤ 100000) : Da K H (dInts r) (.ref a) :=
  ⟨a, _, rfl, h, DaAll.ints.mpr rfl, by rw [List.length_map]; exact hz⟩
theorem dPair_of {K : PySem.W.Frag} {H : Hp} {p : Int × Int} {a : Addr} (h : H a = some (.tup [.int p.1, .int p.2])) : Da K H (dPair p) (.ref a) :=
  ⟨a, _, rfl, h, _, _, rfl, rfl, _, _, rfl, rfl, rfl⟩
end Nw
namespace Nw
open PySem PySem.Spec PyProof.Rows L2
theorem ExD.t {K : PySem.W.Frag} {D : Addr} {H H' : Hp} {a : Addr} {xs : List V} (e : ExD D H H') (n : a ≠ D) (h : SqT K H a xs) : SqT K H' a xs := by
  rcases h with (h | ⟨o, h⟩) | h
  · exact .inl (.inl (e a _ n h))
  · exact .inl (.inr ⟨o, e a _ n h⟩)
  · exact .inr h
theorem ExD.l {K : PySem.W.Frag} {D : Addr} {H H' : Hp} {a : Addr} {xs : List V} (e : ExD D H H') (n : a ≠ D) (h : SqL K H a xs) : SqL K H' a xs := by
  rcases h with (h | ⟨o, h⟩) | h
  · exact .inl (.inl (e a _ n h))
  · exact .inl (.inr ⟨o, e a _ n h⟩)
  · exact .inr h
/-- items that do not stand at D -/
abbrev OffD (D : Addr) (xs : List V) : Prop := ∀ x ∈ xs, ∃ b, x = .ref b ∧ b ≠ D
theorem OffD.nil {D : Addr} : OffD D [] := fun x h => by cases h
theorem OffD.snoc {D : Addr} {xs : List V} {b : Addr} (h : OffD D xs) (n : b ≠ D) : OffD D (xs ++ [.ref b]) := by
  intro x hx
  rcases List.mem_append.mp hx with hx | hx
  · exact h x hx
  · obtain rfl := List.mem_singleton.mp hx
    exact ⟨b, rfl, n⟩
theorem pairs_keep {K : PySem.W.Frag} {D : Addr} {H H' : Hp} (e : ExD D H H') : ∀ {L : List (Int × Int)} {acc : List V}, DaAll K H (L.map dPair) acc → OffD D acc → DaAll K H' (L.map dPair) acc
  | [], _, h, _ => h
  | p :: L, acc, h, o => by
    obtain ⟨x, xs, rfl, ⟨a, ys, rfl, hS, z1, r1, rfl, e1, z2, r2, rfl, e2, rfl⟩, h2⟩ := h
    obtain rfl := e1
    obtain rfl := e2
    obtain ⟨b, eb, nb⟩ := o (.ref a) (by simp)
    cases eb
    exact ⟨_, _, rfl, dPair_of (e _ _ nb hS), pairs_keep e h2 fun x hx => o x (List.mem_cons_of_mem _ hx)⟩
end Nw
namespace Nw
open PySem PySem.Spec PyProof.Rows L2
theorem pushed_ok {n : Int} {m : Int} : ∀ {rs : List (List Int)} {i : Nat}, (∀ r ∈ rs, ∀ t ∈ r, 0 ≤ t ∧ t < m) → ∀ l ∈ pushedFrom n i rs,
    (n + (i : Int) ≤ l.1 ∧ l.1 < n + (i : Int) + (rs.length : Int)) ∧ (0 ≤ l.2 ∧ l.2 < m)
  | [], _, _, l, hl => by cases hl
  | r :: rs, i, h, l, hl => by
    simp only [pushedFrom, List.mem_append] at hl
    simp only [List.length_cons]
    rcases hl with hl | hl
    · obtain ⟨t, ht, rfl⟩ := List.mem_map.mp hl
      have := h r (by simp) t ht
      exact ⟨⟨by simp, by simp; omega⟩, this⟩
    · have := pushed_ok (i := i + 1) (fun z hz => h z (List.mem_cons_of_mem _ hz)) l hl
      refine ⟨⟨by omega, by omega⟩, this.2⟩
theorem Wb.Ok.line {w : Wb} (h : w.Ok) : ∀ l ∈ w.lines, (0 ≤ l.1 ∧ l.1 < w.n + (w.ns.length : Int)) ∧ (0 ≤ l.2 ∧ l.2 < w.n) := by
  intro l hl
  have h1 := h.lo
  rcases List.mem_append.mp hl with hl | hl
  · have := h.ps l hl
    refine ⟨⟨this.1.1, by omega⟩, this.2⟩
  · have := pushed_ok (fun r hr => (h.ns r hr).2.1) l hl
    refine ⟨⟨by omega, by omega⟩, this.2⟩
/-- the targets that a list of lines gives a source -/
def rowOf (ls : List (Int × Int)) (s : Int) : List Int := (ls.filter fun l => l.1 == s).map (·.2)
theorem rowOf_nil (s : Int) : rowOf [] s = [] := rfl
theorem rowOf_app (a b : List (Int × Int)) (s : Int) : rowOf (a ++ b) s = rowOf a s ++ rowOf b s := by
  unfold rowOf
  rw [List.filter_append, List.map_append]
theorem rowOf_one (p : Int × Int) (s : Int) : rowOf [p] s = if p.1 = s then [p.2] else [] := by
  unfold rowOf
  by_cases h : p.1 = s
  · rw [if_pos h, List.filter_cons, if_pos (by simpa using h)]
    rfl
  · rw [if_neg h, List.filter_cons, if_neg (by simpa using h)]
    rfl
theorem rowOf_len (ls : List (Int × Int)) (s : Int) : (rowOf ls s).length ≤ ls.length := by
  unfold rowOf
  rw [List.length_map]
  exact List.length_filter_le _ _
theorem nodup_snoc {α : Type} {l : List α} {b : α} (h : l.Nodup) (n : b ∉ l) : (l ++ [b]).Nodup := by
  rw [List.nodup_append]
  refine ⟨h, by simp, ?_⟩
  intro a ha c hc e
  obtain rfl := List.mem_singleton.mp hc
  subst e
  exact n ha
theorem nodup_at {α : Type} {l : List α} (h : l.Nodup) {i j : Nat} {a b : α} (hi : l[i]? = some a) (hj : l[j]? = some b) (n : i ≠ j) : a ≠ b := by
  intro e
  subst e
  obtain ⟨h1, e1⟩ := List.getElem?_eq_some_iff.mp hi
  obtain ⟨h2, e2⟩ := List.getElem?_eq_some_iff.mp hj
  exact n ((List.getElem_inj h).mp (e1.trans e2.symm))
theorem atI_int {α : Type} {xs : List α} {s : Int} {v : α} (h0 : 0 ≤ s) (h : xs[s.toNat]? = some v) : atI xs s = some v := by
  have e := atI_nat h
  rw [Int.toNat_of_nonneg h0] at e
  exact e
theorem take_snoc {α : Type} {l : List α} {i : Nat} {x : α} (h : l[i]? = some x) : l.take (i + 1) = l.take i ++ [x] := by
  rw [List.take_add_one, h]
  rfl
end Nw
namespace Nw
open PySem PySem.Spec PyProof.Rows L2
/-- a tuple outlasts what is done to a list -/
theorem SqT.wr {K : PySem.W.Frag} {H : Hp} {b c : Addr} {xs ys : List V} {o : HO} (h : SqT K H b xs) (hc : H c = some (.lst ys)) : SqT K (upd H c o) b xs := by
  rcases h with (h | ⟨z, h⟩) | h
  · refine .inl (.inl ?_)
    rw [upd_ne (fun e => by rw [e, hc] at h; cases h)]
    exact h
  · refine .inl (.inr ⟨z, ?_⟩)
    rw [upd_ne (fun e => by rw [e, hc] at h; cases h)]
    exact h
  · exact .inr h
end Nw
namespace Nw
open PySem PySem.Spec PyProof.Rows L2
/-- the sources that a list of lines gives a quantity -/
def srcsOf (ls : List (Int × Int)) (t : Int) : List Int := (ls.filter fun l => l.2 == t).map (·.1)
theorem filter_range {α β : Type} (d : α) (p : α → Bool) (g : α → β) : ∀ ls : List α, ((List.range ls.length).filter fun i => p (ls.getD i d)).map (fun i => g (ls.getD i d)) = (ls.filter p).map g
  | [] => rfl
  | x :: ls => by
    have ih := filter_range d p g ls
    rw [List.length_cons, List.range_succ_eq_map, List.filter_cons, List.filter_map, List.filter_cons]
    have e : (fun i => p ((x :: ls).getD i d)) ∘ Nat.succ = fun i => p (ls.getD i d) := rfl
    rw [e]
    have e0 : (x :: ls).getD 0 d = x := rfl
    rw [e0]
    by_cases h : p x = true
    · rw [if_pos h, if_pos h, List.map_cons, List.map_cons, List.map_map, ← ih]
      rfl
    · rw [if_neg h, if_neg h, List.map_map, ← ih]
      rfl
theorem srcs_range (ls : List (Int × Int)) (z : Int) : ((List.range ls.length).filter fun i => (ls.getD i (0, 0)).2 == z).map (fun i => V.int (ls.getD i (0, 0)).1) = (srcsOf ls z).map V.int := by
  have h := filter_range (0, 0) (fun l : Int × Int => l.2 == z) (fun l => V.int l.1) ls
  rw [h]
  unfold srcsOf
  rw [List.map_map]
  rfl
end Nw
namespace Nw
open PySem PySem.Spec PyProof.Rows L2
/-- new rows at new places, apart from one another -/
structure RowsAt (H H' : Hp) (p : Addr) (as : List Addr) (n : Nat) (row : Nat → List Int) : Prop where
  new : H p = none
  ex : Ex H H'
  at_ : H' p = some (.lst (as.map V.ref))
  nd : as.Nodup
  off : ∀ b ∈ as, H b = none ∧ b ≠ p
  len : as.length = n
  row : ∀ s b, as[s]? = some b → H' b = some (.lst ((row s).map V.int))
theorem srcsOf_nil (s : Int) : srcsOf [] s = [] := rfl
theorem srcsOf_app (a b : List (Int × Int)) (s : Int) : srcsOf (a ++ b) s = srcsOf a s ++ srcsOf b s := by
  unfold srcsOf
  rw [List.filter_append, List.map_append]
theorem srcsOf_one (p : Int × Int) (s : Int) : srcsOf [p] s = if p.2 = s then [p.1] else [] := by
  unfold srcsOf
  by_cases h : p.2 = s
  · rw [if_pos h, List.filter_cons, if_pos (by simpa using h)]
    rfl
  · rw [if_neg h, List.filter_cons, if_neg (by simpa using h)]
    rfl
theorem srcsOf_len (ls : List (Int × Int)) (s : Int) : (srcsOf ls s).length ≤ ls.length := by
  unfold srcsOf
  rw [List.length_map]
  exact List.length_filter_le _ _
end Nw
/-! What draws are made of: a list of three numbers that each draw changes. -/
namespace Nw
open PySem PySem.Spec PyProof.Rows L2
/-- the heap without what stands at p -/
def rm (H : Hp) (p : Addr) : Hp := fun b => if b = p then none else H b
theorem rm_ex {H : Hp} {p : Addr} : Ex (rm H p) H := fun b o h => by
  unfold rm at h
  split at h
  · cases h
  · exact h
theorem rm_at {H : Hp} {p : Addr} : rm H p p = none := if_pos rfl
theorem rm_ne {H : Hp} {p b : Addr} (h : b ≠ p) : rm H p b = H b := if_neg h
theorem ExD.rm {p : Addr} {H H' : Hp} (e : ExD p H H') : Ex (rm H p) (rm H' p) := fun b o h => by
  by_cases n : b = p
  · subst n
    rw [rm_at] at h
    cases h
  · rw [rm_ne n] at h ⊢
    exact e b o n h
theorem Ex.rm {p : Addr} {H H' : Hp} (e : Ex H H') : Ex (rm H p) (rm H' p) := ExD.rm (Ex.d e)
theorem ExD.rfl {p : Addr} {H : Hp} : ExD p H H := fun _ _ _ h => h
theorem ExD.nw {p q : Addr} {H : Hp} {o : HO} (h : H q = none) : ExD p H (upd H q o) := (Ex.nw h).d
theorem ExD.wr {p q : Addr} {H H' : Hp} {o : HO} (e : ExD p H H') (h : H q = none) : ExD p H (upd H' q o) := fun a u n ha => by
  rw [upd_ne (ne_of_none ha h)]
  exact e a u n ha
theorem ExD.put2 {p : Addr} {H H' : Hp} {o : HO} (e : ExD p H H') : ExD p H (upd H' p o) := e.tr ExD.put
/-- what is new stands elsewhere than the purse -/
theorem ExD.fr {p q : Addr} {H H' : Hp} {o : HO} (e : ExD p H H') (hp : H' p = some o) (h : H' q = none) : H q = none := by
  cases z : H q with
  | none => exact Eq.refl _
  | some u =>
    by_cases n : q = p
    · subst n
      rw [hp] at h
      cases h
    · rw [e q u n z] at h
      cases h
structure Purse (H : Hp) (p : Addr) (m : Nat) : Prop where
  ex : ∃ b c e : Int, H p = some (.lst [.int b, .int c, .int e]) ∧ 0 ≤ b ∧ (0 ≤ c ∧ c < 10 ^ 42) ∧ (0 ≤ e ∧ e ≤ (m : Int))
theorem Purse.mono {H : Hp} {p : Addr} {m n : Nat} (h : Purse H p m) (l : m ≤ n) : Purse H p n := by
  obtain ⟨b, c, e, h1, h2, h3, h4⟩ := h.ex
  exact ⟨b, c, e, h1, h2, h3, h4.1, by omega⟩
theorem Purse.up {H H' : Hp} {p : Addr} {m : Nat} (h : Purse H p m) (e : Ex H H') : Purse H' p m := by
  obtain ⟨b, c, d, h1, h2⟩ := h.ex
  exact ⟨b, c, d, e _ _ h1, h2⟩
theorem Purse.off {H : Hp} {p : Addr} {m : Nat} (h : Purse H p m) {q : Addr} (n : H q = none) : q ≠ p := by
  obtain ⟨b, c, d, h1, h2⟩ := h.ex
  intro e
  rw [e, h1] at n
  cases n
theorem Purse.put {H : Hp} {p q : Addr} {m : Nat} {o : HO} (h : Purse H p m) (n : p ≠ q) : Purse (upd H q o) p m := by
  obtain ⟨b, c, d, h1, h2⟩ := h.ex
  exact ⟨b, c, d, by rw [upd_ne n]; exact h1, h2⟩
theorem Purse.fr {p q : Addr} {H H' : Hp} {m : Nat} (e : ExD p H H') (hp : Purse H' p m) (h : H' q = none) : H q = none := by
  obtain ⟨b, c, d, h1, _⟩ := hp.ex
  exact e.fr h1 h
/-- a remainder by a positive number -/
theorem fmod_in {a m : Int} (h : 0 < m) : 0 ≤ a.fmod m ∧ a.fmod m < m := by
  rw [Int.fmod_eq_emod_of_nonneg a (by omega)]
  exact ⟨Int.emod_nonneg a (by omega), Int.emod_lt_of_pos a h⟩
theorem div_in {a m : Int} (h0 : 0 ≤ a) (h : 0 < m) : 0 ≤ a / m := Int.ediv_nonneg h0 (by omega)
theorem pow_lt_of {i : Int} (h0 : 0 ≤ i) (h : i < 10 ^ 60) : i.natAbs < 2 ^ 10000 := by
  have h1 : (10 : Nat) ^ 60 < 2 ^ 10000 := by decide +kernel
  have h2 : i.natAbs < 10 ^ 60 := by omega
  omega
theorem small_div {m : Int} (h : 0 < m) (h2 : m < 1073741824) : CDivW 0 m := wide_div (b := 30) h (by omega) (by omega) (by omega)
theorem great_div {i m : Int} (h : 0 < m) (h2 : m < 1000000000000000000000000000000000000000000000000000000000000) : CDivW i m := wide_div (b := 200) h (by
  have e : (2 : Nat) ^ 200 = 1606938044258990275541962092341162602522202993782792835301376 := by decide +kernel
  rw [e]
  omega) (by omega) (by omega)
theorem small_div' {i m : Int} (h : 0 < m) (h2 : m < 1073741824) : CDivW i m := small_div h h2
end Nw
namespace Nw
open PySem PySem.Spec PyProof.Rows L2
theorem cpow10 {j : Int} (h0 : 0 ≤ j) (h1 : j ≤ 100) : CPowW 10 j := ⟨h0, h1, by
  show (10 : Nat) < 2 ^ 10000
  decide +kernel⟩
theorem cpow3 {i : Int} (h0 : 0 ≤ i) (h : i < 10 ^ 60) : CPowW i 3 := ⟨by decide, by decide, pow_lt_of h0 h⟩
theorem p18 : (10 : Int) ^ Int.toNat 18 = 1000000000000000000 := by decide +kernel
theorem p41 : (10 : Int) ^ Int.toNat 41 = 100000000000000000000000000000000000000000 := by decide +kernel
theorem p42 : (10 : Int) ^ 42 = 1000000000000000000000000000000000000000000 := by decide +kernel
theorem p43 : (10 : Int) ^ Int.toNat 43 = 10000000000000000000000000000000000000000000 := by decide +kernel
theorem p45 : (10 : Int) ^ Int.toNat 45 = 1000000000000000000000000000000000000000000000 := by decide +kernel
theorem p60 : (10 : Int) ^ 60 = 1000000000000000000000000000000000000000000000000000000000000 := by decide +kernel
theorem cube_nn {i : Int} (h : 0 ≤ i) : 0 ≤ i ^ Int.toNat 3 := Int.pow_nonneg h
theorem purse_new {a x k : Int} (hk : 0 ≤ k ∧ k ≤ 63) : 0 ≤ a.fmod (10 ^ Int.toNat 41 + 37) + 90001 * k + 17 ∧ a.fmod (10 ^ Int.toNat 41 + 37) + 90001 * k + 17 < 10 ^ 42 := by
  have h := fmod_in (a := a) (m := 10 ^ Int.toNat 41 + 37) (by rw [p41]; omega)
  rw [p41] at h ⊢
  rw [p42]
  omega
end Nw
namespace Nw
theorem ne41 : (10 : Int) ^ Int.toNat 41 + 37 ≠ 0 := by rw [p41]; decide
theorem ne43 : (10 : Int) ^ Int.toNat 43 + 29 ≠ 0 := by rw [p43]; decide
theorem ne45 : (10 : Int) ^ Int.toNat 45 + 9 ≠ 0 := by rw [p45]; decide
end Nw
/-! Data of webs compared and shown. -/
namespace Nw
open PySem PySem.Spec PyProof.Rows L2
theorem asc_snoc : ∀ {r : List Int} {x : Int}, ascB ltIn r = true → (∀ t ∈ r, t < x) → ascB ltIn (r ++ [x]) = true
  | [], _, _, _ => rfl
  | [a], x, _, h => by
    have := h a (by simp)
    simp [ascB, ltIn, this]
  | a :: b :: r, x, ha, h => by
    simp only [ascB, Bool.and_eq_true] at ha
    have ih := asc_snoc (r := b :: r) (x := x) ha.2 (fun t ht => h t (List.mem_cons_of_mem _ ht))
    simp only [List.cons_append, ascB, Bool.and_eq_true] at ih ⊢
    exact ⟨ha.1, ih⟩
theorem ascP_snoc : ∀ {r : List (Int × Int)} {x : Int × Int}, ascB ltPr r = true → (∀ t ∈ r, ltPr t x = true) → ascB ltPr (r ++ [x]) = true
  | [], _, _, _ => rfl
  | [a], x, _, h => by
    have := h a (by simp)
    simp [ascB, this]
  | a :: b :: r, x, ha, h => by
    simp only [ascB, Bool.and_eq_true] at ha
    have ih := ascP_snoc (r := b :: r) (x := x) ha.2 (fun t ht => h t (List.mem_cons_of_mem _ ht))
    simp only [List.cons_append, ascB, Bool.and_eq_true] at ih ⊢
    exact ⟨ha.1, ih⟩
/-! ### == -/
theorem eqv_ints : ∀ r s : List Int, PyData.eqvAll (r.map PyData.int) (s.map PyData.int) = decide (r = s)
  | [], [] => by simp [PyData.eqvAll]
  | [], _ :: _ => by simp [PyData.eqvAll]
  | _ :: _, [] => by simp [PyData.eqvAll]
  | a :: r, b :: s => by
    simp only [List.map_cons, PyData.eqvAll, eqv_ints r s, PyData.eqv]
    by_cases h : a = b
    · by_cases h2 : r = s <;> simp [h, h2]
    · simp [h]
theorem eqv_dInts (r s : List Int) : PyData.eqv (dInts r) (dInts s) = decide (r = s) := by
  unfold dInts
  simp only [PyData.eqv, eqv_ints]
theorem eqv_dPair (p q : Int × Int) : PyData.eqv (dPair p) (dPair q) = decide (p = q) := by
  obtain ⟨a, b⟩ := p
  obtain ⟨c, d⟩ := q
  unfold dPair
  simp only [PyData.eqv, PyData.eqvAll, Bool.and_true, Prod.mk.injEq]
  by_cases h : a = c <;> by_cases h2 : b = d <;> simp [h, h2]
theorem eqv_pairs : ∀ r s : List (Int × Int), PyData.eqvAll (r.map dPair) (s.map dPair) = decide (r = s)
  | [], [] => by simp [PyData.eqvAll]
  | [], _ :: _ => by simp [PyData.eqvAll]
  | _ :: _, [] => by simp [PyData.eqvAll]
  | a :: r, b :: s => by
    simp only [List.map_cons, PyData.eqvAll, eqv_pairs r s, eqv_dPair]
    by_cases h : a = b
    · by_cases h2 : r = s <;> simp [h, h2]
    · simp [h]
theorem eqv_dPairs (r s : List (Int × Int)) : PyData.eqv (dPairs r) (dPairs s) = decide (r = s) := by
  unfold dPairs
  simp only [PyData.eqv, eqv_pairs]
theorem eqv_rows : ∀ r s : List (List Int), PyData.eqvAll (r.map dInts) (s.map dInts) = decide (r = s)
  | [], [] => by simp [PyData.eqvAll]
  | [], _ :: _ => by simp [PyData.eqvAll]
  | _ :: _, [] => by simp [PyData.eqvAll]
  | a :: r, b :: s => by
    simp only [List.map_cons, PyData.eqvAll, eqv_rows r s, eqv_dInts]
    by_cases h : a = b
    · by_cases h2 : r = s <;> simp [h, h2]
    · simp [h]
theorem eqv_dRows (r s : List (List Int)) : PyData.eqv (dRows r) (dRows s) = decide (r = s) := by
  unfold dRows
  simp only [PyData.eqv, eqv_rows]
theorem eqv_web (u v : Wb) : PyData.eqv u.d v.d = decide (u = v) := by
  obtain ⟨a, b, c⟩ := u
  obtain ⟨d, e, f⟩ := v
  unfold Wb.d
  simp only [PyData.eqv, PyData.eqvAll, eqv_dPairs, eqv_dRows, Bool.and_true, Wb.mk.injEq]
  by_cases h : a = d <;> by_cases h2 : b = e <;> by_cases h3 : c = f <;> simp [h, h2, h3]
/-! ### shape -/
theorem shaped_of {d : PyData} (h : d.canLay0 = true) (h2 : d.depth ≤ 64) : SeqAt.shaped d = true := by
  unfold SeqAt.shaped
  rw [h, decide_eq_true h2]
  rfl
theorem lay_ints : ∀ r : List Int, PyData.canLayAll0 (r.map PyData.int) = true
  | [] => by simp [PyData.canLayAll0]
  | a :: r => by simp [PyData.canLayAll0, PyData.canLay0, lay_ints r]
theorem lay_pairs : ∀ r : List (Int × Int), PyData.canLayAll0 (r.map dPair) = true
  | [] => by simp [PyData.canLayAll0]
  | a :: r => by simp [PyData.canLayAll0, PyData.canLay0, dPair, lay_pairs r]
theorem lay_rows : ∀ r : List (List Int), PyData.canLayAll0 (r.map dInts) = true
  | [] => by simp [PyData.canLayAll0]
  | a :: r => by simp [PyData.canLayAll0, PyData.canLay0, dInts, lay_rows r, lay_ints]
theorem dep_ints : ∀ r : List Int, PyData.depthAll (r.map PyData.int) = 0
  | [] => by simp [PyData.depthAll]
  | a :: r => by simp [PyData.depthAll, PyData.depth, dep_ints r]
theorem dep_pairs : ∀ r : List (Int × Int), PyData.depthAll (r.map dPair) ≤ 1
  | [] => by simp [PyData.depthAll]
  | a :: r => by
    have := dep_pairs r
    simp [PyData.depthAll, PyData.depth, dPair]
    omega
theorem dep_rows : ∀ r : List (List Int), PyData.depthAll (r.map dInts) ≤ 1
  | [] => by simp [PyData.depthAll]
  | a :: r => by
    have := dep_rows r
    simp [PyData.depthAll, PyData.depth, dInts, dep_ints]
    omega
theorem lay_dInts (r : List Int) : (dInts r).canLay0 = true := by simp [dInts, PyData.canLay0, lay_ints]
theorem lay_dPairs (r : List (Int × Int)) : (dPairs r).canLay0 = true := by simp [dPairs, PyData.canLay0, lay_pairs]
theorem lay_dRows (r : List (List Int)) : (dRows r).canLay0 = true := by simp [dRows, PyData.canLay0, lay_rows]
theorem lay_dPair (p : Int × Int) : (dPair p).canLay0 = true := by simp [dPair, PyData.canLay0, PyData.canLayAll0]
theorem lay_web (u : Wb) : u.d.canLay0 = true := by simp [Wb.d, PyData.canLay0, PyData.canLayAll0, lay_dPairs, lay_dRows]
theorem dep_dInts (r : List Int) : (dInts r).depth ≤ 1 := by simp [dInts, PyData.depth, dep_ints]
theorem dep_dPair (p : Int × Int) : (dPair p).depth ≤ 1 := by simp [dPair, PyData.depth, PyData.depthAll]
theorem dep_dPairs (r : List (Int × Int)) : (dPairs r).depth ≤ 2 := by
  have := dep_pairs r
  simp [dPairs, PyData.depth]
  omega
theorem dep_dRows (r : List (List Int)) : (dRows r).depth ≤ 2 := by
  have := dep_rows r
  simp [dRows, PyData.depth]
  omega
theorem dep_web (u : Wb) : u.d.depth ≤ 3 := by
  have h1 := dep_dPairs u.ps
  have h2 := dep_dRows u.ns
  simp [Wb.d, PyData.depth, PyData.depthAll]
  omega
theorem sh_dInts (r : List Int) : SeqAt.shaped (dInts r) = true := shaped_of (lay_dInts r) (by have := dep_dInts r; omega)
theorem sh_dPair (r : Int × Int) : SeqAt.shaped (dPair r) = true := shaped_of (lay_dPair r) (by have := dep_dPair r; omega)
theorem sh_dPairs (r : List (Int × Int)) : SeqAt.shaped (dPairs r) = true := shaped_of (lay_dPairs r) (by have := dep_dPairs r; omega)
theorem sh_dRows (r : List (List Int)) : SeqAt.shaped (dRows r) = true := shaped_of (lay_dRows r) (by have := dep_dRows r; omega)
theorem sh_web (u : Wb) : SeqAt.shaped u.d = true := shaped_of (lay_web u) (by have := dep_web u; omega)
theorem nd_of_lay {d : PyData} (h : d.canLay0 = true) : d.hasDict = false := PyData.hasDict_of_canLay d h
section
variable {K : PySem.W.Frag} {H : Hp}
theorem Da.dInts {r : List Int} {v : V} (h : Da K H (dInts r) v) : Dp K H v (dInts r) := h.dp _ _ (nd_of_lay (lay_dInts r))
theorem Da.dPairs {r : List (Int × Int)} {v : V} (h : Da K H (dPairs r) v) : Dp K H v (dPairs r) := h.dp _ _ (nd_of_lay (lay_dPairs r))
theorem Da.dPair {r : Int × Int} {v : V} (h : Da K H (dPair r) v) : Dp K H v (dPair r) := h.dp _ _ (nd_of_lay (lay_dPair r))
theorem Da.dRows {r : List (List Int)} {v : V} (h : Da K H (dRows r) v) : Dp K H v (dRows r) := h.dp _ _ (nd_of_lay (lay_dRows r))
theorem Da.web {u : Wb} {v : V} (h : Da K H u.d v) : Dp K H v u.d := h.dp _ _ (nd_of_lay (lay_web u))
/-- a == b, a != b of lists of ints .. as the readings ask -/
theorem eqD_of {d e : PyData} {x y : V} {Q : VK} (hd : Dp K H x d) (he : Dp K H y e) (sd : SeqAt.shaped d = true) (se : SeqAt.shaped e = true) (q : Q (.bl (PyData.eqv d e)) H) : rEqD K x y H Q := ⟨d, e, hd, he, sd, se, q⟩
end
end Nw
namespace Nw
open PySem PySem.Spec PyProof.Rows L2
theorem ex_rm1 {H H' : Hp} {p : Addr} (h : ∀ b o, b ≠ p → H b = some o → H' b = some o) : Ex (rm H p) (rm H' p) := ExD.rm h
theorem ex_rm2 {H H' : Hp} {p q : Addr} (h : ∀ b o, b ≠ p → b ≠ q → H b = some o → H' b = some o) : Ex (rm (rm H p) q) (rm (rm H' p) q) :=
  ExD.rm fun b o n e => by
    by_cases n2 : b = p
    · subst n2
      rw [rm_at] at e
      cases e
    · rw [rm_ne n2] at e ⊢
      exact h b o n2 n e
theorem ex_rm3 {H H' : Hp} {p q r : Addr} (h : ∀ b o, b ≠ p → b ≠ q → b ≠ r → H b = some o → H' b = some o) : Ex (rm (rm (rm H p) q) r) (rm (rm (rm H' p) q) r) :=
  ExD.rm fun b o n e => by
    by_cases n2 : b = q
    · subst n2
      rw [rm_at] at e
      cases e
    · rw [rm_ne n2] at e ⊢
      by_cases n3 : b = p
      · subst n3
        rw [rm_at] at e
        cases e
      · rw [rm_ne n3] at e ⊢
        exact h b o n3 n2 n e
theorem asc_app : ∀ {a b : List (Int × Int)}, ascB ltPr a = true → ascB ltPr b = true → (∀ x ∈ a, ∀ y ∈ b, ltPr x y = true) → ascB ltPr (a ++ b) = true
  | [], _, _, hb, _ => hb
  | [x], [], _, _, _ => rfl
  | [x], y :: b, _, hb, h => by
    show (ltPr x y && ascB ltPr (y :: b)) = true
    rw [hb, h x (by simp) y (by simp)]
    rfl
  | x :: z :: a, b, ha, hb, h => by
    simp only [ascB, Bool.and_eq_true] at ha
    have ih := asc_app (a := z :: a) ha.2 hb (fun x hx => h x (List.mem_cons_of_mem _ hx))
    show (ltPr x z && ascB ltPr (z :: a ++ b)) = true
    rw [ha.1, ih]
    rfl
end Nw
namespace Nw
open PySem PySem.Spec PyProof.Rows L2
theorem rowOf_none {ls : List (Int × Int)} {s : Int} (h : ∀ l ∈ ls, l.1 ≠ s) : rowOf ls s = [] := by
  unfold rowOf
  rw [List.filter_eq_nil_iff.mpr (fun l hl => by simpa using h l hl)]
  rfl
theorem rowOf_pushedAt (n : Int) (i : Nat) (r : List Int) : rowOf (pushedAt n i r) (n + (i : Int)) = r := by
  unfold rowOf pushedAt
  rw [List.filter_eq_self.mpr]
  · rw [List.map_map]
    exact List.map_id _
  · intro l hl
    obtain ⟨t, _, rfl⟩ := List.mem_map.mp hl
    simp
/-- a quantity's row: from the pairs alone -/
theorem row_low {u : Wb} (h : u.Ok) {s : Int} (hs : s < u.n) : rowOf u.lines s = rowOf u.ps s := by
  unfold Wb.lines
  rw [rowOf_app, rowOf_none (ls := pushedFrom u.n 0 u.ns), List.append_nil]
  intro l hl
  have := pushed_ok (fun r hr => (h.ns r hr).2.1) l hl
  omega
theorem row_push {n : Int} {m : Int} : ∀ {rs : List (List Int)} {i k : Nat} {r : List Int}, (∀ r ∈ rs, ∀ t ∈ r, 0 ≤ t ∧ t < m) → rs[k]? = some r →
    rowOf (pushedFrom n i rs) (n + (i : Int) + (k : Int)) = r
  | [], _, _, _, _, e => by simp at e
  | a :: rs, i, 0, r, h, e => by
    obtain rfl : a = r := by simpa using e
    simp only [pushedFrom]
    rw [rowOf_app, show n + (i : Int) + ((0 : Nat) : Int) = n + (i : Int) by omega, rowOf_pushedAt, rowOf_none, List.append_nil]
    intro l hl
    have := pushed_ok (fun z hz => h z (List.mem_cons_of_mem _ hz)) l hl
    omega
  | a :: rs, i, k + 1, r, h, e => by
    simp only [pushedFrom]
    rw [rowOf_app, rowOf_none, List.nil_append]
    · have ih := row_push (n := n) (i := i + 1) (k := k) (r := r) (fun z hz => h z (List.mem_cons_of_mem _ hz)) (by simpa using e)
      rw [show n + (i : Int) + ((k + 1 : Nat) : Int) = n + ((i + 1 : Nat) : Int) + (k : Int) by omega]
      exact ih
    · intro l hl
      obtain ⟨t, _, rfl⟩ := List.mem_map.mp hl
      simp only
      omega
/-- a nudge's row -/
theorem row_high {u : Wb} (h : u.Ok) {k : Nat} {r : List Int} (hr : u.ns[k]? = some r) {s : Int} (hs : s = u.n + (k : Int)) : rowOf u.lines s = r := by
  subst hs
  unfold Wb.lines
  rw [rowOf_app, rowOf_none (ls := u.ps), List.nil_append]
  · have := row_push (n := u.n) (i := 0) (k := k) (fun r hr => (h.ns r hr).2.1) hr
    rw [show u.n + ((0 : Nat) : Int) + (k : Int) = u.n + (k : Int) by omega] at this
    exact this
  · intro l hl
    have := h.ps l hl
    omega
end Nw
/-! Data of webs shown, lines grouped and sorted. -/
namespace Nw
open PySem PySem.Spec PyProof.Rows L2
theorem short_small : ∀ n : Fin 64, ((PyData.shown (.int (n.val : Int))).length ≤ 8 ∧ (((n.val : Int)).natAbs.log2 < 1920) ∧ PyData.weight (.int (n.val : Int)) ≤ 6) := by decide +kernel
theorem short_int {i : Int} (h0 : 0 ≤ i) (h1 : i < 64) : (PyData.shown (.int i)).length ≤ 8 ∧ i.natAbs.log2 < 1920 ∧ PyData.weight (.int i) ≤ 6 := by
  have h := short_small ⟨i.toNat, by omega⟩
  simp only [Int.toNat_of_nonneg h0] at h
  exact h
abbrev Sm (i : Int) : Prop := 0 ≤ i ∧ i < 64
theorem sm_ints : ∀ {r : List Int}, (∀ t ∈ r, Sm t) → PyData.leavesShortAll 8 (r.map PyData.int) = true ∧ PyData.showableAll (r.map PyData.int) = true ∧ PyData.weightAll (r.map PyData.int) ≤ 7 * r.length
  | [], _ => by simp [PyData.leavesShortAll, PyData.showableAll, PyData.weightAll]
  | a :: r, h => by
    obtain ⟨h1, h2, h3⟩ := sm_ints (r := r) fun t ht => h t (List.mem_cons_of_mem _ ht)
    obtain ⟨s1, s2⟩ := h a (by simp)
    obtain ⟨g1, g2, g5⟩ := short_int s1 s2
    refine ⟨?_, ?_, ?_⟩
    · simp only [List.map_cons, PyData.leavesShortAll, PyData.leavesShort, h1, Bool.and_true, decide_eq_true_eq]
      exact g1
    · simp only [List.map_cons, PyData.showableAll, PyData.showable, h2, Bool.and_true, decide_eq_true_eq]
      exact g2
    · simp only [List.map_cons, PyData.weightAll, List.length_cons]
      omega
theorem sm_pairs : ∀ {r : List (Int × Int)}, (∀ t ∈ r, Sm t.1 ∧ Sm t.2) → PyData.leavesShortAll 8 (r.map dPair) = true ∧ PyData.showableAll (r.map dPair) = true ∧ PyData.weightAll (r.map dPair) ≤ 16 * r.length
  | [], _ => by simp [PyData.leavesShortAll, PyData.showableAll, PyData.weightAll]
  | a :: r, h => by
    obtain ⟨h1, h2, h3⟩ := sm_pairs (r := r) fun t ht => h t (List.mem_cons_of_mem _ ht)
    obtain ⟨s1, s2⟩ := h a (by simp)
    obtain ⟨g1, g2, g5⟩ := short_int s1.1 s1.2
    obtain ⟨g3, g4, g6⟩ := short_int s2.1 s2.2
    refine ⟨?_, ?_, ?_⟩
    · simp only [List.map_cons, dPair, PyData.leavesShortAll, PyData.leavesShort, h1, Bool.and_true, decide_eq_true_eq, Bool.and_eq_true]
      exact ⟨g1, g3⟩
    · simp only [List.map_cons, dPair, PyData.showableAll, PyData.showable, h2, Bool.and_true, decide_eq_true_eq, Bool.and_eq_true]
      exact ⟨g2, g4⟩
    · have e : PyData.weight (dPair a) = PyData.weight (.int a.1) + 1 + (PyData.weight (.int a.2) + 1 + 0) := by
        simp only [dPair, PyData.weight, PyData.weightAll]
      simp only [List.map_cons, PyData.weightAll, List.length_cons]
      omega
/-- what repr of a list of small ints asks -/
theorem show_ints {r : List Int} (hs : ∀ t ∈ r, Sm t) (hz : r.length ≤ 30000) : (dInts r).showable = true ∧ (dInts r).shown.length ≤ sizeLine ∧ (dInts r).depth ≤ 60 := by
  obtain ⟨h1, h2, h3⟩ := sm_ints hs
  refine ⟨?_, ?_, ?_⟩
  · simp only [dInts, PyData.showable, h2]
  · refine PyData.shown_fits (B := 8) (by omega) (by omega) ?_ ?_
    · simp only [dInts, PyData.leavesShort, h1]
    · simp only [dInts, PyData.weight]
      omega
  · have := dep_dInts r
    omega
/-- what repr of a list of pairs of small ints asks -/
theorem show_pairs {r : List (Int × Int)} (hs : ∀ t ∈ r, Sm t.1 ∧ Sm t.2) (hz : r.length ≤ 30000) : (dPairs r).showable = true ∧ (dPairs r).shown.length ≤ sizeLine ∧ (dPairs r).depth ≤ 60 := by
  obtain ⟨h1, h2, h3⟩ := sm_pairs hs
  refine ⟨?_, ?_, ?_⟩
  · simp only [dPairs, PyData.showable, h2]
  · refine PyData.shown_fits (B := 8) (by omega) (by omega) ?_ ?_
    · simp only [dPairs, PyData.leavesShort, h1]
    · simp only [dPairs, PyData.weight]
      omega
  · have := dep_dPairs r
    omega
/-! ### lines grouped -/
theorem asc_tail : ∀ {p : Int × Int} {r : List (Int × Int)}, ascB ltPr (p :: r) = true → (∀ q ∈ r, ltPr p q = true) ∧ ascB ltPr r = true
  | p, [], _ => ⟨fun q hq => (by cases hq), rfl⟩
  | p, q :: r, h => by
    simp only [ascB, Bool.and_eq_true] at h
    obtain ⟨h1, h2⟩ := asc_tail (p := q) (r := r) h.2
    refine ⟨fun z hz => ?_, h.2⟩
    rcases List.mem_cons.mp hz with rfl | hz
    · exact h.1
    · have a := ltPr_iff.mp h.1
      have b := ltPr_iff.mp (h1 z hz)
      refine ltPr_iff.mpr ?_
      omega
/-- rising lines, those of the first k sources -/
def upTo (ls : List (Int × Int)) (k : Int) : List (Int × Int) := ls.filter fun l => decide (l.1 < k)
theorem upTo_step : ∀ {ls : List (Int × Int)} (k : Int), ascB ltPr ls = true → upTo ls (k + 1) = upTo ls k ++ (rowOf ls k).map fun t => (k, t)
  | [], k, _ => rfl
  | p :: r, k, h => by
    obtain ⟨h1, h2⟩ := asc_tail h
    have ih := upTo_step (ls := r) k h2
    unfold upTo rowOf at ih ⊢
    by_cases a : p.1 < k
    · rw [List.filter_cons_of_pos (p := fun l : Int × Int => decide (l.1 < k + 1)) (by simp; omega), List.filter_cons_of_pos (p := fun l : Int × Int => decide (l.1 < k)) (by simpa using a),
        List.filter_cons_of_neg (p := fun l : Int × Int => l.1 == k) (by simp; omega), ih]
      rfl
    · have e0 : r.filter (fun l => decide (l.1 < k)) = [] := by
        refine List.filter_eq_nil_iff.mpr fun q hq => ?_
        have := ltPr_iff.mp (h1 q hq)
        simp
        omega
      rw [e0, List.nil_append] at ih
      rw [List.filter_cons_of_neg (p := fun l : Int × Int => decide (l.1 < k)) (by simpa using a), e0, List.nil_append]
      by_cases b : p.1 = k
      · rw [List.filter_cons_of_pos (p := fun l : Int × Int => decide (l.1 < k + 1)) (by simp; omega), List.filter_cons_of_pos (p := fun l : Int × Int => l.1 == k) (by simpa using b), ih, List.map_cons, List.map_cons]
        rw [← b]
      · rw [List.filter_cons_of_neg (p := fun l : Int × Int => decide (l.1 < k + 1)) (by simp; omega), List.filter_cons_of_neg (p := fun l : Int × Int => l.1 == k) (by simpa using b), ih]
theorem upTo_none {ls : List (Int × Int)} {k : Int} (h : ∀ l ∈ ls, k ≤ l.1) : upTo ls k = [] :=
  List.filter_eq_nil_iff.mpr fun l hl => by
    have := h l hl
    simp
    omega
theorem upTo_all {ls : List (Int × Int)} {k : Int} (h : ∀ l ∈ ls, l.1 < k) : upTo ls k = ls :=
  List.filter_eq_self.mpr fun l hl => by
    have := h l hl
    simp
    omega
theorem asc_pushedAt {n : Int} {i : Nat} : ∀ {r : List Int}, ascB ltIn r = true → ascB ltPr (pushedAt n i r) = true
  | [], _ => rfl
  | [x], _ => rfl
  | x :: y :: r, h => by
    simp only [ascB, Bool.and_eq_true, ltIn, decide_eq_true_eq] at h
    have ih := asc_pushedAt (n := n) (i := i) (r := y :: r) h.2
    unfold pushedAt at ih ⊢
    simp only [List.map_cons, ascB, Bool.and_eq_true] at ih ⊢
    exact ⟨ltPr_iff.mpr (.inr ⟨rfl, h.1⟩), ih⟩
theorem asc_pushed {n m : Int} : ∀ {rs : List (List Int)} {i : Nat}, (∀ r ∈ rs, (∀ t ∈ r, 0 ≤ t ∧ t < m) ∧ ascB ltIn r = true) → ascB ltPr (pushedFrom n i rs) = true
  | [], _, _ => rfl
  | r :: rs, i, h => by
    simp only [pushedFrom]
    refine asc_app (asc_pushedAt (h r (by simp)).2) (asc_pushed fun z hz => h z (List.mem_cons_of_mem _ hz)) ?_
    intro x hx y hy
    obtain ⟨t, _, rfl⟩ := List.mem_map.mp hx
    have := pushed_ok (fun z hz => (h z (List.mem_cons_of_mem _ hz)).1) y hy
    refine ltPr_iff.mpr (.inl ?_)
    simp only
    omega
theorem Wb.Ok.lines_asc {u : Wb} (h : u.Ok) : ascB ltPr u.lines = true := by
  refine asc_app h.asc (asc_pushed fun r hr => (h.ns r hr).2) ?_
  intro x hx y hy
  have a := h.ps x hx
  have b := pushed_ok (fun r hr => (h.ns r hr).2.1) y hy
  refine ltPr_iff.mpr (.inl ?_)
  omega
theorem Wb.Ok.sm {u : Wb} (h : u.Ok) : ∀ l ∈ u.lines, Sm l.1 ∧ Sm l.2 := by
  intro l hl
  have a := h.line l hl
  have b := h.hi
  have c := h.few
  refine ⟨⟨a.1.1, by omega⟩, ⟨a.2.1, by omega⟩⟩
theorem Wb.Ok.sm_row {u : Wb} (h : u.Ok) (s : Int) : ∀ t ∈ rowOf u.lines s, Sm t := by
  intro t ht
  obtain ⟨l, hl, rfl⟩ := List.mem_map.mp ht
  exact (h.sm l (List.mem_filter.mp hl).1).2
theorem Wb.Ok.sm_srcs {u : Wb} (h : u.Ok) (s : Int) : ∀ t ∈ srcsOf u.lines s, Sm t := by
  intro t ht
  obtain ⟨l, hl, rfl⟩ := List.mem_map.mp ht
  exact (h.sm l (List.mem_filter.mp hl).1).1
theorem srcs_len (ls : List (Int × Int)) (s : Int) : (srcsOf ls s).length ≤ ls.length := by
  unfold srcsOf
  rw [List.length_map]
  exact List.length_filter_le _ _
/-! ### sorted -/
/-- the two ints of a pair that is known -/
def keyOf (H : Hp) : V → Int × Int
  | .ref t => match H t with
    | some (.tup [.int a, .int b]) => (a, b)
    | _ => (0, 0)
  | _ => (0, 0)
theorem keyOf_at {H : Hp} {t : Addr} {p : Int × Int} (h : H t = some (.tup [.int p.1, .int p.2])) : keyOf H (.ref t) = p := by
  unfold keyOf
  simp only [h]
theorem keys_of {K : PySem.W.Frag} {H : Hp} : ∀ {L : List (Int × Int)} {xs : List V}, DaAll K H (L.map dPair) xs → (∀ x ∈ xs, ∃ t, x = V.ref t ∧ H t = some (.tup [.int (keyOf H x).1, .int (keyOf H x).2])) ∧ xs.map (keyOf H) = L
  | [], xs, h => by
    obtain rfl : xs = [] := h
    exact ⟨fun x hx => (by cases hx), rfl⟩
  | p :: L, xs, h => by
    obtain ⟨x, xs, rfl, ⟨a, ys, rfl, hS, z1, r1, rfl, e1, z2, r2, rfl, e2, rfl⟩, h2⟩ := h
    obtain rfl := e1
    obtain rfl := e2
    obtain ⟨g1, g2⟩ := keys_of h2
    have e := keyOf_at hS
    refine ⟨fun x hx => ?_, by rw [List.map_cons, e, g2]⟩
    rcases List.mem_cons.mp hx with rfl | hx
    · exact ⟨a, rfl, by rw [e]; exact hS⟩
    · exact g1 x hx
theorem srtd_of {k : V → Int × Int} : ∀ {xs : List V}, ascB ltPr (xs.map k) = true → SrtO.Srtd (ltP k) xs
  | [], _ => List.Pairwise.nil
  | x :: xs, h => by
    obtain ⟨h1, h2⟩ := asc_tail (p := k x) (r := xs.map k) h
    refine List.Pairwise.cons (fun y hy => ?_) (srtd_of h2)
    have a := ltPr_iff.mp (h1 (k y) (List.mem_map.mpr ⟨y, hy, rfl⟩))
    refine SrtO.lexB_no.mpr ?_
    omega
/-- sorted of what is sorted -/
theorem sorted_same {K : PySem.W.Frag} {H : Hp} {a : Addr} {xs : List V} {L : List (Int × Int)} {Q : VK} (hS : SqL K H a xs) (hA : DaAll K H (L.map dPair) xs) (ha : ascB ltPr L = true)
    (q : ∀ p, H p = none → Q (.ref p) (upd H p (.lst xs))) : rSortedPO K [.ref a] H Q := by
  obtain ⟨h1, h2⟩ := keys_of hA
  refine ⟨a, xs, keyOf H, rfl, hS, h1, fun ys p s1 s2 hp => ?_⟩
  have s3 : SrtO.Srtd (ltP (keyOf H)) xs := srtd_of (by rw [h2]; exact ha)
  rw [SrtO.stb_uniq (ltP_swo (keyOf H)) s1 s3 s2]
  exact q p hp
/-- pairs outlast what is done to a list -/
theorem pairs_wr {K : PySem.W.Frag} {H : Hp} {D : Addr} {ys : List V} {o : HO} (hD : H D = some (.lst ys)) : ∀ {L : List (Int × Int)} {acc : List V}, DaAll K H (L.map dPair) acc → DaAll K (upd H D o) (L.map dPair) acc
  | [], _, h => h
  | p :: L, acc, h => by
    obtain ⟨x, xs, rfl, ⟨a, zs, rfl, hS, z1, r1, rfl, e1, z2, r2, rfl, e2, rfl⟩, h2⟩ := h
    obtain rfl := e1
    obtain rfl := e2
    refine ⟨_, _, rfl, dPair_of ?_, pairs_wr hD h2⟩
    rw [upd_ne (fun e => by rw [e, hD] at hS; cases hS)]
    exact hS
end Nw
/-! TooLarge, made, raised, caught, and its limit read. -/
namespace PySem
namespace BigX
open PySem.W PySem.Calls PyProof.Rows PySem.HandSPX
/-! ### the text of __init__ -/
def iA (p1 p2 : Pos) : Arguments := { posonlyargs := [], args := [{ arg := "self", annotation := none, pos := p1 }, { arg := "limit", annotation := none, pos := p2 }], vararg := none, kwonlyargs := [], kw_defaults := [], kwarg := none, defaults := [] }
def iB (q1 q2 q3 q4 : Pos) : List Stmt := [.Assign [.Attribute (.Name "self" q1) "limit" q2] (.Name "limit" q3) q4]
def iS : Scope := { kind := .function, names := [(PySem.Str.ofString "self", .local), (PySem.Str.ofString "limit", .local)], isGenerator := false, isCoroutine := false, more := [] }
/-- what the written part says of TooLarge, at C, and of its __init__, at fI -/
structure BigTxt (K : Frag) (mg : Str → Option Value) (C fI : Addr) : Prop where
  gC : mg "TooLarge" = some (.ref C)
  cls : ∃ nm q N bs bm sn sub ab col dd k0 k1 k2 k3 k5, K.lookup C = some (excClassObj nm q C N bs bm true sn sub ab col dd k0 k1 k2 k3 k5 "ValueError.__new__") ∧ refsVE bm = true
  sa : findIn K (.ref C) "__setattr__" = some (some (.builtin "object.__setattr__"))
  ga : findIn K (.ref C) "__getattribute__" = some (some (.builtin "BaseException.__getattribute__"))
  gg : findIn K (.ref C) "__getattr__" = some none
  noN : findIn K (.ref C) "limit" = some none
  iC : findIn K (.ref C) "__init__" = some (some (.ref fI))
  tC : typeIn K (.ref fI) = some (.type "function")
  kC : keepIn K (.ref C) = true
  exC : subIn K (.ref C) (.type "BaseException") = some true
  tyC : typeIn K (.ref C) = some (.type "type")
  hdC : hasDictIn K C = true
  te : exmOne K (.ref C) (.ref C) = some true
  fn : ∃ (oc : Value) (od : Option Addr) (doc pm : Value) (an : Option Addr) (cdv ct : Value) (osl : Array (Option Value)) (p1 p2 q1 q2 q3 q4 : Pos),
    K.lookup fI = some ⟨oc, od, .func (fnOf "__init__" "TooLarge.__init__" (iA p1 p2) (iB q1 q2 q3 q4) iS .none .none doc pm an cdv ct), osl⟩ ∧ codeIn K cdv "TooLarge.__init__" = true
theorem one_size (v : Value) : [v].length ≤ sizeLine := by
  rw [sizeLine_eq]
  exact (by decide : 1 ≤ 16777216)
theorem kept_but {K : Frag} {h h' : Heap} {x : Addr} (X : K.In h) (hx : K.lookup x = none) (k : ∀ b o, b ≠ x → h.get? b = some o → h'.get? b = some o) : K.In h' := fun a o e =>
  k a o (fun z => by rw [z, hx] at e; cases e) (X a o e)
theorem ldC {M : Model} {s : Shared} {name : Str} {scope : Scope} {L a : Addr} {cd : Value} {m : Str → Option Value} {x : Str} {pos : Pos} {v : Value} {Q : Value → Shared → Prop} {A : Around} {E : Value → Shared → Prop} (hn : s.heap.Ns L m) (hv : m x = some v) (h : Q v s)
    (hk : scope.kind = .function := by rfl) (hl : (envOfC name scope L a cd).kindOf x = some .local := by rfl) (hd : (x == ("__debug__" : Str)) = false := by decide) :
    wpAny M A (eval (.Name x pos) (envOfC name scope L a cd)) Q E s := wpAny_Name (wpAny_loadName_local hk hl hn hv h) hd
/-- what __init__ leaves of a fresh exception at x -/
structure InitEnd (h h' : Heap) (x C dx t1 : Addr) (v : Value) : Prop where
  keep : ∀ b o, b ≠ x → h.get? b = some o → h'.get? b = some o
  obj : h'.get? x = some { cls := .ref C, dict := some dx, data := .fields #[.ref t1, .none, .none, .none, .bool false, .none] }
  dbig : h.objs.size ≤ dx
  dne : dx ≠ x
  ns : h'.Ns1 dx (fun y => if y = "limit" then some v else none)
/-- a made TooLarge -/
structure OwnMade (h h' : Heap) (e C d : Addr) (v : Value) : Prop where
  keep : ∀ b o, h.get? b = some o → h'.get? b = some o
  new : h.objs.size ≤ e
  obj : ∃ oe vs, h'.get? e = some oe ∧ oe.cls = .ref C ∧ oe.dict = some d ∧ oe.data = .fields vs ∧ vs[1]? = some .none
  dbig : h.objs.size ≤ d
  dne : d ≠ e
  ns : h'.Ns1 d (fun y => if y = "limit" then some v else none)
section
variable {prog : Program} {w : World} {A : Around} {E : Value → Shared → Prop} {R : Result → Shared → Prop} {s : Shared} {K : Frag} {mg : Str → Option Value} {C fI : Addr}
theorem big_init (T : BigTxt K mg C fI) {x t0 : Addr} {v : Value} (X : K.In s.heap) (hlim : s.heap.NoLimit) (hx : s.heap.get? x = some (excO C t0)) (hnx : K.lookup x = none) (hroom : A.depth < recursionLimit)
    (hq : ∀ h' tk dx, InitEnd s.heap h' x C dx t0 v → R (.ok (.ret .none)) { s with heap := h', toks := tk }) :
    codeAny (model prog w) A (.call (.ref fI) ⟨[.ref x, v], []⟩) R s := by
  obtain ⟨oc, od, doc, pm, an, cdv, ct, osl, p1, p2, q1, q2, q3, q4, ho, hcd⟩ := T.fn
  obtain ⟨nm, q, N, bs, bm, sn, sub, ab, col, dd, k0, k1, k2, k3, k5, hC, hbm⟩ := T.cls
  have hcl : clsIn K C = some { name := nm, bases := bs, mro := .ref C :: bm, ns := N, qualname := q, hasDict := true, slotNames := sn, subclasses := sub, abstract := ab, collection := col, hasDel := false } := by unfold clsIn; rw [hC] <;> rfl
  refine Att.call_fn (binds := [("self", .ref x), ("limit", v)]) X hlim ho hcd hroom (BindsTo.of_eq (by first | rfl | with_unfolding_all rfl)) (by first | rfl | decide | with_unfolding_all rfl) (fun s₁ IC => ?_) rfl rfl rfl
  obtain ⟨h₁, tk₁, rfl⟩ := IC.toInCall.same
  have k : ∀ b o, s.heap.get? b = some o → h₁.get? b = some o := IC.toInCall.keep
  have hn := IC.toInCall.ns
  have hxL : s.heap.objs.size ≠ x := Nat.ne_of_gt (Heap.lt_size hx)
  have X₁ : K.In h₁ := X.keeps k
  have hx₁ := k _ _ hx
  -- self.by = by
  show wpAny _ _ (execs _ _) _ _ _
  refine wpAny_execs_cons (plainObj_wpAny_Assign_Attribute ?_)
  refine ldC (v := v) hn (by first | rfl | with_unfolding_all rfl | kernel_rfl) (ldC (v := .ref x) hn (by first | rfl | with_unfolding_all rfl | kernel_rfl) ?_)
  refine set_plain X₁ (ox := excO C t0) (od := none) ⟨hx₁, rfl, rfl, trivial⟩ T.sa ?_
  refine exc_osa X₁ hx₁ hcl (show refsVE (.ref C :: bm) = true from hbm) rfl T.noN (fun h₃ tk₃ dx k₃ dn dne hx₃ hn₃ => ?_)
  show wpAny _ _ (execs _ _) _ _ _
  have z : s.heap.objs.size < h₁.objs.size := hn.lt
  exact wpAny_execs_nil (hq h₃ tk₃ dx ⟨fun b o hb e => k₃ b o hb (k b o e), hx₃, Nat.le_of_lt (Nat.lt_of_lt_of_le z dn), dne, hn₃⟩)
theorem big_made (T : BigTxt K mg C fI) {v : Value} (X : K.In s.heap) (hlim : s.heap.NoLimit) (hroom : A.depth + 1 < recursionLimit)
    (hq : ∀ h' tk e d, OwnMade s.heap h' e C d v → R (.ok (.ret (.ref e))) { s with heap := h', toks := tk }) :
    codeAny (model prog w) A (.call (.ref C) ⟨[v], []⟩) R s := by
  obtain ⟨nm, q, N, bs, bm, sn, sub, ab, col, dd, k0, k1, k2, k3, k5, hC, hbm⟩ := T.cls
  obtain ⟨hp, g, dr, tk, os⟩ := s
  have k : ∀ b o, hp.get? b = some o → ((hp.push (kdv_tup [v])).push (excO C hp.objs.size)).get? b = some o := fun b o e => Heap.get?_push_of_some _ (Heap.get?_push_of_some _ e)
  have hget : ((hp.push (kdv_tup [v])).push (excO C hp.objs.size)).get? (hp.objs.size + 1) = some (excO C hp.objs.size) := by heap_get
  have hnx : K.lookup (hp.objs.size + 1) = none := by
    cases e : K.lookup (hp.objs.size + 1) with
    | none => rfl
    | some o =>
      have z : hp.get? (hp.objs.size + 1) = some o := X _ _ e
      exact absurd (Nat.lt_of_succ_lt (Heap.lt_size z)) (Nat.lt_irrefl _)
  refine call_own F.excBase_ValueError (fun X => refsVE_contains X bm hbm) (X _ _ hC) (looks_findIn X T.iC) (fun self => bind_fn X self T.tC) (one_size v) ?_
  refine big_init (s := ⟨(hp.push (kdv_tup [v])).push (excO C hp.objs.size), g, dr, tk, os⟩) T (X.keeps k) (hlim.keeps k) hget hnx ?_ fun h' tk' dx ⟨k', hx, dn, dne, hns⟩ => ?_
  · show A.depth + 1 < recursionLimit
    exact hroom
  · have old : ∀ b o, hp.get? b = some o → h'.get? b = some o := fun b o e => k' b o (Nat.ne_of_lt (Nat.lt_succ_of_lt (Heap.lt_size e))) (k b o e)
    have z : hp.objs.size + 1 + 1 ≤ dx := by
      first
        | (simpa only [Heap.size_push] using dn)
        | exact dn
        | (have q := dn; rw [Heap.size_push, Heap.size_push] at q; exact q)
    exact ⟨rfl, hq h' tk' (hp.objs.size + 1) dx ⟨old, Nat.le_succ _, ⟨_, _, hx, rfl, rfl, rfl, rfl⟩, Nat.le_trans (Nat.le_trans (Nat.le_succ _) (Nat.le_succ _)) z, dne, hns⟩⟩
end
end BigX
end PySem
namespace L2
open PySem PySem.Spec PyProof.Rows
theorem relO_big {v : V} {v' : Value} (r : RelV v v') (f : Str) : RelO (List.lookup f [(("limit" : Str), v)]) (if f = "limit" then some v' else none) := by
  by_cases hw : f = "limit"
  · subst hw
    rw [if_pos rfl]
    have q : List.lookup ("limit" : Str) [(("limit" : Str), v)] = some v := by simp [List.lookup]
    rw [q]
    exact r
  · rw [if_neg hw]
    have qw : (f == ("limit" : Str)) = false := by simpa using hw
    have q2 : List.lookup f [(("limit" : Str), v)] = none := by simp [List.lookup, qw]
    rw [q2]
    trivial
section
variable {X : Cx} {C fI : Addr}
/-- TooLarge(e) -/
def tMkBig (C : Addr) (ta : TA) : St → Hp → XK → Prop := fun σ H Q => ta σ H fun vs H1 => ∃ v, vs = [v] ∧ ∀ d, H1 d = none → Q (.ref C) (some d) (upd H1 d (.xd [(("limit" : Str), v)]))
theorem pmk_big {a : Expr} {ta : TA} {p pos : Pos} {k : Nat} (T : PySem.BigX.BigTxt X.K X.mg C fI) (hr : Room k X.A) (ha : PA X [a] ta) (hg : Gl X "TooLarge" := by rfl)
    (he : starEach (a :: []) X.env = (false, eval a X.env) :: starEach [] X.env := by rfl) (hpl : (backTo pos (starEach [] X.env)).any (·.1) = false := by rfl) :
    PMk X (.Call (.Name "TooLarge" p) [a] [] pos) (tMkBig C ta) := by
  intro pins s σ H Q I h
  refine wpAny_Call_Name_kw (ld_glob I hg T.gC ?_)
  refine PySem.W.callWith_K (h₀ := X.base) I.ok.mod.kin T.kC (thn (ha.run pos pins s σ H _ I h) fun us s1 hh => ?_) he hpl
  obtain ⟨vs, H1, I1, r1, v, ev, q1⟩ := hh
  subst ev
  refine ⟨I1.kIn, ?_⟩
  cases r1 with
  | cons rv rn =>
    rename_i v' us'
    cases rn
    show wpAny _ _ (call (.ref C) [v']) _ _ _
    have hlim := I1.nolimit
    obtain ⟨hp, g, dr, tk, os⟩ := s1
    refine wpAny_call (PySem.BigX.big_made T I1.kIn hlim (by have := hr.dp; omega) fun h' tk' e d M => ?_)
    show MkP X pins σ Q (.ref e) ⟨h', g, dr, tk', os⟩
    obtain ⟨oe, fv, hoe, hc, hd, hdat, h1⟩ := M.obj
    have hns := M.ns
    obtain ⟨G', g1, g2⟩ := restrict h' fun b => decide (b ≠ e)
    have gk : ∀ b, b ≠ e → G'.get? b = h'.get? b := fun b hb => g1 b (decide_eq_true hb)
    have ge : G'.get? e = none := g2 e (by simp)
    have old : ∀ b o, hp.get? b = some o → G'.get? b = some o := fun b o q => (gk b (Nat.ne_of_lt (Nat.lt_of_lt_of_le (Heap.lt_size q) M.new))).trans (M.keep b o q)
    have ob : ObjOk X.prog X.w (upd H1 d (.xd [(("limit" : Str), v)])) G' d (.xd [(("limit" : Str), v)]) :=
      ⟨_, hns.at (fun o q => (gk d M.dne).trans q), fun f => relO_big rv f⟩
    have J : Inv X pins σ (upd H1 d (.xd [(("limit" : Str), v)])) ⟨G', g, dr, tk', os⟩ := I1.laid (t' := tk') old M.dbig ob
    refine ⟨e, oe, fv, ⟨G', g, dr, tk', os⟩, _, .ref C, some d, rfl, J, fun b o q => ?_, ge, hoe, ⟨hc, hd⟩, hdat, h1, ?_, rfl, I1.bare, raises_own T.exC T.tyC, q1 d (I1.hok.fresh M.dbig)⟩
    · by_cases hb : b = e
      · have q' : G'.get? b = some o := q
        rw [hb, ge] at q'; cases q'
      · exact (gk b hb).symm.trans q
    · rw [upd_ne (Ne.symm M.dne)]
      exact I1.hok.fresh M.new
/-- raise TooLarge(e) -/
def tRaiseBig (C : Addr) (W : WX) (ta : TA) : TS := fun _ σ H => tMkBig C ta σ H fun cls d H' => W cls d σ H'
theorem ps_raiseBig {a : Expr} {ta : TA} {W : WX} {p pos pos2 : Pos} {k : Nat} (hc : X.calm = true) (T : PySem.BigX.BigTxt X.K X.mg C fI) (hr : Room k X.A) (tk : Takes X W) (ha : PA X [a] ta) (hg : Gl X "TooLarge" := by rfl)
    (he : starEach (a :: []) X.env = (false, eval a X.env) :: starEach [] X.env := by rfl) (hpl : (backTo pos (starEach [] X.env)).any (·.1) = false := by rfl) :
    PS X (.Raise (some (.Call (.Name "TooLarge" p) [a] [] pos)) none pos2) (tRaiseBig C W ta) := ps_raise hc tk (pmk_big T hr ha hg he hpl)
/-- big.limit, low the exception that the suite holds (at a; its class cls, its dict d) -/
def tLimBig (C : Addr) (a : Addr) (cls : Value) (d : Option Addr) (te : TE) : TE := fun σ H Q => te σ H fun x H1 => x = .ref a ∧ cls = .ref C ∧ ∃ (dd : Addr) (v : V), d = some dd ∧ H1 dd = some (.xd [(("limit" : Str), v)]) ∧ Q v H1
theorem pe_limBig {a : Addr} {oe : Obj} {cls : Value} {d : Option Addr} {pn : List (Addr × Obj)} {e : Expr} {te : TE} {pos : Pos} (T : PySem.BigX.BigTxt X.K X.mg C fI) (hz : Zc cls d oe) (hf : ∃ vs, oe.data = .fields vs) (he : PE (X.suite a ((a, oe) :: pn)) e te)
    (hb : attributeBase e "limit" X.env (eval e X.env) = eval e X.env := by rfl) :
    PE (X.suite a ((a, oe) :: pn)) (.Attribute e "limit" pos) (tLimBig C a cls d te) := by
  refine ⟨fun pins s σ H Q I h => ?_⟩
  refine attr_of hb (thn (he.run pins s σ H _ I h) fun u s1 hh => ?_)
  obtain ⟨x, H1, I1, rx, ex, ec, dd, v, ed, ea, q⟩ := hh
  subst ex
  obtain rfl : u = Value.ref a := rx
  subst ec
  subst ed
  obtain ⟨ha, _⟩ := I1.pin (a, oe) (List.mem_append_left _ List.mem_cons_self)
  obtain ⟨vs, hd⟩ := hf
  have hx : ObjOk X.prog X.w H1 s1.heap dd (.xd [(("limit" : Str), v)]) := I1.hok dd _ ea
  obtain ⟨mA, hns, hr⟩ := hx
  obtain ⟨od, ho, hl⟩ := lookIn_ns hns
  have l : List.lookup ("limit" : Str) [(("limit" : Str), v)] = some v := by simp [List.lookup]
  obtain ⟨u, hu, ru⟩ := RelO.some_of (v := v) (o := mA "limit") (by rw [← l]; exact hr "limit")
  have J : PySem.W.InstAt s1.heap a oe C (some od) := ⟨ha, hz.1, by unfold PySem.W.notCls; rw [hd] <;> rfl, by rw [hz.2]; exact ho⟩
  exact HandSPX.exc_get I1.kIn J T.ga T.gg T.exC (PySem.W.findObj_own T.hdC T.noN rfl (by rw [hl, hu])) (handed_of ru) ⟨v, H1, I1.tok _, ru, q⟩
end
end L2
/-! Webs turned and renumbered. -/
namespace Nw
open PySem PySem.Spec PyProof.Rows L2
section
variable {X : Cx}
theorem mt_indexK (K : PySem.W.Frag) (hK : X.K = K := by rfl) : MtR X "list.index" (rIndex K) := by
  subst hK
  exact mt_index
theorem bmK (K : PySem.W.Frag) {T : String} {r : V → List V → Hp → VK → Prop} {to : TE} {t : TA} {e : Expr} (h : PE X e (tBM X.K T r to t)) (hK : X.K = K := by rfl) : PE X e (tBM K T r to t) := by
  subst hK
  exact h
theorem pe_dgetK {k : Nat} {o i : Expr} {td ty : TE} {pos : Pos} (hr : Room k X.A) (ho : PE X o td) (hi : PE X i ty) (hs : NoSl i) : PE X (.Subscript o i pos) (tDGet td ty) :=
  pe_dget (by have := hr.un; omega) ho hi hs
end
/-- what a dict comprehension's reading asks -/
theorem dc_by {J : It} {g : TG} {tt : TT} {tk tv : TE} {vs : List Nat} {σ : L2.St} {D : Addr} {H1 : Hp} {Qd : Hp → Prop}
    (n : Nat) (Pv : Nat → Hp → Prop) (h0 : Pv 0 (upd H1 D (.dK [])))
    (hgo : ∀ i H, i < n → Pv i H → J.go i H) (hst : ∀ H, Pv n H → J.stop n H)
    (hs : ∀ i H x H', i < n → Pv i H → J.yld i H x H' → g x (wipe σ vs) H' fun σ2 H2 => wipe σ2 vs = wipe σ vs ∧ tt σ2 H2 fun b H3 =>
      if b = true then tk σ2 H3 fun y H4 => tv σ2 H4 fun z H5 => ∃ kvs k, y = kV k ∧ H5 D = some (.dK kvs) ∧ kvs.length < sizeLine ∧ Pv (i + 1) (upd H5 D (.dK (putK kvs k z))) else Pv (i + 1) H3)
    (hd : ∀ H, Pv n H → Qd H) :
    ∃ W : Nat → Nat → Hp → Prop, (∃ m, W 0 m (upd H1 D (.dK []))) ∧ ∀ i m H, W i m H →
      (J.stop i H ∧ Qd H) ∨ (J.go i H ∧ ∃ Nx : Hp → Prop, (∀ H', Nx H' → ∃ m', m' < m ∧ W (i + 1) m' H') ∧ ∀ x H', J.yld i H x H' → g x (wipe σ vs) H' fun σ2 H2 => wipe σ2 vs = wipe σ vs ∧ tt σ2 H2 fun b H3 =>
        if b = true then tk σ2 H3 fun y H4 => tv σ2 H4 fun z H5 => ∃ kvs k, y = kV k ∧ H5 D = some (.dK kvs) ∧ kvs.length < sizeLine ∧ Nx (upd H5 D (.dK (putK kvs k z))) else Nx H3) := by
  refine ⟨fun i m H => m = n - i ∧ i ≤ n ∧ Pv i H, ⟨n, by omega, Nat.zero_le _, h0⟩, ?_⟩
  rintro i m H ⟨rfl, hi, p⟩
  by_cases hlt : i < n
  · refine .inr ⟨hgo i H hlt p, Pv (i + 1), fun H' p' => ⟨n - (i + 1), by omega, rfl, hlt, p'⟩, ?_⟩
    intro x H' y
    exact hs i H x H' hlt p y
  · have e : i = n := by omega
    subst e
    exact .inl ⟨hst H p, hd H p⟩
/-! ### lists told by their members -/
theorem pw_ext {α : Type} {lt : α → α → Bool} (irr : ∀ x, lt x x = false) (asym : ∀ x y, lt x y = true → lt y x = false) :
    ∀ {a b : List α}, a.Pairwise (fun x y => lt x y = true) → b.Pairwise (fun x y => lt x y = true) → (∀ x, x ∈ a ↔ x ∈ b) → a = b
  | [], [], _, _, _ => rfl
  | [], y :: b, _, _, h => by
    have := (h y).mpr (by simp)
    cases this
  | x :: a, [], _, _, h => by
    have := (h x).mp (by simp)
    cases this
  | x :: a, y :: b, ha, hb, h => by
    obtain ⟨a1, a2⟩ := List.pairwise_cons.mp ha
    obtain ⟨b1, b2⟩ := List.pairwise_cons.mp hb
    have e : x = y := by
      rcases List.mem_cons.mp ((h x).mp (by simp)) with e | hx
      · exact e
      rcases List.mem_cons.mp ((h y).mpr (by simp)) with e | hy
      · exact e.symm
      have z1 := b1 x hx
      have z2 := a1 y hy
      rw [asym _ _ z1] at z2
      cases z2
    subst e
    have nx : ∀ {l : List α}, (∀ z ∈ l, lt x z = true) → x ∉ l := fun hl hx => by
      have := hl x hx
      rw [irr] at this
      cases this
    rw [pw_ext irr asym a2 b2 fun z => ?_]
    constructor
    · intro hz
      rcases List.mem_cons.mp ((h z).mp (List.mem_cons_of_mem _ hz)) with e | hz'
      · subst e
        exact absurd hz (nx a1)
      · exact hz'
    · intro hz
      rcases List.mem_cons.mp ((h z).mpr (List.mem_cons_of_mem _ hz)) with e | hz'
      · subst e
        exact absurd hz (nx b1)
      · exact hz'
theorem ltPr_no {p q : Int × Int} (h : ¬ (p.1 < q.1 ∨ (p.1 = q.1 ∧ p.2 < q.2))) : ltPr p q = false := by
  cases e : ltPr p q with
  | false => rfl
  | true => exact absurd (ltPr_iff.mp e) h
theorem pw_asc : ∀ {l : List (Int × Int)}, ascB ltPr l = true → l.Pairwise fun x y => ltPr x y = true
  | [], _ => List.Pairwise.nil
  | x :: l, h => by
    obtain ⟨h1, h2⟩ := asc_tail h
    exact List.Pairwise.cons h1 (pw_asc h2)
theorem asc_pw {α : Type} {lt : α → α → Bool} : ∀ {l : List α}, l.Pairwise (fun x y => lt x y = true) → ascB lt l = true
  | [], _ => rfl
  | [x], _ => rfl
  | x :: y :: l, h => by
    obtain ⟨h1, h2⟩ := List.pairwise_cons.mp h
    show (lt x y && ascB lt (y :: l)) = true
    rw [h1 y (by simp), asc_pw h2]
    rfl
theorem ascI_tail : ∀ {p : Int} {r : List Int}, ascB ltIn (p :: r) = true → (∀ q ∈ r, ltIn p q = true) ∧ ascB ltIn r = true
  | p, [], _ => ⟨fun q hq => (by cases hq), rfl⟩
  | p, q :: r, h => by
    simp only [ascB, Bool.and_eq_true] at h
    obtain ⟨h1, h2⟩ := ascI_tail (p := q) (r := r) h.2
    refine ⟨fun z hz => ?_, h.2⟩
    rcases List.mem_cons.mp hz with rfl | hz
    · exact h.1
    · have a := of_decide_eq_true h.1
      have b := of_decide_eq_true (h1 z hz)
      exact decide_eq_true (by omega)
theorem pwI_asc : ∀ {l : List Int}, ascB ltIn l = true → l.Pairwise fun x y => ltIn x y = true
  | [], _ => List.Pairwise.nil
  | x :: l, h => by
    obtain ⟨h1, h2⟩ := ascI_tail h
    exact List.Pairwise.cons h1 (pwI_asc h2)
theorem asc_ext {a b : List (Int × Int)} (ha : ascB ltPr a = true) (hb : ascB ltPr b = true) (h : ∀ x, x ∈ a ↔ x ∈ b) : a = b :=
  pw_ext (fun x => ltPr_no (by omega)) (fun x y e => ltPr_no (by have := ltPr_iff.mp e; omega)) (pw_asc ha) (pw_asc hb) h
theorem ltIn_no {p q : Int} (h : ¬ p < q) : ltIn p q = false := by
  unfold ltIn
  exact decide_eq_false h
theorem ltIn_yes {p q : Int} (h : ltIn p q = true) : p < q := by
  unfold ltIn at h
  exact of_decide_eq_true h
theorem ascI_ext {a b : List Int} (ha : ascB ltIn a = true) (hb : ascB ltIn b = true) (h : ∀ x, x ∈ a ↔ x ∈ b) : a = b :=
  pw_ext (fun x => ltIn_no (by omega)) (fun x y e => ltIn_no (by have := ltIn_yes e; omega)) (pwI_asc ha) (pwI_asc hb) h
theorem nodup_asc {l : List (Int × Int)} (h : ascB ltPr l = true) : l.Nodup :=
  (pw_asc h).imp fun {a b} e n => by
    subst n
    have := ltPr_iff.mp e
    omega
theorem nodup_ascI {l : List Int} (h : ascB ltIn l = true) : l.Nodup :=
  (pwI_asc h).imp fun {a b} e n => by
    subst n
    have := of_decide_eq_true e
    omega
/-- sorted ints that are apart -/
theorem asc_sortedI {l m : List Int} (hp : m.Perm l) (hs : m.Pairwise (· ≤ ·)) (hn : l.Nodup) : ascB ltIn m = true := by
  refine asc_pw ?_
  have hm : m.Nodup := hp.nodup_iff.mpr hn
  have := hs.and hm
  exact this.imp fun {a b} h => decide_eq_true (by have := h.1; have := h.2; omega)
/-- sorted pairs that are apart -/
theorem sortedP {K : PySem.W.Frag} {H : Hp} {L : List (Int × Int)} {xs ys : List V} (hA : DaAll K H (L.map dPair) xs) (hn : L.Nodup)
    (s1 : SrtO.Srtd (ltP (keyOf H)) ys) (s2 : SrtO.Stb (ltP (keyOf H)) ys xs) : ∃ M : List (Int × Int), DaAll K H (M.map dPair) ys ∧ ascB ltPr M = true ∧ (∀ p, p ∈ M ↔ p ∈ L) ∧ M.length = L.length := by
  obtain ⟨k1, k2⟩ := keys_of hA
  have hp : (ys.map (keyOf H)).Perm L := by
    rw [← k2]
    exact s2.perm.map _
  refine ⟨ys.map (keyOf H), ?_, ?_, fun p => hp.mem_iff, hp.length_eq⟩
  · have hy : ∀ x ∈ ys, ∃ t, x = V.ref t ∧ H t = some (.tup [.int (keyOf H x).1, .int (keyOf H x).2]) := fun x hx => k1 x (s2.perm.mem_iff.mp hx)
    clear s1 s2 hp
    induction ys with
    | nil => rfl
    | cons y ys ih =>
      obtain ⟨t, rfl, ht⟩ := hy y (by simp)
      exact ⟨_, _, rfl, dPair_of ht, ih fun x hx => hy x (List.mem_cons_of_mem _ hx)⟩
  · have hm : (ys.map (keyOf H)).Nodup := hp.nodup_iff.mpr hn
    have hs : (ys.map (keyOf H)).Pairwise fun x y => SrtO.lexB y x = false := List.pairwise_map.mpr s1
    refine asc_pw ((hs.and hm).imp fun {a b} h => ltPr_iff.mpr ?_)
    have h1 := SrtO.lexB_no.mp h.1
    have h2 : ¬ (a.1 = b.1 ∧ a.2 = b.2) := fun e => h.2 (Prod.ext e.1 e.2)
    omega
/-! ### orders -/
abbrev iota (n : Int) : List Int := (List.range n.toNat).map fun i : Nat => (i : Int)
abbrev IsOrd (n : Int) (o : List Int) : Prop := o.Perm (iota n)
theorem mem_iota {n x : Int} : x ∈ iota n ↔ 0 ≤ x ∧ x < n := by
  constructor
  · intro h
    obtain ⟨i, hi, rfl⟩ := List.mem_map.mp h
    have := List.mem_range.mp hi
    omega
  · rintro ⟨h1, h2⟩
    exact List.mem_map.mpr ⟨x.toNat, List.mem_range.mpr (by omega), by omega⟩
theorem asc_iota_aux : ∀ n : Nat, ((List.range n).map fun i : Nat => (i : Int)).Pairwise fun x y => ltIn x y = true := fun n =>
  List.pairwise_map.mpr (List.pairwise_lt_range.imp fun {a b} h => decide_eq_true (by omega))
theorem asc_iota (n : Int) : ascB ltIn (iota n) = true := asc_pw (asc_iota_aux _)
theorem nodup_iota (n : Int) : (iota n).Nodup := nodup_ascI (asc_iota n)
theorem IsOrd.mem {n : Int} {o : List Int} (h : IsOrd n o) {x : Int} : x ∈ o ↔ 0 ≤ x ∧ x < n := h.mem_iff.trans mem_iota
theorem IsOrd.len {n : Int} {o : List Int} (h : IsOrd n o) : o.length = n.toNat := by
  rw [h.length_eq, List.length_map, List.length_range]
theorem IsOrd.nd {n : Int} {o : List Int} (h : IsOrd n o) : o.Nodup := h.nodup_iff.mpr (nodup_iota n)
/-- the place of a quantity in an order -/
def pl (o : List Int) (q : Int) : Int := (o.idxOf q : Int)
theorem pl_at {o : List Int} (h : o.Nodup) {i : Nat} {q : Int} (e : o[i]? = some q) : pl o q = (i : Int) := by
  obtain ⟨hi, rfl⟩ := List.getElem?_eq_some_iff.mp e
  unfold pl
  rw [h.idxOf_getElem i hi]
theorem pl_get {n : Int} {o : List Int} (h : IsOrd n o) {q : Int} (hq : 0 ≤ q ∧ q < n) : ∃ j : Nat, o[j]? = some q ∧ pl o q = (j : Int) ∧ (j : Int) < n := by
  have hm := h.mem.mpr hq
  have hl := List.idxOf_lt_length_iff.mpr hm
  refine ⟨o.idxOf q, ?_, rfl, ?_⟩
  · rw [List.getElem?_eq_getElem hl, List.getElem_idxOf]
  · have := h.len
    omega
theorem pl_lt {n : Int} {o : List Int} (h : IsOrd n o) {q : Int} (hq : 0 ≤ q ∧ q < n) : 0 ≤ pl o q ∧ pl o q < n := by
  obtain ⟨j, _, e, l⟩ := pl_get h hq
  omega
theorem pl_inj {n : Int} {o : List Int} (h : IsOrd n o) {a b : Int} (ha : 0 ≤ a ∧ a < n) (hb : 0 ≤ b ∧ b < n) (e : pl o a = pl o b) : a = b := by
  obtain ⟨j, g1, e1, _⟩ := pl_get h ha
  obtain ⟨k, g2, e2, _⟩ := pl_get h hb
  have : j = k := by omega
  subst this
  rw [g1] at g2
  exact Option.some.inj g2
theorem iota_at {n : Int} {i : Nat} (h : (i : Int) < n) : (iota n)[i]? = some (i : Int) := by
  rw [List.getElem?_map, List.getElem?_range (by omega)]
  rfl
theorem list_ext_at {α : Type} {a b : List α} (hl : a.length = b.length) (h : ∀ (i : Nat) (x : α), b[i]? = some x → a[i]? = some x) : a = b := by
  refine List.ext_getElem? fun i => ?_
  cases e : b[i]? with
  | some x => exact h i x e
  | none =>
    have := List.getElem?_eq_none_iff.mp e
    exact List.getElem?_eq_none_iff.mpr (by omega)
theorem IsOrd.back {n : Int} {o : List Int} (h : IsOrd n o) : IsOrd n ((iota n).map (pl o)) := by
  have e : o.map (pl o) = iota n := by
    refine list_ext_at (by rw [List.length_map, h.len, List.length_map, List.length_range]) fun i x hx => ?_
    have hi : (i : Int) < n := by
      obtain ⟨hi, _⟩ := List.getElem?_eq_some_iff.mp hx
      rw [List.length_map, List.length_range] at hi
      omega
    rw [iota_at hi] at hx
    obtain rfl := (Option.some.inj hx)
    have hl : i < o.length := by rw [h.len]; omega
    have := List.getElem?_eq_getElem hl
    rw [List.getElem?_map, this, Option.map_some, pl_at h.nd this]
  have p := h.map (pl o)
  rw [e] at p
  exact p.symm
theorem pl_back {n : Int} {o : List Int} (h : IsOrd n o) {q : Int} (hq : 0 ≤ q ∧ q < n) : pl ((iota n).map (pl o)) (pl o q) = q := by
  have e : ((iota n).map (pl o))[q.toNat]? = some (pl o q) := by
    rw [List.getElem?_map, iota_at (by omega), Option.map_some, Int.toNat_of_nonneg hq.1]
  rw [pl_at h.back.nd e, Int.toNat_of_nonneg hq.1]
theorem IsOrd.both {n : Int} {o s : List Int} (h : IsOrd n o) (g : IsOrd n s) : IsOrd n (s.map fun x => o.getD x.toNat 0) := by
  have e : (iota n).map (fun x => o.getD x.toNat 0) = o := by
    refine list_ext_at (by rw [List.length_map, h.len, List.length_map, List.length_range]) fun i x hx => ?_
    have hi : (i : Int) < n := by
      obtain ⟨hi, _⟩ := List.getElem?_eq_some_iff.mp hx
      rw [h.len] at hi
      omega
    rw [List.getElem?_map, iota_at hi, Option.map_some, Int.toNat_natCast, List.getD_eq_getElem?_getD, hx]
    rfl
  have p := g.map fun x => o.getD x.toNat 0
  rw [e] at p
  exact p.trans h
theorem pl_both {n : Int} {o s : List Int} (h : IsOrd n o) (g : IsOrd n s) {q : Int} (hq : 0 ≤ q ∧ q < n) : pl (s.map fun x => o.getD x.toNat 0) q = pl s (pl o q) := by
  obtain ⟨j, g1, e1, l1⟩ := pl_get h hq
  obtain ⟨k, g2, e2, l2⟩ := pl_get g (q := pl o q) (by omega)
  rw [e2]
  refine pl_at (h.both g).nd ?_
  rw [List.getElem?_map, g2, Option.map_some, e1, Int.toNat_natCast, List.getD_eq_getElem?_getD, g1]
  rfl
/-! ### webs renumbered -/
abbrev RowRen (f : Int → Int) (r s : List Int) : Prop := ∀ t, t ∈ s ↔ ∃ q ∈ r, t = f q
structure Ren (f : Int → Int) (u w : Wb) : Prop where
  n : w.n = u.n
  ps : ∀ p, p ∈ w.ps ↔ ∃ q ∈ u.ps, p = (f q.1, f q.2)
  len : w.ns.length = u.ns.length
  ns : ∀ (k : Nat) (r s : List Int), u.ns[k]? = some r → w.ns[k]? = some s → RowRen f r s
theorem Ren.uniq {f : Int → Int} {u w v : Wb} (h : Ren f u w) (g : Ren f u v) (hw : w.Ok) (hv : v.Ok) : w = v := by
  have e1 : w.n = v.n := h.n.trans g.n.symm
  have e2 : w.ps = v.ps := asc_ext hw.asc hv.asc fun x => (h.ps x).trans (g.ps x).symm
  have e3 : w.ns = v.ns := by
    refine list_ext_at (h.len.trans g.len.symm) fun i x hx => ?_
    have hi : i < u.ns.length := by
      obtain ⟨hi, _⟩ := List.getElem?_eq_some_iff.mp hx
      have := g.len
      omega
    have hy := List.getElem?_eq_getElem (l := w.ns) (i := i) (by have := h.len; omega)
    have hr := List.getElem?_eq_getElem hi
    rw [hy]
    refine congrArg some (ascI_ext (hw.ns _ (List.mem_of_getElem? hy)).2.2 (hv.ns _ (List.mem_of_getElem? hx)).2.2 fun t => ?_)
    exact (h.ns i _ _ hr hy t).trans (g.ns i _ _ hr hx t).symm
  obtain ⟨a, b, c⟩ := w
  obtain ⟨d, e, f⟩ := v
  simp only at e1 e2 e3
  rw [e1, e2, e3]
theorem Ren.comp {f g h : Int → Int} {u v w : Wb} (a : Ren f u v) (b : Ren g v w) (hu : u.Ok) (e : ∀ q, 0 ≤ q ∧ q < u.n → h q = g (f q)) : Ren h u w := by
  refine ⟨b.n.trans a.n, fun p => ?_, b.len.trans a.len, fun k r s hr hs t => ?_⟩
  · rw [b.ps]
    constructor
    · rintro ⟨q, hq, rfl⟩
      obtain ⟨z, hz, rfl⟩ := (a.ps q).mp hq
      have := hu.ps z hz
      exact ⟨z, hz, by rw [e _ this.1, e _ this.2]⟩
    · rintro ⟨z, hz, rfl⟩
      have := hu.ps z hz
      exact ⟨(f z.1, f z.2), (a.ps _).mpr ⟨z, hz, rfl⟩, by rw [e _ this.1, e _ this.2]⟩
  · have hk : k < v.ns.length := by
      obtain ⟨hi, _⟩ := List.getElem?_eq_some_iff.mp hs
      have := b.len
      omega
    have hm := List.getElem?_eq_getElem hk
    rw [b.ns k _ s hm hs]
    constructor
    · rintro ⟨q, hq, rfl⟩
      obtain ⟨z, hz, rfl⟩ := (a.ns k r _ hr hm q).mp hq
      exact ⟨z, hz, by rw [e _ ((hu.ns r (List.mem_of_getElem? hr)).2.1 z hz)]⟩
    · rintro ⟨z, hz, rfl⟩
      exact ⟨f z, (a.ns k r _ hr hm _).mpr ⟨z, hz, rfl⟩, by rw [e _ ((hu.ns r (List.mem_of_getElem? hr)).2.1 z hz)]⟩
theorem Ren.refl {h : Int → Int} {u : Wb} (hu : u.Ok) (e : ∀ q, 0 ≤ q ∧ q < u.n → h q = q) : Ren h u u := by
  refine ⟨rfl, fun p => ?_, rfl, fun k r s hr hs t => ?_⟩
  · constructor
    · intro hp
      have := hu.ps p hp
      exact ⟨p, hp, by rw [e _ this.1, e _ this.2]⟩
    · rintro ⟨z, hz, rfl⟩
      have := hu.ps z hz
      rw [e _ this.1, e _ this.2]
      exact hz
  · rw [hr] at hs
    cases hs
    have b := (hu.ns r (List.mem_of_getElem? hr)).2.1
    constructor
    · intro ht
      exact ⟨t, ht, by rw [e _ (b t ht)]⟩
    · rintro ⟨z, hz, rfl⟩
      rw [e _ (b z hz)]
      exact hz
theorem Ren.ok {n : Int} {o : List Int} {u w : Wb} (h : Ren (pl o) u w) (hu : u.Ok) (ho : IsOrd u.n o) (ha : ascB ltPr w.ps = true) (hr : ∀ r ∈ w.ns, ascB ltIn r = true) : w.Ok := by
  refine ⟨by rw [h.n]; exact hu.lo, by rw [h.n]; exact hu.hi, fun p hp => ?_, ha, by rw [h.len]; exact hu.few, fun r hr' => ?_⟩
  · obtain ⟨q, hq, rfl⟩ := (h.ps p).mp hp
    have := hu.ps q hq
    rw [h.n]
    exact ⟨pl_lt ho this.1, pl_lt ho this.2⟩
  · obtain ⟨k, hk⟩ := List.mem_iff_getElem?.mp hr'
    have hk2 : k < u.ns.length := by
      obtain ⟨hi, _⟩ := List.getElem?_eq_some_iff.mp hk
      have := h.len
      omega
    have hm := List.getElem?_eq_getElem hk2
    have hR := h.ns k _ r hm hk
    obtain ⟨z1, z2, z3⟩ := hu.ns _ (List.mem_of_getElem? hm)
    refine ⟨?_, fun t ht => ?_, hr r hr'⟩
    · intro e
      subst e
      cases hc : u.ns[k] with
      | nil => exact z1 hc
      | cons x l =>
        have := (hR (pl o x)).mpr ⟨x, by rw [hc]; simp, rfl⟩
        cases this
    · obtain ⟨q, hq, rfl⟩ := (hR t).mp ht
      rw [h.n]
      exact pl_lt ho (z2 q hq)
structure Trn (u w : Wb) : Prop where
  n : w.n = u.n
  ps : ∀ p, p ∈ w.ps ↔ (p.2, p.1) ∈ u.ps
  ns : w.ns = u.ns
theorem Trn.uniq {u w v : Wb} (h : Trn u w) (g : Trn u v) (hw : ascB ltPr w.ps = true) (hv : ascB ltPr v.ps = true) : w = v := by
  have e1 : w.n = v.n := h.n.trans g.n.symm
  have e2 : w.ps = v.ps := asc_ext hw hv fun x => (h.ps x).trans (g.ps x).symm
  have e3 : w.ns = v.ns := h.ns.trans g.ns.symm
  obtain ⟨a, b, c⟩ := w
  obtain ⟨d, e, f⟩ := v
  simp only at e1 e2 e3
  rw [e1, e2, e3]
theorem Trn.back {u w v : Wb} (h : Trn u w) (g : Trn w v) (hu : ascB ltPr u.ps = true) (hv : ascB ltPr v.ps = true) : v = u := by
  have e1 : v.n = u.n := g.n.trans h.n
  have e2 : v.ps = u.ps := asc_ext hv hu fun x => (g.ps x).trans (h.ps _)
  have e3 : v.ns = u.ns := g.ns.trans h.ns
  obtain ⟨a, b, c⟩ := v
  obtain ⟨d, e, f⟩ := u
  simp only at e1 e2 e3
  rw [e1, e2, e3]
theorem Trn.ok {u w : Wb} (h : Trn u w) (hu : u.Ok) (ha : ascB ltPr w.ps = true) : w.Ok := by
  refine ⟨by rw [h.n]; exact hu.lo, by rw [h.n]; exact hu.hi, fun p hp => ?_, ha, by rw [h.ns]; exact hu.few, ?_⟩
  · have := hu.ps _ ((h.ps p).mp hp)
    rw [h.n]
    exact ⟨this.2, this.1⟩
  · rw [h.ns, h.n]
    exact hu.ns
/-! ### whole webs shown -/
theorem sm_rows : ∀ {rs : List (List Int)}, (∀ r ∈ rs, (∀ t ∈ r, Sm t) ∧ r.length ≤ 20) → PyData.leavesShortAll 8 (rs.map dInts) = true ∧ PyData.showableAll (rs.map dInts) = true ∧ PyData.weightAll (rs.map dInts) ≤ 200 * rs.length
  | [], _ => by simp [PyData.leavesShortAll, PyData.showableAll, PyData.weightAll]
  | a :: r, h => by
    obtain ⟨h1, h2, h3⟩ := sm_rows (rs := r) fun t ht => h t (List.mem_cons_of_mem _ ht)
    obtain ⟨s1, s2⟩ := h a (by simp)
    obtain ⟨g1, g2, g3⟩ := sm_ints s1
    refine ⟨?_, ?_, ?_⟩
    · simp only [List.map_cons, dInts, PyData.leavesShortAll, PyData.leavesShort, g1, Bool.true_and]
      exact h1
    · simp only [List.map_cons, dInts, PyData.showableAll, PyData.showable, g2, Bool.true_and]
      exact h2
    · have e : PyData.weight (dInts a) = PyData.weightAll (a.map PyData.int) := by
        simp only [dInts, PyData.weight]
      simp only [List.map_cons, PyData.weightAll, List.length_cons]
      omega
theorem show_web {u : Wb} (hu : u.Ok) : u.d.showable = true ∧ u.d.shown.length ≤ sizeLine ∧ u.d.depth ≤ 60 := by
  have b1 := hu.lo
  have b2 := hu.hi
  have b3 := hu.few
  have b4 := hu.len
  obtain ⟨p1, p2, p3⟩ := sm_pairs (r := u.ps) fun t ht => by
    have := hu.ps t ht
    exact ⟨⟨this.1.1, by omega⟩, ⟨this.2.1, by omega⟩⟩
  obtain ⟨r1, r2, r3⟩ := sm_rows (rs := u.ns) fun r hr => ⟨fun t ht => by
    have := (hu.ns r hr).2.1 t ht
    exact ⟨this.1, by omega⟩, hu.row hr⟩
  obtain ⟨g1, g2, g3⟩ := short_int (i := u.n) (by omega) (by omega)
  refine ⟨?_, ?_, ?_⟩
  · simp only [Wb.d, dPairs, dRows, PyData.showable, PyData.showableAll, p2, r2, Bool.and_true, decide_eq_true_eq]
    exact g2
  · refine PyData.shown_fits (B := 8) (by omega) (by omega) ?_ ?_
    · simp only [Wb.d, dPairs, dRows, PyData.leavesShort, PyData.leavesShortAll, p1, r1, Bool.and_true, decide_eq_true_eq]
      exact g1
    · have e : u.d.weight = PyData.weight (.int u.n) + 1 + (PyData.weightAll (u.ps.map dPair) + 1 + (PyData.weightAll (u.ns.map dInts) + 1 + 0)) := by
        simp only [Wb.d, dPairs, dRows, PyData.weight, PyData.weightAll]
      omega
  · have := dep_web u
    omega
/-! ### new webs -/
/-- new rows -/
structure NewR (H H' : Hp) (ns : List (List Int)) (L : Addr) (bs : List Addr) : Prop where
  ex : Ex H H'
  new : H L = none
  at_ : H' L = some (.lst (bs.map V.ref))
  len : bs.length = ns.length
  row : ∀ (k : Nat) (b : Addr), bs[k]? = some b → (H b = none ∧ b ≠ L) ∧ ∃ r, ns[k]? = some r ∧ H' b = some (.lst (r.map V.int))
  nd : bs.Nodup
theorem rows_of {K : PySem.W.Frag} {H' : Hp} : ∀ {ns : List (List Int)} {bs : List Addr}, bs.length = ns.length → (∀ (k : Nat) (b : Addr), bs[k]? = some b → ∃ r, ns[k]? = some r ∧ H' b = some (.lst (r.map V.int)) ∧ r.length ≤ 100000) →
    DaAll K H' (ns.map dInts) (bs.map V.ref)
  | [], [], _, _ => rfl
  | [], _ :: _, h, _ => by simp at h
  | _ :: _, [], h, _ => by simp at h
  | r :: ns, b :: bs, h, g => by
    obtain ⟨r', e, h1, h2⟩ := g 0 b rfl
    obtain rfl : r = r' := by simpa using e
    exact ⟨_, _, rfl, dInts_of h1 h2, rows_of (by simpa using h) fun k b' hb => g (k + 1) b' (by simpa using hb)⟩
/-- a new web -/
structure NewW (K : PySem.W.Frag) (H H' : Hp) (w : Wb) (T L1 L2 : Addr) (xs : List V) (bs : List Addr) : Prop where
  ex : Ex H H'
  tup : H' T = some (.tup [.int w.n, .ref L1, .ref L2])
  new : H L1 = none
  at_ : H' L1 = some (.lst xs)
  ps : DaAll K H' (w.ps.map dPair) xs
  new2 : H L2 = none
  at2 : H' L2 = some (.lst (bs.map V.ref))
  len : bs.length = w.ns.length
  row : ∀ (k : Nat) (b : Addr), bs[k]? = some b → (H b = none ∧ b ≠ L2 ∧ b ≠ L1) ∧ ∃ r, w.ns[k]? = some r ∧ H' b = some (.lst (r.map V.int))
  nd : bs.Nodup
  ne : L1 ≠ L2
theorem pairs_rm {K : PySem.W.Frag} {H : Hp} {D : Addr} {ys : List V} (hD : H D = some (.lst ys)) : ∀ {L : List (Int × Int)} {acc : List V}, DaAll K H (L.map dPair) acc → DaAll K (rm H D) (L.map dPair) acc
  | [], _, h => h
  | p :: L, acc, h => by
    obtain ⟨x, xs, rfl, ⟨a, zs, rfl, hS, z1, r1, rfl, e1, z2, r2, rfl, e2, rfl⟩, h2⟩ := h
    obtain rfl := e1
    obtain rfl := e2
    refine ⟨_, _, rfl, dPair_of ?_, pairs_rm hD h2⟩
    rw [rm_ne (fun e => by rw [e, hD] at hS; cases hS)]
    exact hS
theorem NewW.da {K : PySem.W.Frag} {H H' : Hp} {w : Wb} {T L1 L2 : Addr} {xs : List V} {bs : List Addr} (h : NewW K H H' w T L1 L2 xs bs) (hw : w.Ok) : Da K H' w.d (.ref T) := by
  have l1 := hw.len
  have l2 := hw.few
  refine ⟨T, _, rfl, h.tup, _, _, rfl, rfl, _, _, rfl, ⟨L1, xs, rfl, h.at_, h.ps, by rw [List.length_map]; omega⟩, _, _, rfl, ⟨L2, _, rfl, h.at2, ?_, by rw [List.length_map]; omega⟩, rfl⟩
  refine rows_of h.len fun k b hb => ?_
  obtain ⟨_, r, e, g⟩ := h.row k b hb
  have := hw.row (List.mem_of_getElem? e)
  exact ⟨r, e, g, by omega⟩
/-- a new web has nothing to do with an old list -/
theorem NewW.off {K : PySem.W.Frag} {H H' : Hp} {w : Wb} {T L1 L2 p : Addr} {xs zs : List V} {bs : List Addr} (h : NewW K H H' w T L1 L2 xs bs) (hw : w.Ok) (hp : H p = some (.lst zs)) : Da K (rm H' p) w.d (.ref T) := by
  have hp' := h.ex _ _ hp
  have l1 := hw.len
  have l2 := hw.few
  refine ⟨T, _, rfl, ?_, _, _, rfl, rfl, _, _, rfl, ⟨L1, xs, rfl, ?_, pairs_rm hp' h.ps, by rw [List.length_map]; omega⟩, _, _, rfl, ⟨L2, bs.map V.ref, rfl, ?_, ?_, by rw [List.length_map]; omega⟩, rfl⟩
  · rw [rm_ne (fun e => by have := h.tup; rw [e, hp'] at this; cases this)]
    exact h.tup
  · rw [rm_ne (fun e => by have := h.new; rw [e, hp] at this; cases this)]
    exact h.at_
  · rw [rm_ne (fun e => by have := h.new2; rw [e, hp] at this; cases this)]
    exact h.at2
  · refine rows_of h.len fun k b hb => ?_
    obtain ⟨n, r, e, g⟩ := h.row k b hb
    have := hw.row (List.mem_of_getElem? e)
    refine ⟨r, e, ?_, by omega⟩
    rw [rm_ne (fun e => by have := n.1; rw [e, hp] at this; cases this)]
    exact g
theorem NewR.nil {H : Hp} {D : Addr} (hD : H D = none) : NewR H (upd H D (.lst [])) [] D [] :=
  ⟨Ex.nw hD, hD, upd_same, rfl, fun k b hb => by simp at hb, List.nodup_nil⟩
theorem NewR.snoc {H H1 H2 : Hp} {D l : Addr} {ss : List (List Int)} {s : List Int} {bs : List Addr} (h : NewR H H1 ss D bs) (e : Ex H1 H2) (hl : H1 l = none) (h2 : H2 l = some (.lst (s.map V.int))) :
    NewR H (upd H2 D (.lst (bs.map V.ref ++ [.ref l]))) (ss ++ [s]) D (bs ++ [l]) := by
  have lD : l ≠ D := fun x => by
    have := h.at_
    rw [← x, hl] at this
    cases this
  refine ⟨(h.ex.tr e).wr h.new, h.new, ?_, ?_, ?_, ?_⟩
  · rw [upd_same, List.map_append]
    rfl
  · rw [List.length_append, List.length_append, h.len]
    rfl
  · intro k b hb
    by_cases hk : k < bs.length
    · rw [List.getElem?_append_left hk] at hb
      obtain ⟨n1, r', n2, n3⟩ := h.row k b hb
      refine ⟨n1, r', ?_, ?_⟩
      · rw [List.getElem?_append_left (by rw [← h.len]; exact hk)]
        exact n2
      · rw [upd_ne n1.2]
        exact e _ _ n3
    · have hk' : k = bs.length := by
        obtain ⟨z, _⟩ := List.getElem?_eq_some_iff.mp hb
        rw [List.length_append, List.length_singleton] at z
        omega
      subst hk'
      rw [List.getElem?_concat_length] at hb
      cases hb
      refine ⟨⟨h.ex.fr hl, lD⟩, s, ?_, by rw [upd_ne lD]; exact h2⟩
      rw [h.len, List.getElem?_concat_length]
  · refine nodup_snoc h.nd fun hm => ?_
    obtain ⟨k, hk⟩ := List.mem_iff_getElem?.mp hm
    obtain ⟨_, r', _, h3⟩ := h.row k l hk
    rw [h3] at hl
    cases hl
theorem putK_len (kvs : List (Key × V)) (k : Key) (v : V) : (putK kvs k v).length ≤ kvs.length + 1 := by
  unfold putK
  split
  · rw [List.length_map]
    omega
  · rw [List.length_append, List.length_singleton]
    omega
/-- a dict of the places, as far as it is made -/
def PlTo (o : List Int) (i : Nat) (kvs : List (Key × V)) : Prop := kvs.length ≤ i ∧ ∀ (j : Nat) (q : Int), j < i → o[j]? = some q → valV kvs (.inl q) = some (.int (j : Int))
theorem PlTo.step {o : List Int} (hn : o.Nodup) {i : Nat} {kvs : List (Key × V)} (h : PlTo o i kvs) {q : Int} (hq : o[i]? = some q) : PlTo o (i + 1) (putK kvs (.inl q) (.int (i : Int))) := by
  refine ⟨Nat.le_trans (putK_len _ _ _) (by have := h.1; omega), fun j z hj hz => ?_⟩
  rw [valV_put]
  by_cases e : j = i
  · subst e
    rw [hq] at hz
    cases hz
    rw [if_pos rfl]
  · have ne : z ≠ q := nodup_at hn hz hq e
    rw [if_neg (fun x => ne (Sum.inl.inj x))]
    exact h.2 j z (by omega) hz
theorem PlTo.get {n : Int} {o : List Int} (ho : IsOrd n o) {kvs : List (Key × V)} (h : PlTo o o.length kvs) {q : Int} (hq : 0 ≤ q ∧ q < n) : valV kvs (.inl q) = some (.int (pl o q)) := by
  obtain ⟨j, g, e, l⟩ := pl_get ho hq
  rw [e]
  refine h.2 j q ?_ g
  obtain ⟨z, _⟩ := List.getElem?_eq_some_iff.mp g
  exact z
/-- the pairs of a web by the places -/
theorem ren_nodup {o : List Int} {u : Wb} (hu : u.Ok) (ho : IsOrd u.n o) : (u.ps.map fun q => (pl o q.1, pl o q.2)).Nodup := by
  refine (List.pairwise_map).mpr ?_
  have h := nodup_asc hu.asc
  have h2 : u.ps.Pairwise fun a b => a ∈ u.ps ∧ b ∈ u.ps ∧ a ≠ b := by
    refine List.Pairwise.imp_of_mem (fun {a b} ha hb n => ⟨ha, hb, n⟩) h
  refine h2.imp fun {a b} n e => n.2.2 ?_
  have ha := hu.ps a n.1
  have hb := hu.ps b n.2.1
  simp only [Prod.mk.injEq] at e
  exact Prod.ext (pl_inj ho ha.1 hb.1 e.1) (pl_inj ho ha.2 hb.2 e.2)
theorem row_nodup {n : Int} {o : List Int} {r : List Int} (hr : ∀ t ∈ r, 0 ≤ t ∧ t < n) (ha : ascB ltIn r = true) (ho : IsOrd n o) : (r.map (pl o)).Nodup := by
  refine (List.pairwise_map).mpr ?_
  have h2 : r.Pairwise fun a b => a ∈ r ∧ b ∈ r ∧ a ≠ b := List.Pairwise.imp_of_mem (fun {a b} ha hb n => ⟨ha, hb, n⟩) (nodup_ascI ha)
  exact h2.imp fun {a b} n e => n.2.2 (pl_inj ho (hr a n.1) (hr b n.2.1) e)
theorem row_ren {n : Int} {o : List Int} {r s : List Int} (hr : ∀ t ∈ r, 0 ≤ t ∧ t < n) (ha : ascB ltIn r = true) (ho : IsOrd n o) (hp : s.Perm (r.map (pl o))) (hw : s.Pairwise (· ≤ ·)) : ascB ltIn s = true ∧ RowRen (pl o) r s ∧ s.length = r.length := by
  refine ⟨asc_sortedI hp hw (row_nodup hr ha ho), fun t => hp.mem_iff.trans ?_, by rw [hp.length_eq, List.length_map]⟩
  rw [List.mem_map]
  constructor
  · rintro ⟨q, hq, rfl⟩
    exact ⟨q, hq, rfl⟩
  · rintro ⟨q, hq, rfl⟩
    exact ⟨q, hq, rfl⟩
theorem ren_of {o : List Int} {u : Wb} {M : List (Int × Int)} {ss : List (List Int)} (hM : ∀ p, p ∈ M ↔ p ∈ u.ps.map fun q => (pl o q.1, pl o q.2)) (hl : ss.length = u.ns.length)
    (hs : ∀ (k : Nat) (s : List Int), ss[k]? = some s → ∃ r, u.ns[k]? = some r ∧ RowRen (pl o) r s) : Ren (pl o) u ⟨u.n, M, ss⟩ := by
  refine ⟨rfl, fun p => ?_, hl, fun k r s hr hs' => ?_⟩
  · show p ∈ M ↔ _
    rw [hM, List.mem_map]
    constructor
    · rintro ⟨q, hq, rfl⟩
      exact ⟨q, hq, rfl⟩
    · rintro ⟨q, hq, rfl⟩
      exact ⟨q, hq, rfl⟩
  · obtain ⟨r', e, g⟩ := hs k s hs'
    rw [hr] at e
    cases e
    exact g
theorem pop_perm {α : Type} : ∀ {l : List α} {k : Nat} {x : α}, l[k]? = some x → (x :: l.eraseIdx k).Perm l
  | [], _, _, h => by simp at h
  | a :: l, 0, x, h => by
    obtain rfl : a = x := by simpa using h
    exact List.Perm.refl _
  | a :: l, k + 1, x, h => by
    have ih := pop_perm (l := l) (k := k) (x := x) (by simpa using h)
    rw [List.eraseIdx_cons_succ]
    exact (List.Perm.swap a x _).trans (ih.cons a)
theorem map_pop {α β : Type} (f : α → β) : ∀ (l : List α) (k : Nat), (l.map f).eraseIdx k = (l.eraseIdx k).map f
  | [], _ => rfl
  | a :: l, 0 => rfl
  | a :: l, k + 1 => by
    rw [List.map_cons, List.eraseIdx_cons_succ, List.eraseIdx_cons_succ, List.map_cons, map_pop f l k]
end Nw
/-! Calls that may raise; webs joined. -/
namespace Nw
open PySem PySem.Spec PyProof.Rows L2
/-- the class that TooLarge names -/
abbrev BigC (K : PySem.W.Frag) (C : Addr) : Prop := PySem.W.nsIn K mainGlobals "TooLarge" = some (some (.ref C))
section
variable {X : Cx} {CX : CXT} {k : Nat} {ps : List Str} {sp : Sp} {E : L2.St → XK} {x : Str} {p pos : Pos} {e : Expr} {es : List Expr} {t : TA}
theorem run_fngS {f : Addr} {fd : FuncData} {pins : List (Addr × Obj)} {σ : L2.St} {H : Hp} {s : Shared} {Q : VK} {us : List Value} {vs : List V}
    (F : FnG X.prog X.w X.K X.mg X.base CX k f fd ps sp) (hr : Room k X.A) (hgd : Quiet X.A) (hb : Binds X.K fd ps [])
    (hx : PassesAt CX X σ (E σ)) (I : Inv X pins σ H s) (r : Vals vs us) (h : sp vs H Q (E σ)) :
    wpAny (model X.prog X.w) X.A (call (.ref f) us) (EP X pins σ Q) X.xe s := by
  have hl : (us ++ ([] : List Value)).length = ps.length := by
    rw [List.append_nil, ← r.length]
    exact F.len _ _ _ _ h
  have hb2 := hb s us I.kIn hl
  rw [List.append_nil] at hb2
  refine wpAny_call (codeAny_mono (F.run X.A X.stack s H ⟨us, []⟩ us vs Q (E σ) hr hgd I.env0 hb2 r h) ?_)
  intro r s' hq
  cases r with
  | error e => exact hx pins H s e s' I hq
  | ok fl =>
    cases fl with
    | ret u => exact I.after hq
    | next => exact (show False from hq).elim
    | brk => exact (show False from hq).elim
    | cont => exact (show False from hq).elim
/-- what never raises -/
theorem passN : Passes (L2.CX X.prog X.w) X (fun _ _ _ => False) := fun pins σ H s e s' I c => takes0 e s' (XE.of_call (W := fun _ _ _ _ => False) I (fun _ _ _ h => h) c)
/-- f(e, ..) in a try -/
theorem pe_callDS (D : DefOk X.prog X.w X.K X.mg X.base CX k x ps sp) (hr : Room k X.A) (hgd : Quiet X.A) (hx : ∀ σ, PassesAt CX X σ (E σ))
    (ha : PA X (e :: es) t) (hg : Gl X x := by rfl) (hdb : (x == ("__debug__" : Str)) = false := by decide)
    (he : starEach (e :: es) X.env = (false, eval e X.env) :: starEach es X.env := by rfl)
    (hpl : (backTo pos (starEach es X.env)).any (·.1) = false := by rfl) :
    PE X (.Call (.Name x p) (e :: es) [] pos) (tCallS sp E t) := by
  obtain ⟨f, fd, F, hm, hk, hb⟩ := D.ex
  refine ⟨fun pins s σ H Q I h => ?_⟩
  refine wpAny_Call_Name_kw (ld_glob I hg hm ?_ hdb)
  refine PySem.W.callWith_K (h₀ := X.base) I.ok.mod.kin hk (thn (ha.run pos pins s σ H _ I h) ?_) he hpl
  rintro us s1 ⟨vs, H1, I1, r, q⟩
  exact ⟨I1.kIn, run_fngS F hr hgd hb (hx σ) I1 r q⟩
end
/-- an error of the class at S is what «except S» names -/
theorem exm_of {K : PySem.W.Frag} {S : Addr} (h1 : PySem.W.subIn K (.ref S) (.type "BaseException") = some true) (h2 : PySem.W.isClsIn K S = true) (h3 : PySem.W.typeIn K (.ref S) = some (.type "type")) (h4 : PySem.W.subIn K (.ref S) (.ref S) = some true) :
    PySem.W.exmOne K (.ref S) (.ref S) = some true := by
  have e1 : (PySem.W.subIn K (.ref S) (.type "BaseException") == some true) = true := by rw [h1] <;> rfl
  have e2 : ((PySem.W.clsIn K S).isSome && PySem.W.typeIn K (.ref S) == some (.type "type")) = true := by
    have h2' : (PySem.W.clsIn K S).isSome = true := h2
    rw [h2', h3] <;> rfl
  show (if (PySem.W.subIn K (.ref S) (.type "BaseException") == some true) = true then (if ((PySem.W.clsIn K S).isSome && PySem.W.typeIn K (.ref S) == some (.type "type")) = true then PySem.W.subIn K (.ref S) (.ref S) else none) else none) = some true
  rw [if_pos e1, if_pos e2]
  exact h4
theorem rangeD_map {α β : Type} (g : α → β) (d : α) (r : List α) : (List.range r.length).map (fun j => g (r.getD j d)) = (r.map g) := by
  have h := filter_range d (fun _ => true) g r
  rw [filter_true, filter_true] at h
  exact h
/-! ### webs joined -/
structure LnOk (u v : Wb) (L : List (Int × Int)) : Prop where
  r : ∀ p ∈ L, (0 ≤ p.1 ∧ p.1 < u.n) ∧ (0 ≤ p.2 ∧ p.2 < v.n)
  asc : ascB ltPr L = true
  few : L.length ≤ 400
abbrev upRow (n : Int) (r : List Int) : List Int := r.map (· + n)
structure Jn (u v : Wb) (L : List (Int × Int)) (w : Wb) : Prop where
  n : w.n = u.n + v.n
  ps : ∀ p, p ∈ w.ps ↔ p ∈ u.ps ∨ (∃ q ∈ L, p = (q.1, q.2 + u.n)) ∨ ∃ q ∈ v.ps, p = (q.1 + u.n, q.2 + u.n)
  ns : w.ns = u.ns ++ v.ns.map (upRow u.n)
theorem Jn.uniq {u v w z : Wb} {L : List (Int × Int)} (h : Jn u v L w) (g : Jn u v L z) (hw : ascB ltPr w.ps = true) (hz : ascB ltPr z.ps = true) : w = z := by
  have e1 : w.n = z.n := h.n.trans g.n.symm
  have e2 : w.ps = z.ps := asc_ext hw hz fun x => (h.ps x).trans (g.ps x).symm
  have e3 : w.ns = z.ns := h.ns.trans g.ns.symm
  obtain ⟨a, b, c⟩ := w
  obtain ⟨d, e, f⟩ := z
  simp only at e1 e2 e3
  rw [e1, e2, e3]
theorem asc_up {n : Int} : ∀ {r : List Int}, ascB ltIn r = true → ascB ltIn (upRow n r) = true
  | [], _ => rfl
  | [_], _ => rfl
  | a :: b :: r, h => by
    simp only [ascB, Bool.and_eq_true, ltIn, decide_eq_true_eq] at h
    have ih := asc_up (n := n) (r := b :: r) h.2
    simp only [upRow, List.map_cons, ascB, Bool.and_eq_true, ltIn, decide_eq_true_eq] at ih ⊢
    exact ⟨by omega, ih⟩
theorem Jn.ok {u v w : Wb} {L : List (Int × Int)} (h : Jn u v L w) (hu : u.Ok) (hv : v.Ok) (hL : LnOk u v L) (h20 : u.n + v.n ≤ 20) (h8 : u.ns.length + v.ns.length ≤ 8) (ha : ascB ltPr w.ps = true) : w.Ok := by
  have a1 := hu.lo
  have a2 := hv.lo
  refine ⟨by rw [h.n]; omega, by rw [h.n]; omega, fun p hp => ?_, ha, ?_, fun r hr => ?_⟩
  · rw [h.n]
    rcases (h.ps p).mp hp with hp | ⟨q, hq, rfl⟩ | ⟨q, hq, rfl⟩
    · have := hu.ps p hp
      omega
    · have := hL.r q hq
      simp only
      omega
    · have := hv.ps q hq
      simp only
      omega
  · rw [h.ns, List.length_append, List.length_map]
    exact h8
  · rw [h.ns] at hr
    rw [h.n]
    rcases List.mem_append.mp hr with hr | hr
    · obtain ⟨z1, z2, z3⟩ := hu.ns r hr
      exact ⟨z1, fun t ht => by have := z2 t ht; omega, z3⟩
    · obtain ⟨s, hs, rfl⟩ := List.mem_map.mp hr
      obtain ⟨z1, z2, z3⟩ := hv.ns s hs
      refine ⟨fun e => z1 (List.map_eq_nil_iff.mp e), fun t ht => ?_, asc_up z3⟩
      obtain ⟨x, hx, rfl⟩ := List.mem_map.mp ht
      have := z2 x hx
      omega
/-- the pairs ahead of sorting: apart from one another -/
theorem jn_nodup {u v : Wb} {L A B : List (Int × Int)} (hu : u.Ok) (hv : v.Ok) (hL : LnOk u v L) (hA : ∀ p, p ∈ A ↔ ∃ q ∈ L, p = (q.1, q.2 + u.n)) (hB : ∀ p, p ∈ B ↔ ∃ q ∈ v.ps, p = (q.1 + u.n, q.2 + u.n)) (nA : A.Nodup) (nB : B.Nodup) :
    (u.ps ++ A ++ B).Nodup := by
  rw [List.nodup_append, List.nodup_append]
  refine ⟨⟨nodup_asc hu.asc, nA, fun a ha b hb e => ?_⟩, nB, fun a ha b hb e => ?_⟩
  · subst e
    obtain ⟨q, hq, rfl⟩ := (hA a).mp hb
    have h1 := hu.ps _ ha
    have h2 := hL.r q hq
    simp only at h1
    omega
  · subst e
    obtain ⟨q, hq, rfl⟩ := (hB a).mp hb
    have h2 := hv.ps q hq
    rcases List.mem_append.mp ha with ha | ha
    · have h1 := hu.ps _ ha
      simp only at h1
      omega
    · obtain ⟨z, hz, e⟩ := (hA _).mp ha
      have h1 := hL.r z hz
      simp only [Prod.mk.injEq] at e
      omega
theorem nodup_link {n : Int} {L : List (Int × Int)} (h : ascB ltPr L = true) : (L.map fun q => (q.1, q.2 + n)).Nodup := by
  refine (List.pairwise_map).mpr ((nodup_asc h).imp fun {a b} ne e => ne ?_)
  simp only [Prod.mk.injEq] at e
  exact Prod.ext e.1 (by omega)
theorem nodup_move {n : Int} {L : List (Int × Int)} (h : ascB ltPr L = true) : (L.map fun q => (q.1 + n, q.2 + n)).Nodup := by
  refine (List.pairwise_map).mpr ((nodup_asc h).imp fun {a b} ne e => ne ?_)
  simp only [Prod.mk.injEq] at e
  exact Prod.ext (by omega) (by omega)
theorem jn_of {u v : Wb} {L M N : List (Int × Int)} (hM : ∀ p, p ∈ M ↔ p ∈ N) (hN : ∀ p, p ∈ N ↔ p ∈ u.ps ∨ p ∈ (L.map fun q => (q.1, q.2 + u.n)) ∨ p ∈ (v.ps.map fun q => (q.1 + u.n, q.2 + u.n))) : Jn u v L ⟨u.n + v.n, M, u.ns ++ v.ns.map (upRow u.n)⟩ := by
  refine ⟨rfl, fun p => ?_, rfl⟩
  show p ∈ M ↔ _
  rw [hM, hN]
  constructor
  · rintro (h | h | h)
    · exact .inl h
    · obtain ⟨q, hq, rfl⟩ := List.mem_map.mp h
      exact .inr (.inl ⟨q, hq, rfl⟩)
    · obtain ⟨q, hq, rfl⟩ := List.mem_map.mp h
      exact .inr (.inr ⟨q, hq, rfl⟩)
  · rintro (h | ⟨q, hq, rfl⟩ | ⟨q, hq, rfl⟩)
    · exact .inl h
    · exact .inr (.inl (List.mem_map.mpr ⟨q, hq, rfl⟩))
    · exact .inr (.inr (List.mem_map.mpr ⟨q, hq, rfl⟩))
/-- what joining gives, as data -/
def JnD (u v : Wb) (L : List (Int × Int)) (dd : PyData) : Prop :=
  (u.n + v.n > 20 ∧ dd = .int 20) ∨ (u.n + v.n ≤ 20 ∧ u.ns.length + v.ns.length > 8 ∧ dd = .int 8) ∨
    (u.n + v.n ≤ 20 ∧ u.ns.length + v.ns.length ≤ 8 ∧ ∃ w : Wb, dd = w.d ∧ w.Ok ∧ Jn u v L w)
theorem JnD.uniq {u v : Wb} {L : List (Int × Int)} {a b : PyData} (h : JnD u v L a) (g : JnD u v L b) : a = b := by
  rcases h with ⟨h1, rfl⟩ | ⟨h1, h2, rfl⟩ | ⟨h1, h2, w, rfl, h3, h4⟩
  · rcases g with ⟨g1, rfl⟩ | ⟨g1, g2, rfl⟩ | ⟨g1, g2, _⟩
    · rfl
    · omega
    · omega
  · rcases g with ⟨g1, rfl⟩ | ⟨g1, g2, rfl⟩ | ⟨g1, g2, _⟩
    · omega
    · rfl
    · omega
  · rcases g with ⟨g1, rfl⟩ | ⟨g1, g2, rfl⟩ | ⟨g1, g2, z, rfl, g3, g4⟩
    · omega
    · omega
    · rw [h4.uniq g4 h3.asc g3.asc]
theorem show_int {i : Int} (h0 : 0 ≤ i) (h1 : i < 64) : (PyData.int i).showable = true ∧ (PyData.int i).shown.length ≤ sizeLine ∧ (PyData.int i).depth ≤ 60 := by
  obtain ⟨g1, g2, _⟩ := short_int h0 h1
  refine ⟨?_, mil (Nat.le_trans g1 (by decide)), by simp [PyData.depth]⟩
  simp only [PyData.showable, decide_eq_true_eq]
  exact g2
theorem JnD.show {u v : Wb} {L : List (Int × Int)} {d : PyData} (h : JnD u v L d) : d.showable = true ∧ d.shown.length ≤ sizeLine ∧ d.depth ≤ 60 := by
  rcases h with ⟨_, rfl⟩ | ⟨_, _, rfl⟩ | ⟨_, _, w, rfl, h3, _⟩
  · exact show_int (by decide) (by decide)
  · exact show_int (by decide) (by decide)
  · exact show_web h3
theorem JnD.nd {u v : Wb} {L : List (Int × Int)} {d : PyData} (h : JnD u v L d) : d.hasDict = false := by
  rcases h with ⟨_, rfl⟩ | ⟨_, _, rfl⟩ | ⟨_, _, w, rfl, h3, _⟩
  · rfl
  · rfl
  · exact nd_of_lay (lay_web w)
/-- the three that are kept, as data -/
abbrev d3 (u v : Wb) (L : List (Int × Int)) : PyData := .list [u.d, v.d, dPairs L]
theorem web_fit {u : Wb} (hu : u.Ok) : u.d.showable = true ∧ u.d.leavesShort 8 = true ∧ u.d.weight ≤ 40000 := by
  have b1 := hu.lo
  have b2 := hu.hi
  have b3 := hu.few
  have b4 := hu.len
  obtain ⟨p1, p2, p3⟩ := sm_pairs (r := u.ps) fun t ht => by
    have := hu.ps t ht
    exact ⟨⟨this.1.1, by omega⟩, ⟨this.2.1, by omega⟩⟩
  obtain ⟨r1, r2, r3⟩ := sm_rows (rs := u.ns) fun r hr => ⟨fun t ht => by
    have := (hu.ns r hr).2.1 t ht
    exact ⟨this.1, by omega⟩, hu.row hr⟩
  obtain ⟨g1, g2, g3⟩ := short_int (i := u.n) (by omega) (by omega)
  refine ⟨?_, ?_, ?_⟩
  · simp only [Wb.d, dPairs, dRows, PyData.showable, PyData.showableAll, p2, r2, Bool.and_true, decide_eq_true_eq]
    exact g2
  · simp only [Wb.d, dPairs, dRows, PyData.leavesShort, PyData.leavesShortAll, p1, r1, Bool.and_true, decide_eq_true_eq]
    exact g1
  · have e : u.d.weight = PyData.weight (.int u.n) + 1 + (PyData.weightAll (u.ps.map dPair) + 1 + (PyData.weightAll (u.ns.map dInts) + 1 + 0)) := by
      simp only [Wb.d, dPairs, dRows, PyData.weight, PyData.weightAll]
    omega
theorem show_3 {u v : Wb} {L : List (Int × Int)} (hu : u.Ok) (hv : v.Ok) (hL : LnOk u v L) : (d3 u v L).showable = true ∧ (d3 u v L).shown.length ≤ sizeLine ∧ (d3 u v L).depth ≤ 60 := by
  have a1 := hu.hi
  have a2 := hv.hi
  have a3 := hL.few
  obtain ⟨s1, s2, s3⟩ := web_fit hu
  obtain ⟨t1, t2, t3⟩ := web_fit hv
  obtain ⟨p1, p2, p3⟩ := sm_pairs (r := L) fun t ht => by
    have := hL.r t ht
    exact ⟨⟨this.1.1, by omega⟩, ⟨this.2.1, by omega⟩⟩
  refine ⟨?_, ?_, ?_⟩
  · simp only [dPairs, PyData.showable, PyData.showableAll, s1, t1, p2, Bool.and_true]
  · refine PyData.shown_fits (B := 8) (by omega) (by omega) ?_ ?_
    · simp only [dPairs, PyData.leavesShort, PyData.leavesShortAll, s2, t2, p1, Bool.and_true]
    · have e : (d3 u v L).weight = u.d.weight + 1 + (v.d.weight + 1 + (PyData.weightAll (L.map dPair) + 1 + 0)) := by
        simp only [dPairs, PyData.weight, PyData.weightAll]
      omega
  · have e1 := dep_web u
    have e2 := dep_web v
    have e3 := dep_dPairs L
    simp only [PyData.depth, PyData.depthAll]
    omega
theorem nd_3 (u v : Wb) (L : List (Int × Int)) : (d3 u v L).hasDict = false := by
  refine nd_of_lay ?_
  simp only [PyData.canLay0, PyData.canLayAll0, lay_web, lay_dPairs, Bool.and_true]
theorem pairs_exd {K : PySem.W.Frag} {H H' : Hp} {p : Addr} {zs acc : List V} {L : List (Int × Int)} (h : DaAll K H (L.map dPair) acc) (hp : H p = some (.lst zs)) (e : ExD p H H') : DaAll K H' (L.map dPair) acc :=
  ((pairs_rm hp h).up e.rm).up rm_ex
end Nw
/-! Errors of one text, made and caught. -/
namespace Nw
open PySem PySem.Spec PyProof.Rows L2
/-- the class that a name names -/
abbrev ErrOf (K : PySem.W.Frag) (x : Str) (C : Addr) : Prop := PySem.W.nsIn K mainGlobals x = some (some (.ref C))
/-- what the written part says of an error class of one text -/
structure ErrC (K : PySem.W.Frag) (mg : Str → Option Value) (x : Str) (C : Addr) : Prop where
  gC : mg x = some (.ref C)
  xC : PySem.W.excIn K C [.type "ValueError", .type "Exception", .type "BaseException", .type "object"] "ValueError.__new__" = true
  kC : PySem.W.keepIn K (.ref C) = true
  bC : PySem.W.subIn K (.ref C) (.type "BaseException") = some true
  tC : PySem.W.typeIn K (.ref C) = some (.type "type")
  iC : PySem.W.isClsIn K C = true
  sC : PySem.W.subIn K (.ref C) (.ref C) = some true
  nC : ErrOf K x C
theorem err_uniq {K : PySem.W.Frag} {x : Str} {C D : Addr} (h : ErrOf K x C) (g : ErrOf K x D) : C = D := by
  have e := h.symm.trans g
  simp only [Option.some.injEq, Value.ref.injEq] at e
  exact e
/-- the small ints' texts fit -/
theorem small_text {i : Int} (h0 : 0 ≤ i) (h1 : i < 64) : i.natAbs.log2 < 1920 ∧ (toString i : Str).length ≤ 8 := by
  obtain ⟨g1, g2, _⟩ := short_int h0 h1
  refine ⟨g2, ?_⟩
  simpa only [PyData.shown] using g1
theorem DaAll.take {K : PySem.W.Frag} {H : Hp} : ∀ {ds : List PyData} {xs : List V} (k : Nat), DaAll K H ds xs → DaAll K H (ds.take k) (xs.take k)
  | ds, xs, 0, _ => by
    rw [List.take_zero, List.take_zero]
    rfl
  | [], xs, k + 1, h => by
    obtain rfl : xs = [] := h
    rfl
  | d :: ds, xs, k + 1, h => by
    obtain ⟨x, ys, rfl, h1, h2⟩ := h
    exact ⟨x, _, rfl, h1, DaAll.take k h2⟩
theorem DaAll.drop {K : PySem.W.Frag} {H : Hp} : ∀ {ds : List PyData} {xs : List V} (k : Nat), DaAll K H ds xs → DaAll K H (ds.drop k) (xs.drop k)
  | ds, xs, 0, h => h
  | [], xs, k + 1, h => by
    obtain rfl : xs = [] := h
    rfl
  | d :: ds, xs, k + 1, h => by
    obtain ⟨x, ys, rfl, h1, h2⟩ := h
    exact DaAll.drop k h2
theorem cut_take (xs : List V) (k : Nat) (h : k ≤ xs.length) : cutV xs none (some (k : Int)) = xs.take k := by
  unfold cutV
  rw [HT.sIx_nat, HT.sIx_none, List.drop_zero, Nat.sub_zero, Nat.min_eq_left h]
theorem cut_drop (xs : List V) (k : Nat) (h : k ≤ xs.length) : cutV xs (some (k : Int)) none = xs.drop k := by
  unfold cutV
  rw [HT.sIx_nat, HT.sIx_none, Nat.min_eq_left h]
  exact List.take_of_length_le (by rw [List.length_drop]; exact Nat.le_refl _)
theorem any_pair (ps : List (Int × Int)) (p : Int × Int) : ((ps.map dPair).any fun z => PyData.eqv z (dPair p)) = decide (p ∈ ps) := by
  rw [List.any_map]
  have e : ((fun z => PyData.eqv z (dPair p)) ∘ dPair) = fun q => decide (q = p) := funext fun q => eqv_dPair q p
  rw [e, Bool.eq_iff_iff, List.any_eq_true, decide_eq_true_eq]
  constructor
  · rintro ⟨q, hq, h⟩
    obtain rfl := of_decide_eq_true h
    exact hq
  · intro h
    exact ⟨p, h, decide_eq_true rfl⟩
theorem asc_filter {ps : List (Int × Int)} (f : Int × Int → Bool) (h : ascB ltPr ps = true) : ascB ltPr (ps.filter f) = true := asc_pw ((pw_asc h).filter f)
/-- a web with a pair more, or less -/
structure PairW (u w : Wb) (m : Int × Int → Prop) : Prop where
  n : w.n = u.n
  ns : w.ns = u.ns
  ps : ∀ p, p ∈ w.ps ↔ m p
theorem PairW.ok {u w : Wb} {m : Int × Int → Prop} (h : PairW u w m) (hu : u.Ok) (hm : ∀ p, m p → (0 ≤ p.1 ∧ p.1 < u.n) ∧ (0 ≤ p.2 ∧ p.2 < u.n)) (ha : ascB ltPr w.ps = true) : w.Ok := by
  refine ⟨by rw [h.n]; exact hu.lo, by rw [h.n]; exact hu.hi, fun p hp => ?_, ha, by rw [h.ns]; exact hu.few, ?_⟩
  · rw [h.n]
    exact hm p ((h.ps p).mp hp)
  · rw [h.ns, h.n]
    exact hu.ns
theorem PairW.uniq {u w v : Wb} {m : Int × Int → Prop} (h : PairW u w m) (g : PairW u v m) (hw : ascB ltPr w.ps = true) (hv : ascB ltPr v.ps = true) : w = v := by
  have e1 : w.n = v.n := h.n.trans g.n.symm
  have e2 : w.ps = v.ps := asc_ext hw hv fun x => (h.ps x).trans (g.ps x).symm
  have e3 : w.ns = v.ns := h.ns.trans g.ns.symm
  obtain ⟨a, b, c⟩ := w
  obtain ⟨d, e, f⟩ := v
  simp only at e1 e2 e3
  rw [e1, e2, e3]
/-- whether an error of the class D is what a clause names by C -/
theorem exm_two {K : PySem.W.Frag} {D S : Addr} {b : Bool} (h1 : PySem.W.subIn K (.ref S) (.type "BaseException") = some true) (h2 : PySem.W.isClsIn K S = true) (h3 : PySem.W.typeIn K (.ref S) = some (.type "type")) (h4 : PySem.W.subIn K (.ref D) (.ref S) = some b) :
    PySem.W.exmOne K (.ref D) (.ref S) = some b := by
  have e1 : (PySem.W.subIn K (.ref S) (.type "BaseException") == some true) = true := by
    rw [h1]
    rfl
  have e2 : ((PySem.W.clsIn K S).isSome && PySem.W.typeIn K (.ref S) == some (.type "type")) = true := by
    have h2' : (PySem.W.clsIn K S).isSome = true := h2
    rw [h2', h3]
    rfl
  unfold PySem.W.exmOne
  rw [if_pos e1]
  show (if ((PySem.W.clsIn K S).isSome && PySem.W.typeIn K (.ref S) == some (.type "type")) = true then PySem.W.subIn K (.ref D) (.ref S) else none) = some b
  rw [if_pos e2]
  exact h4
/-- the parts of a new web have nothing to do with an old list -/
theorem NewW.offs {K : PySem.W.Frag} {H H' : Hp} {w : Wb} {T L1 L2 p : Addr} {xs zs : List V} {bs : List Addr} (h : NewW K H H' w T L1 L2 xs bs) (hw : w.Ok) (hp : H p = some (.lst zs)) :
    (rm H' p) T = some (.tup [.int w.n, .ref L1, .ref L2]) ∧ Da K (rm H' p) (dPairs w.ps) (.ref L1) ∧ Da K (rm H' p) (dRows w.ns) (.ref L2) := by
  have hp' := h.ex _ _ hp
  have l1 := hw.len
  have l2 := hw.few
  refine ⟨?_, ⟨L1, xs, rfl, ?_, pairs_rm hp' h.ps, by rw [List.length_map]; omega⟩, ⟨L2, bs.map V.ref, rfl, ?_, ?_, by rw [List.length_map]; omega⟩⟩
  · rw [rm_ne (fun e => by have := h.tup; rw [e, hp'] at this; cases this)]
    exact h.tup
  · rw [rm_ne (fun e => by have := h.new; rw [e, hp] at this; cases this)]
    exact h.at_
  · rw [rm_ne (fun e => by have := h.new2; rw [e, hp] at this; cases this)]
    exact h.at2
  · refine rows_of h.len fun k b hb => ?_
    obtain ⟨n, r, e, g⟩ := h.row k b hb
    have := hw.row (List.mem_of_getElem? e)
    refine ⟨r, e, ?_, by omega⟩
    rw [rm_ne (fun e => by have := n.1; rw [e, hp] at this; cases this)]
    exact g
/-- a web of its parts -/
theorem da_web {K : PySem.W.Frag} {H : Hp} {w : Wb} {T : Addr} {x2 x3 : V} (h : H T = some (.tup [.int w.n, x2, x3])) (h2 : Da K H (dPairs w.ps) x2) (h3 : Da K H (dRows w.ns) x3) : Da K H w.d (.ref T) :=
  ⟨T, _, rfl, h, _, _, rfl, rfl, _, _, rfl, h2, _, _, rfl, h3, rfl⟩
/-- what is known, but for the lists of a new web -/
def mask (H : Hp) (L1 L2 : Addr) (bs : List Addr) : Hp := fun b => if b = L1 ∨ b = L2 ∨ b ∈ bs then none else H b
theorem mask_of {H : Hp} {L1 L2 b : Addr} {bs : List Addr} (h1 : b ≠ L1) (h2 : b ≠ L2) (h3 : b ∉ bs) : mask H L1 L2 bs b = H b := by
  unfold mask
  rw [if_neg]
  rintro (h | h | h)
  · exact h1 h
  · exact h2 h
  · exact h3 h
theorem mask_ex {H : Hp} {L1 L2 : Addr} {bs : List Addr} : Ex (mask H L1 L2 bs) H := fun b o h => by
  unfold mask at h
  split at h
  · cases h
  · exact h
/-- a new web still stands apart from all that came behind it -/
theorem NewW.mask {K : PySem.W.Frag} {H0 H' H : Hp} {w : Wb} {T L1 L2 : Addr} {xs : List V} {bs : List Addr} (h : NewW K H0 H' w T L1 L2 xs bs) (e : Ex H' H) :
    NewW K (Nw.mask H L1 L2 bs) H w T L1 L2 xs bs ∧ Ex H0 (Nw.mask H L1 L2 bs) ∧ ∀ b o, H' b = none → H b = some o → Nw.mask H L1 L2 bs b = some o := by
  have hb : ∀ b ∈ bs, H0 b = none ∧ H' b ≠ none := fun b hb => by
    obtain ⟨k, hk⟩ := List.mem_iff_getElem?.mp hb
    obtain ⟨n, r, _, g⟩ := h.row k b hk
    exact ⟨n.1, fun x => by rw [x] at g; cases g⟩
  refine ⟨⟨mask_ex, e _ _ h.tup, ?_, e _ _ h.at_, h.ps.up e, ?_, e _ _ h.at2, h.len, fun k b hk => ?_, h.nd, h.ne⟩, fun b o hb0 => ?_, fun b o hn ho => ?_⟩
  · unfold Nw.mask
    rw [if_pos (.inl rfl)]
  · unfold Nw.mask
    rw [if_pos (.inr (.inl rfl))]
  · obtain ⟨n, r, h1, h2⟩ := h.row k b hk
    refine ⟨⟨?_, n.2⟩, r, h1, e _ _ h2⟩
    unfold Nw.mask
    rw [if_pos (.inr (.inr (List.mem_of_getElem? hk)))]
  · rw [mask_of (fun x => by have := h.new; rw [← x, hb0] at this; cases this) (fun x => by have := h.new2; rw [← x, hb0] at this; cases this) (fun x => by have := (hb b x).1; rw [hb0] at this; cases this)]
    exact e _ _ (h.ex _ _ hb0)
  · rw [mask_of (fun x => by have := h.at_; rw [← x, hn] at this; cases this) (fun x => by have := h.at2; rw [← x, hn] at this; cases this) (fun x => (hb b x).2 hn)]
    exact ho
theorem pairs_mask {K : PySem.W.Frag} {H : Hp} {L1 L2 : Addr} {bs : List Addr} (hl : ∀ b, b = L1 ∨ b = L2 ∨ b ∈ bs → ∃ ys, H b = some (.lst ys)) : ∀ {L : List (Int × Int)} {acc : List V}, DaAll K H (L.map dPair) acc → DaAll K (mask H L1 L2 bs) (L.map dPair) acc
  | [], _, h => h
  | p :: L, acc, h => by
    obtain ⟨x, xs, rfl, ⟨a, zs, rfl, hS, z1, r1, rfl, e1, z2, r2, rfl, e2, rfl⟩, h2⟩ := h
    obtain rfl := e1
    obtain rfl := e2
    refine ⟨_, _, rfl, dPair_of ?_, pairs_mask hl h2⟩
    unfold mask
    rw [if_neg]
    · exact hS
    · intro hm
      obtain ⟨ys, hy⟩ := hl a hm
      rw [hS] at hy
      cases hy
theorem NewW.lists {K : PySem.W.Frag} {H0 H' H : Hp} {w : Wb} {T L1 L2 : Addr} {xs : List V} {bs : List Addr} (h : NewW K H0 H' w T L1 L2 xs bs) (e : Ex H' H) : ∀ b, b = L1 ∨ b = L2 ∨ b ∈ bs → ∃ ys, H b = some (.lst ys) := by
  rintro b (rfl | rfl | hb)
  · exact ⟨_, e _ _ h.at_⟩
  · exact ⟨_, e _ _ h.at2⟩
  · obtain ⟨k, hk⟩ := List.mem_iff_getElem?.mp hb
    obtain ⟨_, r, _, g⟩ := h.row k b hk
    exact ⟨_, e _ _ g⟩
end Nw
/-! Errors that are kept beyond their except suite. -/
namespace Nw
open PySem PySem.Spec PyProof.Rows L2
/-- an exception's object of the class cls, with the dict d, at a -/
def ExK (cls : Value) (d : Option Addr) (a : Addr) : HO := .ext fun h => ∃ (oe : Obj) (vs : Array Value), h.get? a = some oe ∧ Zc cls d oe ∧ oe.data = .fields vs
theorem exK_ok {P : Program} {w : World} {H : Hp} {h : Heap} {a : Addr} {cls : Value} {d : Option Addr} {oe : Obj} {vs : Array Value} (e : h.get? a = some oe) (z : Zc cls d oe) (k : oe.data = .fields vs) : ObjOk P w H h a (ExK cls d a) :=
  ⟨⟨oe, vs, e, z, k⟩, ⟨oe, e⟩, fun _ _ ⟨o, v, q, r⟩ m => ⟨o, v, m o q, r⟩⟩
section
variable {X : Cx} {pins : List (Addr × Obj)} {σ : L2.St} {H : Hp} {s : Shared}
/-- what was pinned is tracked from now on -/
theorem inv_track {a : Addr} {oe : Obj} {cls : Value} {d : Option Addr} (I : Inv X ((a, oe) :: pins) σ H s) (hz : Zc cls d oe) (hf : ∃ vs, oe.data = .fields vs)
    (hn : X.s_0.heap.get? a = none) (ha : ∀ p ∈ X.pn ++ pins, p.1 ≠ a) : Inv X pins σ (upd H a (ExK cls d a)) s := by
  obtain ⟨g1, g2, g3, g4, g5⟩ := I.pin (a, oe) (List.mem_append_right _ List.mem_cons_self)
  obtain ⟨vs, hv⟩ := hf
  have ne0 : ∀ b o, X.s_0.heap.get? b = some o → b ≠ a := fun b o e z => by
    rw [z, hn] at e
    cases e
  have neH : ∀ b u, H b = some u → b ≠ a := fun b u e z => by
    rw [z] at e
    exact nomatch (show (none : Option HO) = some u from g2.symm.trans e)
  refine ⟨I.ok, I.os, I.bare, ⟨I.base.keep, I.base.slot, fun b o e n hx => ?_, I.base.there, fun b xs e => ?_, fun b o x e => ?_, fun b ps e => ?_⟩, I.loc, I.cell, ?_, fun x c e => ?_, fun p hp => ?_, I.hok.laidN (fun b u q => q) g2 (exK_ok g1 hz hv), I.len⟩
  · rw [upd_ne (ne0 b o e)]
    exact I.base.free b o e n hx
  · have q := I.base.tups b xs e
    rw [upd_ne (neH b _ q)]
    exact q
  · have q := I.base.frzs b o x e
    rw [upd_ne (neH b _ q)]
    exact q
  · obtain ⟨m, q⟩ := I.base.tbls b ps e
    exact ⟨m, by rw [upd_ne (neH b _ q)]; exact q⟩
  · rw [upd_ne (Ne.symm g3)]
    exact I.free
  · have ca : c ≠ a := fun z => by
      obtain ⟨v, o, ho, hd⟩ := I.cell x c e
      rw [z] at ho
      rw [show s.heap.get? a = some oe from g1] at ho
      obtain rfl := Option.some.inj ho
      exact g5 _ hd
    rw [upd_ne ca]
    exact I.freeC x c e
  · have hp' : p ∈ X.pn ++ ((a, oe) :: pins) := by
      rcases List.mem_append.mp hp with h | h
      · exact List.mem_append_left _ h
      · exact List.mem_append_right _ (List.mem_cons_of_mem _ h)
    obtain ⟨k1, k2, k3⟩ := I.pin p hp'
    exact ⟨k1, by rw [upd_ne (ha p hp)]; exact k2, k3⟩
/-- the suite ends, its exception stays pinned -/
theorem inv_keepPin {a : Addr} {oe : Obj} (I : Inv (X.suite a ((a, oe) :: (X.pn ++ pins))) [] σ H s) (ok : X.Ok) : Inv X ((a, oe) :: pins) σ H s :=
  ⟨ok, I.os, I.bare, I.base, I.loc, I.cell, I.free, I.freeC, fun p hp => I.pin p (by
    rw [List.append_nil]
    rcases List.mem_append.mp hp with h | h
    · exact List.mem_cons_of_mem _ (List.mem_append_left _ h)
    · rcases List.mem_cons.mp h with rfl | h
      · exact List.mem_cons_self
      · exact List.mem_cons_of_mem _ (List.mem_append_right _ h)), I.hok, I.len⟩
end
/-- what the clause «except x as n» wishes, when its suite only goes on, and the error is kept; slot i is n's -/
def wKp (K : PySem.W.Frag) (c : Value) (i : Nat) (ts : Addr → Value → Option Addr → TS) (Wout : WX) (D : Ends) : WX := fun cls d σ H =>
  ∃ b, PySem.W.exmOne K cls c = some b ∧
    (b = true → ∀ a, H a = none → ts a cls d ⟨fun σ' H' => D.nx (σ'.set i none) (upd H' a (ExK cls d a)), fun _ _ => False, fun _ _ => False, fun _ _ => False⟩ (σ.set i (some (.ref a))) H) ∧ (b = false → Wout cls d σ H)
section
variable {X : Cx} {x n : Str} {c : Value} {i : Nat} {bd sb : List Stmt} {b₀ : Stmt} {np p1 p2 : Pos} {tb : WX → TS} {ts : Addr → Value → Option Addr → TS} {Wout : WX}
theorem ps_try_kp (stk : X.stack = X.env :: X.outer) (frm : X.env.frame = some X.env.locals) (nox : X.ex = []) (nod : X.N.Nodup) (slot : X.N[i]? = some n) (lcl : X.env.kindOf n = some .local) (nm : Names X x c) (out : Takes X Wout)
    (inner : ∀ (W : WX) (pn : List (Addr × Obj)) (xe : Value → Shared → Prop), Takes (X.tr pn xe) W → PassesOwn (model X.prog X.w) X.A X.env xe → PSs (X.tr pn xe) bd (tb W))
    (suit : ∀ (a : Addr) (oe : Obj) (cls : Value) (d : Option Addr) (pn : List (Addr × Obj)), Zc cls d oe → (∃ vs, oe.data = .fields vs) → PSs (X.suite a ((a, oe) :: pn)) (b₀ :: sb) (ts a cls d)) :
    PS X (.Try bd [.ExceptHandler (some (.Name x np)) (some n) (b₀ :: sb) p1] [] [] p2) (fun D σ H => tb (wKp X.K c i ts Wout D) D σ H) := by
  refine ⟨fun pins s0 σ0 H0 D I0 wish => ?_⟩
  have okX := I0.ok
  have frs2 : X.A.frames = some (X.env :: X.outer) := by rw [okX.frames, stk]
  refine wpAny_Try_except (wpAny_mono ((inner (wKp X.K c i ts Wout D) (X.pn ++ pins) (fun er z1 => wpAny (model X.prog X.w) X.A (noteFrame er X.env) (fun _ z2 => wpAny (model X.prog X.w) X.A (setFlight er none) (fun _ z3 =>
    wpAny (model X.prog X.w) X.A (handleBy er X.env [.ExceptHandler (some (.Name x np)) (some n) (b₀ :: sb) p1]) (SP X pins D) X.xe z3) X.xe z2) X.xe z1) (fun u t hu => ?_) PassesOwn.looking).run [] s0 σ0 H0 D (I0.toTry _) wish) (fun fl t hfl => ?_) (fun _ _ he => he))
  · obtain ⟨a, G, sI, pI, σ1, H1, cls, d, rfl, J0, nb, up, sky, na, hos, hag, b, hb, yes, no⟩ := hu
    have J1 : Inv X pins σ1 H1 sI := J0.ofTry okX
    have sky2 : Sky G (X.env :: X.outer) a (Zc cls d) X.env.locals t.heap := by
      rw [← stk]
      exact sky
    have Ga : G.get? a = none := by
      rcases sky2 with ⟨_, z, _⟩ | ⟨_, z, _⟩ | ⟨_, z, _⟩
      · exact z
      · exact z
      · exact z
    show wpAny (model X.prog X.w) X.A (noteFrame (.ref a) X.env) _ _ _
    refine Sky.land Zc.steady frs2 frm sky2 fun h3 fly3 up3 => ?_
    have J3 : Inv X pins σ1 H1 { t with heap := h3 } := J1.landed nb fly3.1 (up.trans up3) hos hag
    obtain ⟨o3, v3, get3, zc3, dat3⟩ := fly3.there
    have offF : a ∉ frs (X.env :: X.outer) := fun hm => by
      obtain ⟨_, o', e', hnf⟩ := fly3.2.2.1.mem hm
      rw [get3] at e'
      obtain rfl := Option.some.inj e'
      exact hnf _ dat3
    have neL : a ≠ X.env.locals := fun z => offF (List.mem_filterMap.mpr ⟨X.env, List.mem_cons_self, by rw [frm, z]⟩)
    have neF : a ∉ X.fs := fun hm => by
      obtain ⟨e, he, q⟩ := List.mem_filterMap.mp hm
      exact offF (List.mem_filterMap.mpr ⟨e, List.mem_cons_of_mem _ he, q⟩)
    -- a is new to the def, and none of what is pinned
    have n0 : X.s_0.heap.get? a = none := by
      cases e : X.s_0.heap.get? a with
      | none => rfl
      | some o =>
        exfalso
        obtain ⟨o', e'⟩ := J1.base.there a o e (by rw [nox]; exact fun z => nomatch z)
        have := nb a o' e' (by rw [stk]; exact offF)
        rw [Ga] at this
        cases this
    have pin0 : ∀ p ∈ X.pn ++ pins, p.1 ≠ a := fun p hp z => by
      obtain ⟨k1, k2, k3, k4, _⟩ := J1.pin p hp
      rw [z] at k1
      have := nb a _ k1 (by rw [stk]; exact offF)
      rw [Ga] at this
      cases this
    have S3 := J3.suite get3 dat3 na neL neF
    refine wpAny_handleBy_cons (codeAny_handlers_test ?_) (by intro q; cases q)
    have lookT : PySem.W.Looks (model X.prog X.w) h3 (typeOf (.ref a)) cls := fun A Q E z k q => wpAny_typeOf_ref (k _ _ get3) (by rw [zc3.1]; exact q)
    have lookM := PySem.W.exm_one (M := model X.prog X.w) (J3.kIn) lookT hb
    have named : ∀ {Q : Value → Shared → Prop} {E : Value → Shared → Prop}, Q c { t with heap := h3 } → wpAny (model X.prog X.w) (X.A.mark (some (.ref a))) (eval (.Name x np) X.env) Q E { t with heap := h3 } := fun {Q E} q => by
      obtain ⟨hg, hdb, hm | ⟨hm, hv, hnn⟩⟩ := nm
      · exact ld_glob (X := X.suite a ((a, o3) :: (X.pn ++ pins))) S3 hg hm q hdb
      · exact ld_blt (X := X.suite a ((a, o3) :: (X.pn ++ pins))) S3 hg hm hv q hnn hdb
    refine named (lookM.here ?_)
    cases b with
    | true =>
      refine codeAny_handlers_suite_as (HandSPX.lands_againZ fly3 fun h4 fly4 up4 => ?_)
      have J4 : Inv X pins σ1 H1 { t with heap := h4 } := J1.landed nb fly4.1 ((up.trans up3).trans up4) hos hag
      obtain ⟨o4, v4, get4, zc4, dat4⟩ := fly4.there
      refine store_ok (X := X.suite a ((a, o4) :: (X.pn ++ pins))) (v := .ref a) (J4.suite get4 dat4 na neL neF) nod slot (.inl lcl) rfl (fun s5 S5 => ?_) (.inr lcl)
      refine wpAny_mono ((suit a o4 cls d (X.pn ++ pins) zc4 ⟨_, dat4⟩).run [] s5 _ H1 _ S5 (yes rfl a na)) (fun fl s6 hs => ?_) (fun _ _ z => False.elim z)
      cases fl with
      | next =>
        obtain ⟨σ6, H6, S6, q6⟩ := hs
        exact gone_ok (inv_keepPin S6 okX) nod slot lcl fun s7 J7 => ⟨_, _, inv_track J7 zc4 ⟨_, dat4⟩ n0 pin0, q6⟩
      | brk =>
        obtain ⟨_, _, _, q6⟩ := hs
        exact q6.elim
      | cont =>
        obtain ⟨_, _, _, q6⟩ := hs
        exact q6.elim
      | ret u =>
        obtain ⟨_, _, _, _, _, q6⟩ := hs
        exact q6.elim
    | false =>
      show wpAny _ X.A (handleBy (.ref a) X.env []) _ _ _
      refine wpAny_handleBy_nil ?_
      obtain ⟨k1, k2, k3, oe, vs, T, oT, ts', he, hz, hd, h1, hr⟩ := id fly3
      unfold PySem.passOn
      refine wpAny_bind (wpAny_field he hd h1 ?_)
      rw [if_neg (show ¬ ((Value.ref T == Value.none) = true) from by simp)]
      have on : wpAny (model X.prog X.w) X.A (setFlight (.ref a) X.env.frame) (fun _ s4 => wpAny (model X.prog X.w) X.A (throw (.ref a) : Sem Flow) (SP X pins D) X.xe s4) X.xe { t with heap := h3 } := by
        rw [frm]
        refine HandSPX.setFlight_upZ fly3 fun h4 hh4 up4 => wpAny_throw (out _ _ ⟨a, G, sI, pins, σ1, H1, cls, d, rfl, J1, nb, (up.trans up3).trans up4, .inr (.inr (by rw [stk]; exact hh4)), na, hos, hag, no rfl⟩)
      first
        | exact wpAny_bind (wpAny_pure (wpAny_bind on))
        | exact wpAny_bind on
  · cases fl with
    | next =>
      obtain ⟨σ', H', J', q⟩ := hfl
      exact wpAny_execs_nil ⟨σ', H', J'.ofTry okX, q⟩
    | brk =>
      obtain ⟨σ', H', J', q⟩ := hfl
      exact ⟨σ', H', J'.ofTry okX, q⟩
    | cont =>
      obtain ⟨σ', H', J', q⟩ := hfl
      exact ⟨σ', H', J'.ofTry okX, q⟩
    | ret u =>
      obtain ⟨v, σ', H', J', r, q⟩ := hfl
      exact ⟨v, σ', H', J'.ofTry okX, r, q⟩
end
/-- isinstance(x, c), x a kept error -/
def rIsK (K : PySem.W.Frag) : List V → Hp → VK → Prop := fun xs H Q => ∃ (a D : Addr) (d : Option Addr) (c : V) (cv : Value) (b : Bool), xs = [.ref a, c] ∧ H a = some (ExK (.ref D) d a) ∧ (∀ dx, d = some dx → ∃ fs, H dx = some (.xd fs)) ∧ ExcC K D ∧
  (∀ u, RelV c u → u = cv) ∧ PySem.W.kitOne K (.ref D) cv = some b ∧ Q (.bl b) H
theorem instK {X : Cx} {pins : List (Addr × Obj)} {σ : L2.St} {H : Hp} {s : Shared} (I : Inv X pins σ H s) {a D : Addr} {d : Option Addr} (ha : H a = some (ExK (.ref D) d a)) (hd : ∀ dx, d = some dx → ∃ fs, H dx = some (.xd fs)) :
    ∃ oe od, PySem.W.InstAt s.heap a oe D od := by
  obtain ⟨⟨oe, vs, h1, ⟨h2, h3⟩, h4⟩, _⟩ := I.hok a _ ha
  have no : PySem.W.notCls oe = true := by
    unfold PySem.W.notCls
    rw [h4]
  cases d with
  | none => exact ⟨oe, none, h1, h2, no, by rw [h3]; trivial⟩
  | some dx =>
    obtain ⟨fs, e⟩ := hd dx rfl
    obtain ⟨m, ⟨o, es, ep, ho, _⟩, _⟩ := I.hok dx _ e
    exact ⟨oe, some o, h1, h2, no, by rw [h3]; exact ho⟩
theorem call_isK {X : Cx} (K : PySem.W.Frag) (hK : X.K = K := by rfl) : CallR X (.builtin "isinstance") (rIsK K) := by
  subst hK
  intro pins s σ H xs us Q I r h
  obtain ⟨a, D, d, c, cv, b, rfl, ha, hd, C, hcv, e, q⟩ := h
  cases r with
  | cons rx rr =>
    cases rr with
    | cons rt rr =>
      cases rr
      cases rx
      have ec := hcv _ rt
      subst ec
      obtain ⟨oe, od, J⟩ := instK I ha hd
      have hcl : (PySem.W.clsIn X.K D).isSome = true := by
        obtain ⟨cd, hc, _⟩ := PySem.W.any_some C.hd
        rw [hc]
        rfl
      exact PySem.W.kia_one (PySem.W.kitx_exc hcl C.hg C.hk C.hs C.ha C.hn C.ht C.hm) I.kIn J e (fun z => nomatch z) fun tk => ⟨.bl b, H, I.kept (t' := tk) fun _ _ z => z, rfl, q⟩
end Nw
/-! Errors as values: made, kept in lists, their fields read. -/
namespace PySem
namespace PlcX
open PySem.W PySem.Calls PyProof.Rows PySem.HandSPX
/-! ### the text of __init__ -/
def iA (p1 p2 : Pos) : Arguments := { posonlyargs := [], args := [{ arg := "self", annotation := none, pos := p1 }, { arg := "place", annotation := none, pos := p2 }], vararg := none, kwonlyargs := [], kw_defaults := [], kwarg := none, defaults := [] }
def iB (q1 q2 q3 q4 : Pos) : List Stmt := [.Assign [.Attribute (.Name "self" q1) "place" q2] (.Name "place" q3) q4]
def iS : Scope := { kind := .function, names := [(PySem.Str.ofString "self", .local), (PySem.Str.ofString "place", .local)], isGenerator := false, isCoroutine := false, more := [] }
/-- what the written part says of InvalidText, at C, and of its __init__, at fI -/
structure PlcTxt (K : Frag) (mg : Str → Option Value) (C fI : Addr) : Prop where
  gC : mg "InvalidText" = some (.ref C)
  cls : ∃ nm q N bs bm sn sub ab col dd k0 k1 k2 k3 k5, K.lookup C = some (excClassObj nm q C N bs bm true sn sub ab col dd k0 k1 k2 k3 k5 "ValueError.__new__") ∧ refsVE bm = true
  sa : findIn K (.ref C) "__setattr__" = some (some (.builtin "object.__setattr__"))
  ga : findIn K (.ref C) "__getattribute__" = some (some (.builtin "BaseException.__getattribute__"))
  gg : findIn K (.ref C) "__getattr__" = some none
  noN : findIn K (.ref C) "place" = some none
  iC : findIn K (.ref C) "__init__" = some (some (.ref fI))
  tC : typeIn K (.ref fI) = some (.type "function")
  kC : keepIn K (.ref C) = true
  exC : subIn K (.ref C) (.type "BaseException") = some true
  tyC : typeIn K (.ref C) = some (.type "type")
  hdC : hasDictIn K C = true
  te : exmOne K (.ref C) (.ref C) = some true
  fn : ∃ (oc : Value) (od : Option Addr) (doc pm : Value) (an : Option Addr) (cdv ct : Value) (osl : Array (Option Value)) (p1 p2 q1 q2 q3 q4 : Pos),
    K.lookup fI = some ⟨oc, od, .func (fnOf "__init__" "InvalidText.__init__" (iA p1 p2) (iB q1 q2 q3 q4) iS .none .none doc pm an cdv ct), osl⟩ ∧ codeIn K cdv "InvalidText.__init__" = true
theorem one_size (v : Value) : [v].length ≤ sizeLine := by
  rw [sizeLine_eq]
  exact (by decide : 1 ≤ 16777216)
theorem kept_but {K : Frag} {h h' : Heap} {x : Addr} (X : K.In h) (hx : K.lookup x = none) (k : ∀ b o, b ≠ x → h.get? b = some o → h'.get? b = some o) : K.In h' := fun a o e =>
  k a o (fun z => by rw [z, hx] at e; cases e) (X a o e)
theorem ldC {M : Model} {s : Shared} {name : Str} {scope : Scope} {L a : Addr} {cd : Value} {m : Str → Option Value} {x : Str} {pos : Pos} {v : Value} {Q : Value → Shared → Prop} {A : Around} {E : Value → Shared → Prop} (hn : s.heap.Ns L m) (hv : m x = some v) (h : Q v s)
    (hk : scope.kind = .function := by rfl) (hl : (envOfC name scope L a cd).kindOf x = some .local := by rfl) (hd : (x == ("__debug__" : Str)) = false := by decide) :
    wpAny M A (eval (.Name x pos) (envOfC name scope L a cd)) Q E s := wpAny_Name (wpAny_loadName_local hk hl hn hv h) hd
/-- what __init__ leaves of a fresh exception at x -/
structure InitEnd (h h' : Heap) (x C dx t1 : Addr) (v : Value) : Prop where
  keep : ∀ b o, b ≠ x → h.get? b = some o → h'.get? b = some o
  obj : h'.get? x = some { cls := .ref C, dict := some dx, data := .fields #[.ref t1, .none, .none, .none, .bool false, .none] }
  dbig : h.objs.size ≤ dx
  dne : dx ≠ x
  ns : h'.Ns1 dx (fun y => if y = "place" then some v else none)
/-- a made InvalidText -/
structure OwnMade (h h' : Heap) (e C d : Addr) (v : Value) : Prop where
  keep : ∀ b o, h.get? b = some o → h'.get? b = some o
  new : h.objs.size ≤ e
  obj : ∃ oe vs, h'.get? e = some oe ∧ oe.cls = .ref C ∧ oe.dict = some d ∧ oe.data = .fields vs ∧ vs[1]? = some .none
  dbig : h.objs.size ≤ d
  dne : d ≠ e
  ns : h'.Ns1 d (fun y => if y = "place" then some v else none)
section
variable {prog : Program} {w : World} {A : Around} {E : Value → Shared → Prop} {R : Result → Shared → Prop} {s : Shared} {K : Frag} {mg : Str → Option Value} {C fI : Addr}
theorem plc_init (T : PlcTxt K mg C fI) {x t0 : Addr} {v : Value} (X : K.In s.heap) (hlim : s.heap.NoLimit) (hx : s.heap.get? x = some (excO C t0)) (hnx : K.lookup x = none) (hroom : A.depth < recursionLimit)
    (hq : ∀ h' tk dx, InitEnd s.heap h' x C dx t0 v → R (.ok (.ret .none)) { s with heap := h', toks := tk }) :
    codeAny (model prog w) A (.call (.ref fI) ⟨[.ref x, v], []⟩) R s := by
  obtain ⟨oc, od, doc, pm, an, cdv, ct, osl, p1, p2, q1, q2, q3, q4, ho, hcd⟩ := T.fn
  obtain ⟨nm, q, N, bs, bm, sn, sub, ab, col, dd, k0, k1, k2, k3, k5, hC, hbm⟩ := T.cls
  have hcl : clsIn K C = some { name := nm, bases := bs, mro := .ref C :: bm, ns := N, qualname := q, hasDict := true, slotNames := sn, subclasses := sub, abstract := ab, collection := col, hasDel := false } := by unfold clsIn; rw [hC] <;> rfl
  refine Att.call_fn (binds := [("self", .ref x), ("place", v)]) X hlim ho hcd hroom (BindsTo.of_eq (by first | rfl | with_unfolding_all rfl)) (by first | rfl | decide | with_unfolding_all rfl) (fun s₁ IC => ?_) rfl rfl rfl
  obtain ⟨h₁, tk₁, rfl⟩ := IC.toInCall.same
  have k : ∀ b o, s.heap.get? b = some o → h₁.get? b = some o := IC.toInCall.keep
  have hn := IC.toInCall.ns
  have hxL : s.heap.objs.size ≠ x := Nat.ne_of_gt (Heap.lt_size hx)
  have X₁ : K.In h₁ := X.keeps k
  have hx₁ := k _ _ hx
  -- self.by = by
  show wpAny _ _ (execs _ _) _ _ _
  refine wpAny_execs_cons (plainObj_wpAny_Assign_Attribute ?_)
  refine ldC (v := v) hn (by first | rfl | with_unfolding_all rfl | kernel_rfl) (ldC (v := .ref x) hn (by first | rfl | with_unfolding_all rfl | kernel_rfl) ?_)
  refine set_plain X₁ (ox := excO C t0) (od := none) ⟨hx₁, rfl, rfl, trivial⟩ T.sa ?_
  refine exc_osa X₁ hx₁ hcl (show refsVE (.ref C :: bm) = true from hbm) rfl T.noN (fun h₃ tk₃ dx k₃ dn dne hx₃ hn₃ => ?_)
  show wpAny _ _ (execs _ _) _ _ _
  have z : s.heap.objs.size < h₁.objs.size := hn.lt
  exact wpAny_execs_nil (hq h₃ tk₃ dx ⟨fun b o hb e => k₃ b o hb (k b o e), hx₃, Nat.le_of_lt (Nat.lt_of_lt_of_le z dn), dne, hn₃⟩)
theorem plc_made (T : PlcTxt K mg C fI) {v : Value} (X : K.In s.heap) (hlim : s.heap.NoLimit) (hroom : A.depth + 1 < recursionLimit)
    (hq : ∀ h' tk e d, OwnMade s.heap h' e C d v → R (.ok (.ret (.ref e))) { s with heap := h', toks := tk }) :
    codeAny (model prog w) A (.call (.ref C) ⟨[v], []⟩) R s := by
  obtain ⟨nm, q, N, bs, bm, sn, sub, ab, col, dd, k0, k1, k2, k3, k5, hC, hbm⟩ := T.cls
  obtain ⟨hp, g, dr, tk, os⟩ := s
  have k : ∀ b o, hp.get? b = some o → ((hp.push (kdv_tup [v])).push (excO C hp.objs.size)).get? b = some o := fun b o e => Heap.get?_push_of_some _ (Heap.get?_push_of_some _ e)
  have hget : ((hp.push (kdv_tup [v])).push (excO C hp.objs.size)).get? (hp.objs.size + 1) = some (excO C hp.objs.size) := by heap_get
  have hnx : K.lookup (hp.objs.size + 1) = none := by
    cases e : K.lookup (hp.objs.size + 1) with
    | none => rfl
    | some o =>
      have z : hp.get? (hp.objs.size + 1) = some o := X _ _ e
      exact absurd (Nat.lt_of_succ_lt (Heap.lt_size z)) (Nat.lt_irrefl _)
  refine call_own F.excBase_ValueError (fun X => refsVE_contains X bm hbm) (X _ _ hC) (looks_findIn X T.iC) (fun self => bind_fn X self T.tC) (one_size v) ?_
  refine plc_init (s := ⟨(hp.push (kdv_tup [v])).push (excO C hp.objs.size), g, dr, tk, os⟩) T (X.keeps k) (hlim.keeps k) hget hnx ?_ fun h' tk' dx ⟨k', hx, dn, dne, hns⟩ => ?_
  · show A.depth + 1 < recursionLimit
    exact hroom
  · have old : ∀ b o, hp.get? b = some o → h'.get? b = some o := fun b o e => k' b o (Nat.ne_of_lt (Nat.lt_succ_of_lt (Heap.lt_size e))) (k b o e)
    have z : hp.objs.size + 1 + 1 ≤ dx := by
      first
        | (simpa only [Heap.size_push] using dn)
        | exact dn
        | (have q := dn; rw [Heap.size_push, Heap.size_push] at q; exact q)
    exact ⟨rfl, hq h' tk' (hp.objs.size + 1) dx ⟨old, Nat.le_succ _, ⟨_, _, hx, rfl, rfl, rfl, rfl⟩, Nat.le_trans (Nat.le_trans (Nat.le_succ _) (Nat.le_succ _)) z, dne, hns⟩⟩
end
end PlcX
end PySem
namespace L2
open PySem PySem.Spec PyProof.Rows
theorem relO_plc {v : V} {v' : Value} (r : RelV v v') (f : Str) : RelO (List.lookup f [(("place" : Str), v)]) (if f = "place" then some v' else none) := by
  by_cases hw : f = "place"
  · subst hw
    rw [if_pos rfl]
    have q : List.lookup ("place" : Str) [(("place" : Str), v)] = some v := by simp [List.lookup]
    rw [q]
    exact r
  · rw [if_neg hw]
    have qw : (f == ("place" : Str)) = false := by simpa using hw
    have q2 : List.lookup f [(("place" : Str), v)] = none := by simp [List.lookup, qw]
    rw [q2]
    trivial
section
variable {X : Cx} {C fI : Addr}
/-- InvalidText(e) -/
def tMkPlc (C : Addr) (ta : TA) : St → Hp → XK → Prop := fun σ H Q => ta σ H fun vs H1 => ∃ v, vs = [v] ∧ ∀ d, H1 d = none → Q (.ref C) (some d) (upd H1 d (.xd [(("place" : Str), v)]))
theorem pmk_plc {a : Expr} {ta : TA} {p pos : Pos} {k : Nat} (T : PySem.PlcX.PlcTxt X.K X.mg C fI) (hr : Room k X.A) (ha : PA X [a] ta) (hg : Gl X "InvalidText" := by rfl)
    (he : starEach (a :: []) X.env = (false, eval a X.env) :: starEach [] X.env := by rfl) (hpl : (backTo pos (starEach [] X.env)).any (·.1) = false := by rfl) :
    PMk X (.Call (.Name "InvalidText" p) [a] [] pos) (tMkPlc C ta) := by
  intro pins s σ H Q I h
  refine wpAny_Call_Name_kw (ld_glob I hg T.gC ?_)
  refine PySem.W.callWith_K (h₀ := X.base) I.ok.mod.kin T.kC (thn (ha.run pos pins s σ H _ I h) fun us s1 hh => ?_) he hpl
  obtain ⟨vs, H1, I1, r1, v, ev, q1⟩ := hh
  subst ev
  refine ⟨I1.kIn, ?_⟩
  cases r1 with
  | cons rv rn =>
    rename_i v' us'
    cases rn
    show wpAny _ _ (call (.ref C) [v']) _ _ _
    have hlim := I1.nolimit
    obtain ⟨hp, g, dr, tk, os⟩ := s1
    refine wpAny_call (PySem.PlcX.plc_made T I1.kIn hlim (by have := hr.dp; omega) fun h' tk' e d M => ?_)
    show MkP X pins σ Q (.ref e) ⟨h', g, dr, tk', os⟩
    obtain ⟨oe, fv, hoe, hc, hd, hdat, h1⟩ := M.obj
    have hns := M.ns
    obtain ⟨G', g1, g2⟩ := restrict h' fun b => decide (b ≠ e)
    have gk : ∀ b, b ≠ e → G'.get? b = h'.get? b := fun b hb => g1 b (decide_eq_true hb)
    have ge : G'.get? e = none := g2 e (by simp)
    have old : ∀ b o, hp.get? b = some o → G'.get? b = some o := fun b o q => (gk b (Nat.ne_of_lt (Nat.lt_of_lt_of_le (Heap.lt_size q) M.new))).trans (M.keep b o q)
    have ob : ObjOk X.prog X.w (upd H1 d (.xd [(("place" : Str), v)])) G' d (.xd [(("place" : Str), v)]) :=
      ⟨_, hns.at (fun o q => (gk d M.dne).trans q), fun f => relO_plc rv f⟩
    have J : Inv X pins σ (upd H1 d (.xd [(("place" : Str), v)])) ⟨G', g, dr, tk', os⟩ := I1.laid (t' := tk') old M.dbig ob
    refine ⟨e, oe, fv, ⟨G', g, dr, tk', os⟩, _, .ref C, some d, rfl, J, fun b o q => ?_, ge, hoe, ⟨hc, hd⟩, hdat, h1, ?_, rfl, I1.bare, raises_own T.exC T.tyC, q1 d (I1.hok.fresh M.dbig)⟩
    · by_cases hb : b = e
      · have q' : G'.get? b = some o := q
        rw [hb, ge] at q'; cases q'
      · exact (gk b hb).symm.trans q
    · rw [upd_ne (Ne.symm M.dne)]
      exact I1.hok.fresh M.new
/-- TooLarge(e) as a value: a new object, tracked with its dict -/
def tBigV (C : Addr) (ta : TA) : TE := fun σ H Q => ta σ H fun vs H1 => ∃ v, vs = [v] ∧ ∀ d e, H1 d = none → H1 e = none → e ≠ d → Q (.ref e) (upd (upd H1 d (.xd [(("limit" : Str), v)])) e (Nw.ExK (.ref C) (some d) e))
theorem pe_bigV {a : Expr} {ta : TA} {p pos : Pos} {k : Nat} (T : PySem.BigX.BigTxt X.K X.mg C fI) (hr : Room k X.A) (ha : PA X [a] ta) (hg : Gl X "TooLarge" := by rfl)
    (he : starEach (a :: []) X.env = (false, eval a X.env) :: starEach [] X.env := by rfl) (hpl : (backTo pos (starEach [] X.env)).any (·.1) = false := by rfl) :
    PE X (.Call (.Name "TooLarge" p) [a] [] pos) (tBigV C ta) := by
  refine ⟨fun pins s σ H Q I h => ?_⟩
  refine wpAny_Call_Name_kw (ld_glob I hg T.gC ?_)
  refine PySem.W.callWith_K (h₀ := X.base) I.ok.mod.kin T.kC (thn (ha.run pos pins s σ H _ I h) fun us s1 hh => ?_) he hpl
  obtain ⟨vs, H1, I1, r1, v, ev, q1⟩ := hh
  subst ev
  refine ⟨I1.kIn, ?_⟩
  cases r1 with
  | cons rv rn =>
    rename_i v' us'
    cases rn
    show wpAny _ _ (call (.ref C) [v']) _ _ _
    have hlim := I1.nolimit
    obtain ⟨hp, g, dr, tk, os⟩ := s1
    refine wpAny_call (PySem.BigX.big_made T I1.kIn hlim (by have := hr.dp; omega) fun h' tk' e d M => ?_)
    obtain ⟨oe, fv, hoe, hc, hd, hdat, h1⟩ := M.obj
    have hns := M.ns
    obtain ⟨G', g1, g2⟩ := restrict h' fun b => decide (b ≠ e)
    have gk : ∀ b, b ≠ e → G'.get? b = h'.get? b := fun b hb => g1 b (decide_eq_true hb)
    have ge : G'.get? e = none := g2 e (by simp)
    have old : ∀ b o, hp.get? b = some o → G'.get? b = some o := fun b o q => (gk b (Nat.ne_of_lt (Nat.lt_of_lt_of_le (Heap.lt_size q) M.new))).trans (M.keep b o q)
    have ob : ObjOk X.prog X.w (upd H1 d (.xd [(("limit" : Str), v)])) G' d (.xd [(("limit" : Str), v)]) :=
      ⟨_, hns.at (fun o q => (gk d M.dne).trans q), fun f => relO_big rv f⟩
    have J : Inv X pins σ (upd H1 d (.xd [(("limit" : Str), v)])) ⟨G', g, dr, tk', os⟩ := I1.laid (t' := tk') old M.dbig ob
    have en : H1 e = none := I1.hok.fresh M.new
    have nn : (upd H1 d (.xd [(("limit" : Str), v)])) e = none := by
      rw [upd_ne (Ne.symm M.dne)]
      exact en
    have kk : ∀ b o, G'.get? b = some o → h'.get? b = some o := fun b o q => by
      by_cases hb : b = e
      · rw [hb, ge] at q
        cases q
      · exact (gk b hb).symm.trans q
    exact ⟨.ref e, _, J.laidN (t' := tk') kk ge nn (Nw.exK_ok hoe ⟨hc, hd⟩ hdat), rfl, q1 d e (I1.hok.fresh M.dbig) en (Ne.symm M.dne)⟩
/-- x.limit, x an error's object that is tracked -/
def tLimK (C : Addr) (te : TE) : TE := fun σ H Q => te σ H fun x H1 => ∃ (a dd : Addr) (v : V), x = .ref a ∧ H1 a = some (Nw.ExK (.ref C) (some dd) a) ∧ H1 dd = some (.xd [(("limit" : Str), v)]) ∧ Q v H1
theorem pe_limK {e : Expr} {te : TE} {pos : Pos} (T : PySem.BigX.BigTxt X.K X.mg C fI) (he : PE X e te) (hb : attributeBase e "limit" X.env (eval e X.env) = eval e X.env := by rfl) :
    PE X (.Attribute e "limit" pos) (tLimK C te) := by
  refine ⟨fun pins s σ H Q I h => ?_⟩
  refine attr_of hb (thn (he.run pins s σ H _ I h) fun u s1 hh => ?_)
  obtain ⟨x, H1, I1, rx, a, dd, v, rfl, ea, ed, q⟩ := hh
  obtain rfl : u = Value.ref a := rx
  obtain ⟨⟨oe, vs, ha, hz, hd⟩, _⟩ := I1.hok a _ ea
  have hx : ObjOk X.prog X.w H1 s1.heap dd (.xd [(("limit" : Str), v)]) := I1.hok dd _ ed
  obtain ⟨mA, hns, hr⟩ := hx
  obtain ⟨od, ho, hl⟩ := lookIn_ns hns
  have l : List.lookup ("limit" : Str) [(("limit" : Str), v)] = some v := by simp [List.lookup]
  obtain ⟨u, hu, ru⟩ := RelO.some_of (v := v) (o := mA "limit") (by rw [← l]; exact hr "limit")
  have J : PySem.W.InstAt s1.heap a oe C (some od) := ⟨ha, hz.1, by unfold PySem.W.notCls; rw [hd] <;> rfl, by rw [hz.2]; exact ho⟩
  exact HandSPX.exc_get I1.kIn J T.ga T.gg T.exC (PySem.W.findObj_own T.hdC T.noN rfl (by rw [hl, hu])) (handed_of ru) ⟨v, H1, I1.tok _, ru, q⟩
/-- InvalidText(e) as a value: a new object, tracked with its dict -/
def tPlcV (C : Addr) (ta : TA) : TE := fun σ H Q => ta σ H fun vs H1 => ∃ v, vs = [v] ∧ ∀ d e, H1 d = none → H1 e = none → e ≠ d → Q (.ref e) (upd (upd H1 d (.xd [(("place" : Str), v)])) e (Nw.ExK (.ref C) (some d) e))
theorem pe_plcV {a : Expr} {ta : TA} {p pos : Pos} {k : Nat} (T : PySem.PlcX.PlcTxt X.K X.mg C fI) (hr : Room k X.A) (ha : PA X [a] ta) (hg : Gl X "InvalidText" := by rfl)
    (he : starEach (a :: []) X.env = (false, eval a X.env) :: starEach [] X.env := by rfl) (hpl : (backTo pos (starEach [] X.env)).any (·.1) = false := by rfl) :
    PE X (.Call (.Name "InvalidText" p) [a] [] pos) (tPlcV C ta) := by
  refine ⟨fun pins s σ H Q I h => ?_⟩
  refine wpAny_Call_Name_kw (ld_glob I hg T.gC ?_)
  refine PySem.W.callWith_K (h₀ := X.base) I.ok.mod.kin T.kC (thn (ha.run pos pins s σ H _ I h) fun us s1 hh => ?_) he hpl
  obtain ⟨vs, H1, I1, r1, v, ev, q1⟩ := hh
  subst ev
  refine ⟨I1.kIn, ?_⟩
  cases r1 with
  | cons rv rn =>
    rename_i v' us'
    cases rn
    show wpAny _ _ (call (.ref C) [v']) _ _ _
    have hlim := I1.nolimit
    obtain ⟨hp, g, dr, tk, os⟩ := s1
    refine wpAny_call (PySem.PlcX.plc_made T I1.kIn hlim (by have := hr.dp; omega) fun h' tk' e d M => ?_)
    obtain ⟨oe, fv, hoe, hc, hd, hdat, h1⟩ := M.obj
    have hns := M.ns
    obtain ⟨G', g1, g2⟩ := restrict h' fun b => decide (b ≠ e)
    have gk : ∀ b, b ≠ e → G'.get? b = h'.get? b := fun b hb => g1 b (decide_eq_true hb)
    have ge : G'.get? e = none := g2 e (by simp)
    have old : ∀ b o, hp.get? b = some o → G'.get? b = some o := fun b o q => (gk b (Nat.ne_of_lt (Nat.lt_of_lt_of_le (Heap.lt_size q) M.new))).trans (M.keep b o q)
    have ob : ObjOk X.prog X.w (upd H1 d (.xd [(("place" : Str), v)])) G' d (.xd [(("place" : Str), v)]) :=
      ⟨_, hns.at (fun o q => (gk d M.dne).trans q), fun f => relO_plc rv f⟩
    have J : Inv X pins σ (upd H1 d (.xd [(("place" : Str), v)])) ⟨G', g, dr, tk', os⟩ := I1.laid (t' := tk') old M.dbig ob
    have en : H1 e = none := I1.hok.fresh M.new
    have nn : (upd H1 d (.xd [(("place" : Str), v)])) e = none := by
      rw [upd_ne (Ne.symm M.dne)]
      exact en
    have kk : ∀ b o, G'.get? b = some o → h'.get? b = some o := fun b o q => by
      by_cases hb : b = e
      · rw [hb, ge] at q
        cases q
      · exact (gk b hb).symm.trans q
    exact ⟨.ref e, _, J.laidN (t' := tk') kk ge nn (Nw.exK_ok hoe ⟨hc, hd⟩ hdat), rfl, q1 d e (I1.hok.fresh M.dbig) en (Ne.symm M.dne)⟩
/-- x.place, x an error's object that is tracked -/
def tPlaceK (C : Addr) (te : TE) : TE := fun σ H Q => te σ H fun x H1 => ∃ (a dd : Addr) (v : V), x = .ref a ∧ H1 a = some (Nw.ExK (.ref C) (some dd) a) ∧ H1 dd = some (.xd [(("place" : Str), v)]) ∧ Q v H1
theorem pe_placeK {e : Expr} {te : TE} {pos : Pos} (T : PySem.PlcX.PlcTxt X.K X.mg C fI) (he : PE X e te) (hb : attributeBase e "place" X.env (eval e X.env) = eval e X.env := by rfl) :
    PE X (.Attribute e "place" pos) (tPlaceK C te) := by
  refine ⟨fun pins s σ H Q I h => ?_⟩
  refine attr_of hb (thn (he.run pins s σ H _ I h) fun u s1 hh => ?_)
  obtain ⟨x, H1, I1, rx, a, dd, v, rfl, ea, ed, q⟩ := hh
  obtain rfl : u = Value.ref a := rx
  obtain ⟨⟨oe, vs, ha, hz, hd⟩, _⟩ := I1.hok a _ ea
  have hx : ObjOk X.prog X.w H1 s1.heap dd (.xd [(("place" : Str), v)]) := I1.hok dd _ ed
  obtain ⟨mA, hns, hr⟩ := hx
  obtain ⟨od, ho, hl⟩ := lookIn_ns hns
  have l : List.lookup ("place" : Str) [(("place" : Str), v)] = some v := by simp [List.lookup]
  obtain ⟨u, hu, ru⟩ := RelO.some_of (v := v) (o := mA "place") (by rw [← l]; exact hr "place")
  have J : PySem.W.InstAt s1.heap a oe C (some od) := ⟨ha, hz.1, by unfold PySem.W.notCls; rw [hd] <;> rfl, by rw [hz.2]; exact ho⟩
  exact HandSPX.exc_get I1.kIn J T.ga T.gg T.exC (PySem.W.findObj_own T.hdC T.noN rfl (by rw [hl, hu])) (handed_of ru) ⟨v, H1, I1.tok _, ru, q⟩
end
end L2
namespace Nw
open PySem PySem.Spec PyProof.Rows L2
/-- an error's object of the class D at a, tracked -/
def ErrAt (H : Hp) (a D : Addr) : Prop := H a = some (ExO (.ref D) a) ∨ ∃ d, H a = some (ExK (.ref D) d a) ∧ ∀ dx, d = some dx → ∃ fs, H dx = some (.xd fs)
theorem ErrAt.up {H H' : Hp} {a D : Addr} (h : ErrAt H a D) (e : Ex H H') : ErrAt H' a D := by
  rcases h with h | ⟨d, h1, h2⟩
  · exact .inl (e _ _ h)
  · exact .inr ⟨d, e _ _ h1, fun dx hd => by
      obtain ⟨fs, h3⟩ := h2 dx hd
      exact ⟨fs, e _ _ h3⟩⟩
/-- isinstance(x, c), x an error's object -/
def rIsV (K : PySem.W.Frag) : List V → Hp → VK → Prop := fun xs H Q => ∃ (a D : Addr) (c : V) (cv : Value) (b : Bool), xs = [.ref a, c] ∧ ErrAt H a D ∧ ExcC K D ∧ (∀ u, RelV c u → u = cv) ∧ PySem.W.kitOne K (.ref D) cv = some b ∧ Q (.bl b) H
theorem instV {X : Cx} {pins : List (Addr × Obj)} {σ : L2.St} {H : Hp} {s : Shared} (I : Inv X pins σ H s) {a D : Addr} (h : ErrAt H a D) : ∃ oe od, PySem.W.InstAt s.heap a oe D od := by
  rcases h with h | ⟨d, h1, h2⟩
  · obtain ⟨⟨oe, vs, k1, ⟨k2, k3⟩, k4, _⟩, _⟩ := I.hok a _ h
    exact ⟨oe, none, k1, k2, by unfold PySem.W.notCls; rw [k4], by rw [k3]; trivial⟩
  · exact instK I h1 h2
theorem call_isV {X : Cx} (K : PySem.W.Frag) (hK : X.K = K := by rfl) : CallR X (.builtin "isinstance") (rIsV K) := by
  subst hK
  intro pins s σ H xs us Q I r h
  obtain ⟨a, D, c, cv, b, rfl, ha, C, hcv, e, q⟩ := h
  cases r with
  | cons rx rr =>
    cases rr with
    | cons rt rr =>
      cases rr
      cases rx
      have ec := hcv _ rt
      subst ec
      obtain ⟨oe, od, J⟩ := instV I ha
      have hcl : (PySem.W.clsIn X.K D).isSome = true := by
        obtain ⟨cd, hc, _⟩ := PySem.W.any_some C.hd
        rw [hc]
        rfl
      exact PySem.W.kia_one (PySem.W.kitx_exc hcl C.hg C.hk C.hs C.ha C.hn C.ht C.hm) I.kIn J e (fun z => nomatch z) fun tk => ⟨.bl b, H, I.kept (t' := tk) fun _ _ z => z, rfl, q⟩
end Nw
/-! A family of error classes: one base, its classes. -/
namespace Nw
open PySem PySem.Spec PyProof.Rows L2
def errTail : List Value := [.type "ValueError", .type "Exception", .type "BaseException", .type "object"]
/-- the class at C, of the family of C0 -/
def MroAt (K : PySem.W.Frag) (C0 C : Addr) : Prop := ∃ cd, PySem.W.clsIn K C = some cd ∧ cd.hasDict = true ∧ cd.mro = .ref C :: (if C = C0 then errTail else .ref C0 :: errTail)
section
variable {K : PySem.W.Frag} {C0 C D S : Addr}
theorem mroAt_base {nm q : Str} {N : Addr} {bs : List Value} {sn : List Str} {sub : List Value} {ab : Bool} {col : Option Bool} {dd : Option Addr} {m0 m1 m2 m3 m5 : Option Value}
    (h : K.lookup C = some (excClassObj nm q C N bs errTail true sn sub ab col dd m0 m1 m2 m3 m5 "ValueError.__new__")) : MroAt K C C := by
  refine ⟨{ name := nm, bases := bs, mro := .ref C :: errTail, ns := N, qualname := q, hasDict := true, slotNames := sn, subclasses := sub, abstract := ab, collection := col, hasDel := false }, ?_, rfl, ?_⟩
  · unfold PySem.W.clsIn
    rw [h] <;> rfl
  · rw [if_pos rfl]
theorem mroAt_of {nm q : Str} {N : Addr} {bs : List Value} {sn : List Str} {sub : List Value} {ab : Bool} {col : Option Bool} {dd : Option Addr} {m0 m1 m2 m3 m5 : Option Value}
    (h : K.lookup C = some (excClassObj nm q C N bs (.ref C0 :: errTail) true sn sub ab col dd m0 m1 m2 m3 m5 "ValueError.__new__")) (hn : C ≠ C0) : MroAt K C0 C := by
  refine ⟨{ name := nm, bases := bs, mro := .ref C :: .ref C0 :: errTail, ns := N, qualname := q, hasDict := true, slotNames := sn, subclasses := sub, abstract := ab, collection := col, hasDel := false }, ?_, rfl, ?_⟩
  · unfold PySem.W.clsIn
    rw [h] <;> rfl
  · rw [if_neg hn]
theorem mro_in (h : MroAt K C0 C) (v : Value) : PySem.W.mroIn K C v = some ((Value.ref C :: (if C = C0 then errTail else .ref C0 :: errTail)).contains v) := by
  obtain ⟨cd, h1, _, h3⟩ := h
  unfold PySem.W.mroIn
  rw [h1]
  show (if cd.mro.isEmpty = true then none else some (cd.mro.contains v)) = _
  rw [h3]
  rfl
theorem mro_type (h : MroAt K C0 C) {t : String} (ht : errTail.contains (.type t) = true) : PySem.W.mroIn K C (.type t) = some true := by
  rw [mro_in h]
  congr 1
  rw [List.contains_cons]
  have e : (if C = C0 then errTail else .ref C0 :: errTail).contains (Value.type t) = true := by
    by_cases q : C = C0
    · rw [if_pos q]; exact ht
    · rw [if_neg q, List.contains_cons, ht, Bool.or_true]
  rw [e, Bool.or_true]
theorem mro_ref (h : MroAt K C0 D) : PySem.W.mroIn K D (.ref S) = some (decide (D = S ∨ S = C0)) := by
  rw [mro_in h]
  congr 1
  have tl : errTail.contains (Value.ref S) = false := rfl
  have e1 : (Value.ref S == Value.ref D) = decide (D = S) := by
    by_cases q : D = S
    · rw [q, decide_eq_true rfl]; exact beq_self_eq_true _
    · rw [decide_eq_false q]; exact beq_eq_false_iff_ne.mpr fun z => q (Value.ref.inj z).symm
  rw [List.contains_cons, e1]
  by_cases q : D = C0
  · rw [if_pos q, tl, Bool.or_false, decide_eq_decide]
    exact ⟨.inl, fun z => z.elim id fun z => q.trans z.symm⟩
  · have e2 : (Value.ref S == Value.ref C0) = decide (S = C0) := by
      by_cases q : S = C0
      · rw [q, decide_eq_true rfl]; exact beq_self_eq_true _
      · rw [decide_eq_false q]; exact beq_eq_false_iff_ne.mpr fun z => q (Value.ref.inj z)
    rw [if_neg q, List.contains_cons, e2, tl, Bool.or_false, ← Bool.decide_or]
theorem kit_ref (h : MroAt K C0 D) (g : MroAt K C0 S) (t : PySem.W.typeIn K (.ref S) = some (.type "type")) : PySem.W.kitOne K (.ref D) (.ref S) = some (decide (D = S ∨ S = C0)) := by
  unfold PySem.W.kitOne
  by_cases q : D = S
  · rw [if_pos (by rw [q]; exact beq_self_eq_true _), decide_eq_true (.inl q)]
  · rw [if_neg (by intro z; exact q (Value.ref.inj (eq_of_beq z)))]
    unfold PySem.W.kitCls
    have e : ((PySem.W.clsIn K S).isSome && PySem.W.typeIn K (.ref S) == some (.type "type")) = true := by
      obtain ⟨cd, h1, _⟩ := g
      rw [h1, t]
      rfl
    show (if ((PySem.W.clsIn K S).isSome && PySem.W.typeIn K (.ref S) == some (.type "type")) = true then PySem.W.subIn K (.ref D) (.ref S) else none) = _
    rw [if_pos e]
    exact mro_ref h
theorem kit_val (h : MroAt K C0 D) : PySem.W.kitOne K (.ref D) (.type "ValueError") = some true := by
  unfold PySem.W.kitOne
  rw [if_neg (by intro z; exact nomatch (eq_of_beq z))]
  unfold PySem.W.kitCls
  show (if PySem.W.kitMeta "ValueError" = true then PySem.W.subIn K (.ref D) (.type "ValueError") else none) = _
  rw [if_pos (by rfl)]
  exact mro_type h (by rfl)
theorem excC_of (h : MroAt K C0 D) (hg : PySem.W.findIn K (.ref D) "__getattribute__" = some (some (.builtin "BaseException.__getattribute__"))) (hk : PySem.W.findIn K (.ref D) "__getattr__" = some none)
    (ha : PySem.W.findIn K (.ref D) "__class__" = some (some (.builtin "object.__class__"))) (hn : PySem.W.specialIn K (.builtin "object.__class__") "__get__" = some (some (.builtin "getset_descriptor.__get__")))
    (ht : PySem.W.takesIn K (.builtin "object.__class__") = some true) : L2.ExcC K D :=
  ⟨hg, hk, mro_type h (by rfl), by
    obtain ⟨cd, h1, h2, _⟩ := h
    unfold PySem.W.hasDictIn
    rw [h1]
    exact h2, ha, hn, ht, mro_type h (by rfl)⟩
/-- addresses apart, by their places -/
theorem apart_at {cs : List Addr} (h : cs.Nodup) {i j : Nat} (hi : i < cs.length) (hj : j < cs.length) : cs.getD i 0 = cs.getD j 0 ↔ i = j := by
  have a : cs.getD i 0 = cs[i] := by rw [List.getD_eq_getElem?_getD, List.getElem?_eq_getElem hi]; rfl
  have b : cs.getD j 0 = cs[j] := by rw [List.getD_eq_getElem?_getD, List.getElem?_eq_getElem hj]; rfl
  rw [a, b]
  constructor
  · intro e
    rcases Nat.lt_trichotomy i j with q | q | q
    · exact absurd e (List.pairwise_iff_getElem.mp h i j hi hj q)
    · exact q
    · exact absurd e.symm (List.pairwise_iff_getElem.mp h j i hj hi q)
  · intro e
    subst e
    rfl
end
end Nw
/-! How long data is when shown: by the number of its nodes and the longest leaf. -/
namespace Nw
open PySem PySem.Spec PyProof.Rows L2
mutual
/-- each leaf's text has at most B signs -/
def lf (B : Nat) : PyData → Bool
  | .none | .bool _ => true
  | .int i => decide ((PyData.shown (.int i)).length ≤ B)
  | .str x => decide ((PyData.shown (.str x)).length ≤ B)
  | .list xs | .tuple xs => lfAll B xs
  | .dict kvs => lfKv B kvs
def lfAll (B : Nat) : List PyData → Bool
  | [] => true
  | x :: xs => lf B x && lfAll B xs
def lfKv (B : Nat) : List (PyData × PyData) → Bool
  | [] => true
  | (k, v) :: r => lf B k && lf B v && lfKv B r
end
mutual
def nodes : PyData → Nat
  | .none | .bool _ | .int _ | .str _ => 1
  | .list xs | .tuple xs => 1 + nodesAll xs
  | .dict kvs => 1 + nodesKv kvs
def nodesAll : List PyData → Nat
  | [] => 0
  | x :: xs => nodes x + nodesAll xs
def nodesKv : List (PyData × PyData) → Nat
  | [] => 0
  | (k, v) :: r => nodes k + nodes v + nodesKv r
end
mutual
theorem len_lf (B : Nat) (hB : 8 ≤ B) : ∀ d : PyData, lf B d = true → d.shown.length + 4 ≤ (B + 4) * nodes d
  | .none, _ => by
    have e : (PyData.shown .none).length = 4 := rfl
    simp only [nodes]
    omega
  | .bool b, _ => by
    have e : (PyData.shown (.bool b)).length ≤ 5 := by cases b <;> decide
    simp only [nodes]
    omega
  | .int i, h => by
    have e : (PyData.shown (.int i)).length ≤ B := by simpa only [lf, decide_eq_true_eq] using h
    simp only [nodes]
    omega
  | .str x, h => by
    have e : (PyData.shown (.str x)).length ≤ B := by simpa only [lf, decide_eq_true_eq] using h
    simp only [nodes]
    omega
  | .list xs, h => by
    have h1 := len_lfAll B hB xs (by simpa only [lf] using h)
    have h2 := listText_len_le (PyData.shownAll xs)
    have h3 := PyData.shownAll_length xs
    simp only [PyData.shown, nodes]
    rw [Nat.mul_add]
    omega
  | .tuple xs, h => by
    have h1 := len_lfAll B hB xs (by simpa only [lf] using h)
    have h2 := tupleText_len_le (PyData.shownAll xs)
    have h3 := PyData.shownAll_length xs
    simp only [PyData.shown, nodes]
    rw [Nat.mul_add]
    omega
  | .dict kvs, h => by
    have h1 := len_lfKv B hB kvs (by simpa only [lf] using h)
    have h2 := dictText_len_le (PyData.shownKv kvs)
    have h3 := PyData.shownKv_length kvs
    simp only [PyData.shown, nodes]
    rw [Nat.mul_add]
    omega
theorem len_lfAll (B : Nat) (hB : 8 ≤ B) : ∀ xs : List PyData, lfAll B xs = true → ((PyData.shownAll xs).map (·.length)).sum + 4 * xs.length ≤ (B + 4) * nodesAll xs
  | [], _ => by
    simp only [PyData.shownAll, nodesAll, List.map_nil, List.sum_nil, List.length_nil]
    omega
  | x :: xs, h => by
    have h' : lf B x = true ∧ lfAll B xs = true := by simpa only [lfAll, Bool.and_eq_true] using h
    have h1 := len_lf B hB x h'.1
    have h2 := len_lfAll B hB xs h'.2
    have h3 := Nat.mul_add (B + 4) (nodes x) (nodesAll xs)
    simp only [PyData.shownAll, nodesAll, List.map_cons, List.sum_cons, List.length_cons]
    omega
theorem len_lfKv (B : Nat) (hB : 8 ≤ B) : ∀ kvs : List (PyData × PyData), lfKv B kvs = true → ((PyData.shownKv kvs).map (·.length)).sum + 2 * kvs.length ≤ (B + 4) * nodesKv kvs
  | [], _ => by
    simp only [PyData.shownKv, nodesKv, List.map_nil, List.sum_nil, List.length_nil]
    omega
  | (k, v) :: r, h => by
    have h' : (lf B k = true ∧ lf B v = true) ∧ lfKv B r = true := by simpa only [lfKv, Bool.and_eq_true] using h
    have h1 := len_lf B hB k h'.1.1
    have h2 := len_lf B hB v h'.1.2
    have h3 := len_lfKv B hB r h'.2
    have e2 : (k.shown ++ ": " ++ v.shown).length = k.shown.length + 2 + v.shown.length := by
      rw [strLen_append, strLen_append]
      rfl
    have h5 := Nat.mul_add (B + 4) (nodes k + nodes v) (nodesKv r)
    have h6 := Nat.mul_add (B + 4) (nodes k) (nodes v)
    simp only [PyData.shownKv, nodesKv, List.map_cons, List.sum_cons, List.length_cons]
    rw [e2]
    omega
end
theorem fits_lf {B n : Nat} (hB : 8 ≤ B) {d : PyData} (h : lf B d = true) (hn : nodes d ≤ n) (hz : (B + 4) * n ≤ 16000000) : d.shown.length ≤ sizeLine := by
  have h1 := len_lf B hB d h
  have h2 := Nat.mul_le_mul_left (B + 4) hn
  rw [sizeLine_eq]
  omega
theorem lf_int {i : Int} {k : Nat} (hk : 0 < k) (h : i.natAbs < 10 ^ k) : lf (k + 1) (.int i) = true := by
  simp only [lf, decide_eq_true_eq]
  have e := int_text_length_le10 hk h
  show (Str.ofString (toString i)).length ≤ k + 1
  rw [PySem.ofString_length]
  exact e
theorem lfAll_of {B : Nat} : ∀ {xs : List PyData}, (∀ x ∈ xs, lf B x = true) → lfAll B xs = true
  | [], _ => rfl
  | x :: xs, h => by
    simp only [lfAll, h x (by simp), lfAll_of fun y hy => h y (List.mem_cons_of_mem _ hy), Bool.and_self]
theorem showAll_of : ∀ {xs : List PyData}, (∀ x ∈ xs, x.showable = true) → PyData.showableAll xs = true
  | [], _ => rfl
  | x :: xs, h => by
    simp only [PyData.showableAll, h x (by simp), showAll_of fun y hy => h y (List.mem_cons_of_mem _ hy), Bool.and_self]
theorem nodesAll_of {n : Nat} : ∀ {xs : List PyData}, (∀ x ∈ xs, nodes x ≤ n) → nodesAll xs ≤ n * xs.length
  | [], _ => by simp [nodesAll]
  | x :: xs, h => by
    have h1 := h x (by simp)
    have h2 := nodesAll_of fun y hy => h y (List.mem_cons_of_mem _ hy)
    simp only [nodesAll, List.length_cons, Nat.mul_succ]
    omega
theorem depthAll_of {n : Nat} : ∀ {xs : List PyData}, (∀ x ∈ xs, x.depth ≤ n) → PyData.depthAll xs ≤ n
  | [], _ => by simp [PyData.depthAll]
  | x :: xs, h => by
    have h1 := h x (by simp)
    have h2 := depthAll_of fun y hy => h y (List.mem_cons_of_mem _ hy)
    simp only [PyData.depthAll]
    omega
/-- what repr asks: shown in a few leaves -/
structure Sh (B n k : Nat) (d : PyData) : Prop where
  s : d.showable = true
  l : lf B d = true
  n : nodes d ≤ n
  k : d.depth ≤ k
theorem Sh.fit {B n k : Nat} {d : PyData} (h : Sh B n k d) (hB : 8 ≤ B) (hz : (B + 4) * n ≤ 16000000) : d.shown.length ≤ sizeLine := fits_lf hB h.l h.n hz
theorem Sh.list {B n k m : Nat} {xs : List PyData} (h : ∀ x ∈ xs, Sh B n k x) (hm : xs.length ≤ m) : Sh B (1 + n * m) (k + 1) (.list xs) := by
  refine ⟨?_, ?_, ?_, ?_⟩
  · simp only [PyData.showable, showAll_of fun x hx => (h x hx).s]
  · simp only [lf, lfAll_of fun x hx => (h x hx).l]
  · have h1 := nodesAll_of fun x hx => (h x hx).n
    have h2 := Nat.mul_le_mul_left n hm
    simp only [nodes]
    omega
  · have h1 := depthAll_of fun x hx => (h x hx).k
    simp only [PyData.depth]
    omega
theorem Sh.tuple {B n k m : Nat} {xs : List PyData} (h : ∀ x ∈ xs, Sh B n k x) (hm : xs.length ≤ m) : Sh B (1 + n * m) (k + 1) (.tuple xs) := by
  refine ⟨?_, ?_, ?_, ?_⟩
  · simp only [PyData.showable, showAll_of fun x hx => (h x hx).s]
  · simp only [lf, lfAll_of fun x hx => (h x hx).l]
  · have h1 := nodesAll_of fun x hx => (h x hx).n
    have h2 := Nat.mul_le_mul_left n hm
    simp only [nodes]
    omega
  · have h1 := depthAll_of fun x hx => (h x hx).k
    simp only [PyData.depth]
    omega
theorem Sh.mono {B C n m k j : Nat} {d : PyData} (h : Sh B n k d) (hn : n ≤ m) (hk : k ≤ j) : Sh B m j d := ⟨h.s, h.l, Nat.le_trans h.n hn, Nat.le_trans h.k hk⟩
theorem Sh.int {i : Int} {k : Nat} (hk : 0 < k) (h2 : i.natAbs < 2 ^ 1920) (h : i.natAbs < 10 ^ k) : Sh (k + 1) 1 0 (.int i) := by
  refine ⟨?_, lf_int hk h, by simp only [nodes]; omega, by simp only [PyData.depth]; omega⟩
  simp only [PyData.showable, decide_eq_true_eq]
  by_cases hne : i.natAbs = 0
  · rw [hne]
    decide
  · exact (Nat.log2_lt hne).mpr h2
end Nw
/-! Fillings: what the looks at them answer; lines with numbers, steps, rows of states. -/
namespace Nw
open PySem PySem.Spec PyProof.Rows L2
/-! ### an item of a list, set anew -/
def rGetL (K : PySem.W.Frag) : V → V → Hp → VK → Prop := fun o i H Q => ∃ p xs k v, o = .ref p ∧ i = .int k ∧ 0 ≤ k ∧ SqL K H p xs ∧ xs[k.toNat]? = some v ∧ Q v H
theorem get_list {X : Cx} (K : PySem.W.Frag) (hK : X.K = K := by rfl) : PGet X (rGetL K) := by
  subst hK
  intro pins s σ H o i ov iv Q I ro ri h
  obtain ⟨p, xs, k, v, rfl, rfl, h0, hq, he, q⟩ := h
  cases ro
  obtain ⟨t, rfl⟩ := ri
  obtain ⟨its, r, pl, hz⟩ := I.list hq
  obtain ⟨u, ew, rw'⟩ := r.get he
  have hl := r.length
  have hn := line63
  have hk : k.toNat < xs.length := (List.getElem?_eq_some_iff.mp he).1
  exact wpAny_getItem_list pl.isList h0 (by omega) (by simpa using ew) ⟨v, H, I, rw', q⟩
/-! ### lines with numbers -/
abbrev NL := (Int × Int) × Int
def dNum (l : NL) : PyData := .tuple [.int l.1.1, .int l.1.2, .int l.2]
def stp (vals acc : List Int) (l : NL) : List Int := acc.set l.1.2.toNat (acc.getD l.1.2.toNat 0 + l.2 * vals.getD l.1.1.toNat 0)
def mvs (vals : List Int) (ls : List NL) (acc : List Int) : List Int := ls.foldl (stp vals) acc
theorem mvs_snoc (vals : List Int) (ls : List NL) (acc : List Int) (l : NL) : mvs vals (ls ++ [l]) acc = stp vals (mvs vals ls acc) l := by
  unfold mvs
  rw [List.foldl_append]
  rfl
theorem mvs_app (vals : List Int) (ls ms : List NL) (acc : List Int) : mvs vals (ls ++ ms) acc = mvs vals ms (mvs vals ls acc) := by
  unfold mvs
  rw [List.foldl_append]
theorem mvs_len (vals : List Int) : ∀ (ls : List NL) (acc : List Int), (mvs vals ls acc).length = acc.length
  | [], _ => rfl
  | l :: ls, acc => by
    show (mvs vals ls (stp vals acc l)).length = acc.length
    rw [mvs_len vals ls]
    unfold stp
    rw [List.length_set]
def mv (n : Nat) (ls : List NL) (vals : List Int) : List Int := mvs vals ls (List.replicate n 0)
theorem mv_len {n : Nat} {ls : List NL} {vals : List Int} : (mv n ls vals).length = n := by
  unfold mv
  rw [mvs_len, List.length_replicate]
def Bd (M x : Int) : Prop := -M ≤ x ∧ x ≤ M
theorem Bd.mono {M N x : Int} (h : Bd M x) (l : M ≤ N) : Bd N x := ⟨by have := h.1; omega, by have := h.2; omega⟩
theorem bd_mul {M a b : Int} (ha : Bd 1000000 a) (hb : Bd M b) (hM : 0 ≤ M) : Bd (1000000 * M) (a * b) := by
  have h1 : a.natAbs ≤ 1000000 := by have := ha.1; have := ha.2; omega
  have h2 : b.natAbs ≤ M.toNat := by have := hb.1; have := hb.2; omega
  have h3 := Nat.mul_le_mul h1 h2
  rw [← Int.natAbs_mul] at h3
  have e : ((1000000 * M.toNat : Nat) : Int) = 1000000 * M := by omega
  unfold Bd
  omega
theorem mvs_bd {vals : List Int} {M : Int} (hM : 0 ≤ M) (hv : ∀ v ∈ vals, Bd M v) : ∀ (ls : List NL) (acc : List Int) (A : Int), 0 ≤ A → (∀ l ∈ ls, Bd 1000000 l.2) → (∀ a ∈ acc, Bd A a) →
    ∀ a ∈ mvs vals ls acc, Bd (A + ls.length * (1000000 * M)) a
  | [], acc, A, hA, _, ha => fun a h => (ha a h).mono (by simp only [List.length_nil]; omega)
  | l :: ls, acc, A, hA, hl, ha => by
    have key : ∀ a ∈ stp vals acc l, Bd (A + 1000000 * M) a := by
      intro a h
      unfold stp at h
      rcases List.mem_or_eq_of_mem_set h with h | rfl
      · exact (ha a h).mono (by omega)
      · have h1 : Bd A (acc.getD l.1.2.toNat 0) := by
          rw [List.getD_eq_getElem?_getD]
          cases e : acc[l.1.2.toNat]? with
          | none => exact ⟨by simp only [Option.getD_none]; omega, by simp only [Option.getD_none]; omega⟩
          | some x => exact ha x (List.mem_of_getElem? e)
        have h2 : Bd M (vals.getD l.1.1.toNat 0) := by
          rw [List.getD_eq_getElem?_getD]
          cases e : vals[l.1.1.toNat]? with
          | none => exact ⟨by simp only [Option.getD_none]; omega, by simp only [Option.getD_none]; omega⟩
          | some x => exact hv x (List.mem_of_getElem? e)
        have h3 := bd_mul (hl l (by simp)) h2 hM
        have := h1.1
        have := h1.2
        have := h3.1
        have := h3.2
        unfold Bd
        omega
    have ih := mvs_bd hM hv ls (stp vals acc l) (A + 1000000 * M) (by omega) (fun x hx => hl x (List.mem_cons_of_mem _ hx)) key
    intro a h
    refine (ih a h).mono ?_
    rw [List.length_cons]
    have e : ((ls.length + 1 : Nat) : Int) * (1000000 * M) = ls.length * (1000000 * M) + 1000000 * M := by
      rw [Int.natCast_add, Int.add_mul]
      omega
    omega
/-! ### fillings -/
structure Fl where
  xs : List Int
  ss : List (List Int)
  deriving DecidableEq
def Fl.d (f : Fl) : PyData := .tuple [dInts f.xs, dRows f.ss]
def NumOk (x : Int) : Prop := x ≠ 0 ∧ Bd 1000000 x
structure Fl.Ok (u : Wb) (f : Fl) : Prop where
  len : f.xs.length = u.ps.length
  num : ∀ x ∈ f.xs, NumOk x
  rows : f.ss.map List.length = u.ns.map List.length
  rnum : ∀ r ∈ f.ss, ∀ x ∈ r, NumOk x
theorem Fl.Ok.slen {u : Wb} {f : Fl} (h : f.Ok u) : f.ss.length = u.ns.length := by
  have e := congrArg List.length h.rows
  rw [List.length_map, List.length_map] at e
  exact e
theorem Fl.Ok.rlen {u : Wb} {f : Fl} (h : f.Ok u) {k : Nat} {r s : List Int} (hr : f.ss[k]? = some r) (hs : u.ns[k]? = some s) : r.length = s.length := by
  have e := congrArg (fun l => l[k]?) h.rows
  simp only [List.getElem?_map, hr, hs, Option.map_some] at e
  exact Option.some.inj e
/-- what the looks answer -/
def intsB : PyData → Int → Bool
  | .list ds, m => decide ((ds.length : Int) = m) && ds.all isInt
  | _, _ => false
def rowsB : PyData → Int → Bool
  | .list ds, m => decide (ds.length ≤ 60) && ds.all fun d => intsB d m
  | _, _ => false
def noB : PyData → Bool
  | .int i => decide (i ≠ 0) && decide ((if i < 0 then -i else i) ≤ 1000000)
  | _ => false
def lineB : PyData → Int → Bool
  | .list ds, m => intsB (.list ds) m && ds.all noB
  | _, _ => false
def fillB (u : Wb) : PyData → Bool
  | .tuple [a, .list rs] => lineB a u.ps.length && (decide (rs.length = u.ns.length) && (rs.zip u.ns).all fun p => lineB p.1 p.2.length)
  | _ => false
theorem intsB_of {r : List Int} {m : Int} (h : (r.length : Int) = m) : intsB (dInts r) m = true := by
  unfold dInts intsB
  simp only [List.length_map, h, decide_true, Bool.true_and, List.all_map, List.all_eq_true]
  intro x _
  rfl
theorem rowsB_of {rs : List (List Int)} {m : Int} (h : ∀ r ∈ rs, (r.length : Int) = m) (h2 : rs.length ≤ 60) : rowsB (dRows rs) m = true := by
  unfold dRows rowsB
  simp only [List.length_map, h2, decide_true, Bool.true_and, List.all_map, List.all_eq_true]
  intro x hx
  exact intsB_of (h x hx)
theorem lineB_of {r : List Int} {m : Int} (h : (r.length : Int) = m) (h2 : ∀ x ∈ r, NumOk x) : lineB (dInts r) m = true := by
  have h3 := intsB_of h
  unfold dInts at h3 ⊢
  unfold lineB
  simp only [h3, Bool.true_and, List.all_map, List.all_eq_true]
  intro x hx
  have h4 := h2 x hx
  have h5 := h4.2.1
  have h6 := h4.2.2
  simp only [Function.comp, noB, decide_eq_true h4.1, Bool.true_and, decide_eq_true_eq]
  split <;> omega
theorem zip_all {α β : Type} {p : α × β → Bool} {as : List α} {bs : List β} (h : ∀ (k : Nat) (a : α) (b : β), as[k]? = some a → bs[k]? = some b → p (a, b) = true) : (as.zip bs).all p = true := by
  rw [List.all_eq_true]
  rintro ⟨a, b⟩ hx
  obtain ⟨k, hk⟩ := List.mem_iff_getElem?.mp hx
  rw [List.getElem?_zip_eq_some] at hk
  exact h k a b hk.1 hk.2
theorem Fl.Ok.fill {u : Wb} {f : Fl} (h : f.Ok u) : fillB u f.d = true := by
  have h1 := lineB_of (m := u.ps.length) (by rw [h.len]) h.num
  unfold Fl.d dRows fillB
  simp only [h1, List.length_map, h.slen, decide_true, Bool.true_and]
  refine zip_all fun k a b ha hb => ?_
  obtain ⟨r, hr, rfl⟩ := map_at ha
  exact lineB_of (by rw [h.rlen hr hb]) (h.rnum r (List.mem_of_getElem? hr))
/-- a filling as it stands -/
theorem Fl.at {K : PySem.W.Frag} {H : Hp} {f : Fl} {v : V} (h : Da K H f.d v) : ∃ t x1 x2, v = .ref t ∧ SqT K H t [x1, x2] ∧ Da K H (dInts f.xs) x1 ∧ Da K H (dRows f.ss) x2 := by
  obtain ⟨t, xs, rfl, hS, x1, r1, rfl, g1, x2, r2, rfl, g2, rfl⟩ := h
  exact ⟨t, x1, x2, rfl, .inl (.inl hS), g1, g2⟩
/-! ### the numbered lines -/
def Fl.nums (f : Fl) : List Int := f.xs ++ f.ss.flatten
def nl (u : Wb) (f : Fl) : List NL := u.lines.zip f.nums
def blkAt (n : Int) (i : Nat) (r s : List Int) : List NL := (pushedAt n i r).zip s
def nlFrom (n : Int) : Nat → List (List Int) → List (List Int) → List NL
  | i, r :: rs, s :: ss => blkAt n i r s ++ nlFrom n (i + 1) rs ss
  | _, _, _ => []
theorem zip_pushed (n : Int) : ∀ (rs ss : List (List Int)) (i : Nat), ss.map List.length = rs.map List.length → (pushedFrom n i rs).zip ss.flatten = nlFrom n i rs ss
  | [], ss, i, _ => by simp [pushedFrom, nlFrom]
  | r :: rs, [], i, h => by simp at h
  | r :: rs, s :: ss, i, h => by
    simp only [List.map_cons, List.cons.injEq] at h
    simp only [pushedFrom, nlFrom, List.flatten_cons]
    rw [List.zip_append (by simp only [pushedAt, List.length_map]; exact h.1.symm), zip_pushed n rs ss (i + 1) h.2]
    rfl
theorem Fl.Ok.nl {u : Wb} {f : Fl} (h : f.Ok u) : nl u f = u.ps.zip f.xs ++ nlFrom u.n 0 u.ns f.ss := by
  unfold Nw.nl Wb.lines Fl.nums
  rw [List.zip_append h.len.symm, zip_pushed u.n u.ns f.ss 0 h.rows]
theorem nlFrom_take (n : Int) : ∀ (rs ss : List (List Int)) (i k : Nat) (r s : List Int), rs[k]? = some r → ss[k]? = some s →
    nlFrom n i (rs.take (k + 1)) ss = nlFrom n i (rs.take k) ss ++ blkAt n (i + k) r s
  | [], _, _, _, _, _, h, _ => by simp at h
  | _ :: _, [], _, _, _, _, _, h => by simp at h
  | a :: rs, b :: ss, i, 0, r, s, h, g => by
    obtain rfl : a = r := by simpa using h
    obtain rfl : b = s := by simpa using g
    simp [nlFrom]
  | a :: rs, b :: ss, i, k + 1, r, s, h, g => by
    have ih := nlFrom_take n rs ss (i + 1) k r s (by simpa using h) (by simpa using g)
    simp only [List.take_succ_cons, nlFrom]
    rw [ih, List.append_assoc, show i + 1 + k = i + (k + 1) by omega]
theorem nums_len {f : Fl} : f.nums.length = f.xs.length + (f.ss.map List.length).sum := by
  unfold Fl.nums
  rw [List.length_append, List.length_flatten]
theorem pushed_sum (n : Int) : ∀ (rs : List (List Int)) (i : Nat), (pushedFrom n i rs).length = (rs.map List.length).sum
  | [], _ => rfl
  | r :: rs, i => by
    simp only [pushedFrom, List.length_append, pushedAt, List.length_map, List.map_cons, List.sum_cons, pushed_sum n rs (i + 1)]
theorem Fl.Ok.nlen {u : Wb} {f : Fl} (h : f.Ok u) : f.nums.length = u.lines.length := by
  rw [nums_len, h.rows, h.len]
  unfold Wb.lines
  rw [List.length_append, pushed_sum]
theorem Fl.Ok.bd {u : Wb} {f : Fl} (h : f.Ok u) : ∀ x ∈ f.nums, NumOk x := by
  intro x hx
  rcases List.mem_append.mp hx with hx | hx
  · exact h.num x hx
  · obtain ⟨r, hr, hx⟩ := List.mem_flatten.mp hx
    exact h.rnum r hr x hx
theorem Fl.Ok.line {u : Wb} {f : Fl} (h : f.Ok u) (hu : u.Ok) : ∀ l ∈ Nw.nl u f, ((0 ≤ l.1.1 ∧ l.1.1 < u.n + (u.ns.length : Int)) ∧ (0 ≤ l.1.2 ∧ l.1.2 < u.n)) ∧ Bd 1000000 l.2 := by
  rintro ⟨a, b⟩ hl
  have h1 := List.of_mem_zip hl
  exact ⟨hu.line a h1.1, (h.bd b h1.2).2⟩
theorem Fl.Ok.nl_len {u : Wb} {f : Fl} (h : f.Ok u) (hu : u.Ok) : (Nw.nl u f).length ≤ 1500 := by
  unfold Nw.nl
  rw [List.length_zip]
  have := hu.lines_len
  omega
/-! ### rows of states -/
def rn (n : Nat) (ls : List NL) (st : List Int) (rows : List (List Int)) : List (List Int) := rows.foldl (fun acc g => acc ++ [mv n ls (acc.getLastD [] ++ g)]) [st]
theorem rn_snoc (n : Nat) (ls : List NL) (st : List Int) (rows : List (List Int)) (g : List Int) : rn n ls st (rows ++ [g]) = rn n ls st rows ++ [mv n ls ((rn n ls st rows).getLastD [] ++ g)] := by
  unfold rn
  rw [List.foldl_append]
  rfl
theorem rn_len (n : Nat) (ls : List NL) (st : List Int) (rows : List (List Int)) : ∀ k, k ≤ rows.length → (rn n ls st (rows.take k)).length = k + 1
  | 0, _ => by simp [rn]
  | k + 1, h => by
    have hk : k < rows.length := h
    rw [take_snoc (List.getElem?_eq_getElem hk), rn_snoc, List.length_append, rn_len n ls st rows k (by omega)]
    rfl
theorem getLastD_mem {α : Type} : ∀ {l : List α} {d : α}, l ≠ [] → l.getLastD d ∈ l
  | [], _, h => (h rfl).elim
  | [a], _, _ => by simp [List.getLastD]
  | a :: b :: s, d, _ => by
    rw [List.getLastD_cons]
    exact List.mem_cons_of_mem _ (getLastD_mem (l := b :: s) (by simp))
/-- how great the numbers of states grow -/
theorem rn_bd {n : Nat} {ls : List NL} {st : List Int} {rows : List (List Int)} {M : Int} (hM : 0 ≤ M) (hst : ∀ x ∈ st, Bd M x) (hr : ∀ r ∈ rows, ∀ x ∈ r, Bd M x) (hl : ∀ l ∈ ls, Bd 1000000 l.2) (hz : ls.length ≤ 1500) :
    ∀ k, k ≤ rows.length → ∀ s ∈ rn n ls st (rows.take k), ∀ x ∈ s, Bd (M * 1500000000 ^ k) x
  | 0, _, s, hs, x, hx => by
    obtain rfl : s = st := by simpa [rn] using hs
    simpa using hst x hx
  | k + 1, h, s, hs, x, hx => by
    have hk : k < rows.length := h
    have p1 : (1 : Int) ≤ 1500000000 ^ k := by
      have := Int.pow_pos (n := 1500000000) (m := k) (by decide)
      omega
    have p2 : M ≤ M * 1500000000 ^ k := by
      have := Int.mul_le_mul_of_nonneg_left p1 hM
      omega
    have p3 : M * 1500000000 ^ (k + 1) = 1500000000 * (M * 1500000000 ^ k) := by
      rw [Int.pow_succ, ← Int.mul_assoc, Int.mul_comm]
    have p4 : 0 ≤ M * 1500000000 ^ k := by omega
    have ih := rn_bd (n := n) hM hst hr hl hz k (by omega)
    rw [take_snoc (List.getElem?_eq_getElem hk), rn_snoc] at hs
    rw [p3]
    rcases List.mem_append.mp hs with hs | hs
    · exact (ih s hs x hx).mono (by omega)
    · obtain rfl := List.mem_singleton.mp hs
      have h1 := mvs_bd (vals := (rn n ls st (rows.take k)).getLastD [] ++ rows[k]) (M := M * 1500000000 ^ k) p4 (by
        intro v hv
        rcases List.mem_append.mp hv with hv | hv
        · refine ih _ (getLastD_mem ?_) v hv
          intro e
          have := rn_len n ls st rows k (by omega)
          rw [e] at this
          simp at this
        · exact (hr _ (List.getElem_mem hk) v hv).mono p2) ls (List.replicate n 0) 0 (by decide) hl (by
        intro a ha
        obtain ⟨_, rfl⟩ := List.mem_replicate.mp ha
        exact ⟨by decide, by decide⟩)
      refine (h1 x hx).mono ?_
      have h2 : (ls.length : Int) * (1000000 * (M * 1500000000 ^ k)) ≤ 1500 * (1000000 * (M * 1500000000 ^ k)) := Int.mul_le_mul_of_nonneg_right (by omega) (by omega)
      omega
theorem ixN_int {n : Nat} {k : Int} (h0 : 0 ≤ k) (h : k < n) : ixN n k = some k.toNat := by
  unfold ixN
  rw [if_pos h0, if_pos h]
theorem rep_int (m : Nat) : (List.replicate m [V.int 0]).flatten = (List.replicate m (0 : Int)).map V.int := by
  induction m with
  | zero => rfl
  | succ m ih =>
    rw [List.replicate_succ, List.flatten_cons, ih]
    rfl
theorem last_row {α : Type} : ∀ {ns : List α} {n : Nat} {r d : α}, ns[n]? = some r → ns.length = n + 1 → ns.getLastD d = r
  | [], _, _, _, h, _ => by simp at h
  | [a], 0, r, d, h, _ => by simpa [List.getLastD] using h
  | [a], n + 1, r, d, h, g => by simp at h
  | a :: b :: s, 0, r, d, h, g => by simp at g
  | a :: b :: s, n + 1, r, d, h, g => by
    rw [List.getLastD_cons]
    exact last_row (ns := b :: s) (n := n) (by simpa using h) (by simpa using g)
theorem stp_at {vals acc : List Int} {l : NL} {x y : Int} (hx : acc[l.1.2.toNat]? = some x) (hy : vals[l.1.1.toNat]? = some y) : (acc.map V.int).set l.1.2.toNat (V.int (x + l.2 * y)) = (stp vals acc l).map V.int := by
  unfold stp
  rw [List.getD_eq_getElem?_getD, hx, List.getD_eq_getElem?_getD, hy, List.map_set]
  rfl
theorem flat_take {α : Type} {ss : List (List α)} {i : Nat} {r : List α} (h : ss[i]? = some r) : (ss.take (i + 1)).flatten = (ss.take i).flatten ++ r := by
  rw [take_snoc h, List.flatten_append]
  simp
theorem flat_len {α : Type} {ss : List (List α)} {i : Nat} : ((ss.take i).flatten).length ≤ ss.flatten.length := by
  have h : ss.flatten = (ss.take i).flatten ++ (ss.drop i).flatten := by rw [← List.flatten_append, List.take_append_drop]
  rw [h, List.length_append]
  omega
theorem row_len_flat {α : Type} {ss : List (List α)} {r : List α} (h : r ∈ ss) : r.length ≤ ss.flatten.length := by
  obtain ⟨i, hi⟩ := List.mem_iff_getElem?.mp h
  have h1 := flat_len (ss := ss) (i := i + 1)
  rw [flat_take hi, List.length_append] at h1
  omega
theorem dNum_of {K : PySem.W.Frag} {H : Hp} {l : NL} {a : Addr} (h : H a = some (.tup [.int l.1.1, .int l.1.2, .int l.2])) : Da K H (dNum l) (.ref a) :=
  ⟨a, _, rfl, h, _, _, rfl, rfl, _, _, rfl, rfl, _, _, rfl, rfl, rfl⟩
theorem nums_at {K : PySem.W.Frag} {H : Hp} {ls : List NL} {xs : List V} {i : Nat} {x : V} (h : DaAll K H (ls.map dNum) xs) (hx : xs[i]? = some x) :
    ∃ l, ls[i]? = some l ∧ ∃ a, x = .ref a ∧ SqT K H a [.int l.1.1, .int l.1.2, .int l.2] := by
  obtain ⟨d, hd, hdx⟩ := h.at' hx
  obtain ⟨p, hp, rfl⟩ := map_at hd
  obtain ⟨a, ys, rfl, hS, z1, r1, rfl, e1, z2, r2, rfl, e2, z3, r3, rfl, e3, rfl⟩ := hdx
  obtain rfl := e1
  obtain rfl := e2
  obtain rfl := e3
  exact ⟨p, hp, a, rfl, .inl (.inl hS)⟩
end Nw
/-! Fillings, states and rows of states shown. -/
namespace Nw
open PySem PySem.Spec PyProof.Rows L2
theorem rn_rows {n : Nat} {ls : List NL} {st : List Int} {rows : List (List Int)} (h : st.length = n) : ∀ k, k ≤ rows.length → ∀ z ∈ rn n ls st (rows.take k), z.length = n
  | 0, _, z, hz => by
    obtain rfl : z = st := by simpa [rn] using hz
    exact h
  | k + 1, hk, z, hz => by
    rw [take_snoc (List.getElem?_eq_getElem (show k < rows.length from hk)), rn_snoc] at hz
    rcases List.mem_append.mp hz with hz | hz
    · exact rn_rows h k (by omega) z hz
    · obtain rfl := List.mem_singleton.mp hz
      exact mv_len
theorem NewR.da {K : PySem.W.Frag} {H H' : Hp} {ns : List (List Int)} {L : Addr} {bs : List Addr} (h : NewR H H' ns L bs) (h1 : ∀ r ∈ ns, r.length ≤ 100000) (h2 : ns.length ≤ 100000) : Da K H' (dRows ns) (.ref L) := by
  refine ⟨L, _, rfl, h.at_, rows_of h.len fun k b hb => ?_, by rw [List.length_map]; exact h2⟩
  obtain ⟨_, r, e, g⟩ := h.row k b hb
  exact ⟨r, e, g, h1 r (List.mem_of_getElem? e)⟩
theorem lay_fl (f : Fl) : f.d.canLay0 = true := by simp [Fl.d, PyData.canLay0, PyData.canLayAll0, lay_dInts, lay_dRows]
theorem Sh.ints {r : List Int} {k m : Nat} (hk : 0 < k) (h2 : ∀ x ∈ r, x.natAbs < 2 ^ 1920) (h : ∀ x ∈ r, x.natAbs < 10 ^ k) (hm : r.length ≤ m) : Sh (k + 1) (1 + m) 1 (dInts r) := by
  have e : Sh (k + 1) (1 + 1 * m) (0 + 1) (dInts r) := Sh.list (fun x hx => by
    obtain ⟨y, hy, rfl⟩ := List.mem_map.mp hx
    exact Sh.int hk (h2 y hy) (h y hy)) (by rw [List.length_map]; exact hm)
  exact ⟨e.s, e.l, by have := e.n; omega, e.k⟩
theorem Sh.rows {rs : List (List Int)} {k m j : Nat} (hk : 0 < k) (h2 : ∀ r ∈ rs, ∀ x ∈ r, x.natAbs < 2 ^ 1920) (h : ∀ r ∈ rs, ∀ x ∈ r, x.natAbs < 10 ^ k) (hm : ∀ r ∈ rs, r.length ≤ m) (hj : rs.length ≤ j) :
    Sh (k + 1) (1 + (1 + m) * j) 2 (dRows rs) := Sh.list (fun x hx => by
  obtain ⟨y, hy, rfl⟩ := List.mem_map.mp hx
  exact Sh.ints hk (h2 y hy) (h y hy) (hm y hy)) (by rw [List.length_map]; exact hj)
theorem p1920 : (2 : Nat) ^ 1920 < 10 ^ 580 := by decide +kernel
theorem p40_1920 : (10 : Nat) ^ 40 < 2 ^ 1920 := by decide +kernel
theorem p40 : (10 : Nat) ^ 40 = 10000000000000000000000000000000000000000 := by decide +kernel
theorem small40 {x : Int} (h : x.natAbs < 10000000000000000000000000000000000000000) : x.natAbs < 2 ^ 1920 ∧ x.natAbs < 10 ^ 40 := by
  have h1 : x.natAbs < 10 ^ 40 := by
    rw [p40]
    exact h
  exact ⟨Nat.lt_trans h1 p40_1920, h1⟩
theorem sm_40 {x : Int} (h : Sm x) : x.natAbs < 10000000000000000000000000000000000000000 := by
  have := h.1
  have := h.2
  omega
theorem Sh.pair {p : Int × Int} (h1 : Sm p.1) (h2 : Sm p.2) : Sh 41 3 1 (dPair p) := by
  have e : Sh 41 (1 + 1 * 2) (0 + 1) (dPair p) := Sh.tuple (fun x hx => by
    rcases List.mem_cons.mp hx with rfl | hx
    · exact Sh.int (k := 40) (by decide) (small40 (sm_40 h1)).1 (small40 (sm_40 h1)).2
    · obtain rfl := List.mem_singleton.mp hx
      exact Sh.int (k := 40) (by decide) (small40 (sm_40 h2)).1 (small40 (sm_40 h2)).2) (Nat.le_refl 2)
  exact e
theorem Sh.wide {B n k m j : Nat} {d : PyData} (h : Sh B n k d) (hn : n ≤ m) (hk : k ≤ j) : Sh B m j d := ⟨h.s, h.l, Nat.le_trans h.n hn, Nat.le_trans h.k hk⟩
theorem Wb.Ok.sh {u : Wb} (hu : u.Ok) : Sh 41 12000 3 u.d := by
  have b1 := hu.lo
  have b2 := hu.hi
  have e : Sh 41 (1 + 3901 * 3) (2 + 1) u.d := Sh.tuple (fun x hx => by
    rcases List.mem_cons.mp hx with rfl | hx
    · exact (Sh.int (k := 40) (by decide) (small40 (by omega)).1 (small40 (by omega)).2).wide (by decide) (by decide)
    rcases List.mem_cons.mp hx with rfl | hx
    · have e : Sh 41 (1 + 3 * 1300) (1 + 1) (dPairs u.ps) := Sh.list (fun x hx => by
        obtain ⟨y, hy, rfl⟩ := List.mem_map.mp hx
        have := hu.ps y hy
        exact Sh.pair ⟨this.1.1, by omega⟩ ⟨this.2.1, by omega⟩) (by rw [List.length_map]; exact hu.len)
      exact e
    · obtain rfl := List.mem_singleton.mp hx
      have hs : ∀ r ∈ u.ns, ∀ x ∈ r, x.natAbs < 10000000000000000000000000000000000000000 := by
        intro r hr x hx
        have := (hu.ns r hr).2.1 x hx
        omega
      exact (Sh.rows (k := 40) (m := 20) (j := 8) (by decide) (fun r hr x hx => (small40 (hs r hr x hx)).1) (fun r hr x hx => (small40 (hs r hr x hx)).2) (fun r hr => hu.row hr) hu.few).wide (by decide) (by decide)) (Nat.le_refl 3)
  exact e.wide (by decide) (by decide)
theorem Fl.Ok.sh {u : Wb} {f : Fl} (hu : u.Ok) (h : f.Ok u) : Sh 41 12000 3 f.d := by
  have b1 := hu.len
  have b2 := hu.few
  have hn : ∀ x : Int, NumOk x → x.natAbs < 10000000000000000000000000000000000000000 := by
    intro x hx
    have := hx.2.1
    have := hx.2.2
    omega
  have e : Sh 41 (1 + 1301 * 2) (2 + 1) f.d := Sh.tuple (fun x hx => by
    rcases List.mem_cons.mp hx with rfl | hx
    · exact (Sh.ints (k := 40) (m := 1300) (by decide) (fun x hx => (small40 (hn x (h.num x hx))).1) (fun x hx => (small40 (hn x (h.num x hx))).2) (by rw [h.len]; exact b1)).wide (by decide) (by decide)
    · obtain rfl := List.mem_singleton.mp hx
      refine (Sh.rows (k := 40) (m := 20) (j := 8) (by decide) (fun r hr x hx => (small40 (hn x (h.rnum r hr x hx))).1) (fun r hr x hx => (small40 (hn x (h.rnum r hr x hx))).2) (fun r hr => ?_) (by rw [h.slen]; exact b2)).wide (by decide) (by decide)
      obtain ⟨k, hk⟩ := List.mem_iff_getElem?.mp hr
      have hk2 : k < u.ns.length := by
        rw [← h.slen]
        exact (List.getElem?_eq_some_iff.mp hk).1
      rw [h.rlen hk (List.getElem?_eq_getElem hk2)]
      exact hu.row (List.getElem_mem hk2)) (Nat.le_refl 2)
  exact e.wide (by decide) (by decide)
/-- what repr asks of data that stands -/
theorem repr_of {K : PySem.W.Frag} {H : Hp} {d : PyData} {v : V} {B n k : Nat} (hd : Da K H d v) (hn : d.hasDict = false) (h : Sh B n k d) (hB : 8 ≤ B) (hz : (B + 4) * n ≤ 16000000) (hk : k ≤ 60) :
    Dp K H v d ∧ d.showable = true ∧ d.shown.length ≤ sizeLine ∧ d.depth ≤ 60 := ⟨hd.dp _ _ hn, h.s, h.fit hB hz, Nat.le_trans h.k hk⟩
theorem bd_abs {M x : Int} {N : Nat} (h : Bd M x) (hM : M.toNat < N) (h0 : 0 ≤ M) : x.natAbs < N := by
  have := h.1
  have := h.2
  omega
theorem pow1500 {w : Int} {k : Nat} (h0 : 0 ≤ w) {n : Nat} (hk : k ≤ n) : w * 1500000000 ^ k ≤ w * 1500000000 ^ n := by
  refine Int.mul_le_mul_of_nonneg_left ?_ h0
  have h1 : (1500000000 : Nat) ^ k ≤ 1500000000 ^ n := Nat.pow_le_pow_right (by decide) hk
  have h2 := Int.ofNat_le.mpr h1
  rw [Int.natCast_pow, Int.natCast_pow] at h2
  exact h2
end Nw
namespace Nw
open PySem PySem.Spec PyProof.Rows L2
theorem rn_pre {n : Nat} {ls : List NL} {st : List Int} {rows : List (List Int)} {k i : Nat} (hi : i ≤ k) : ∀ j, k ≤ j → j ≤ rows.length → (rn n ls st (rows.take j))[i]? = (rn n ls st (rows.take k))[i]?
  | 0, h, _ => by
    obtain rfl : k = 0 := by omega
    rfl
  | j + 1, h, hj => by
    by_cases e : k = j + 1
    · rw [e]
    · rw [take_snoc (List.getElem?_eq_getElem (show j < rows.length from hj)), rn_snoc, List.getElem?_append_left, rn_pre hi j (by omega) (by omega)]
      rw [rn_len n ls st rows j (by omega)]
      omega
theorem rn_one {n : Nat} {ls : List NL} {st r : List Int} {rows : List (List Int)} (h : rows[0]? = some r) : (rn n ls st rows)[1]? = some (mv n ls (st ++ r)) := by
  have hl : 0 < rows.length := (List.getElem?_eq_some_iff.mp h).1
  have e := rn_pre (n := n) (ls := ls) (st := st) (rows := rows) (k := 1) (i := 1) (by decide) rows.length (by omega) (by omega)
  rw [List.take_length] at e
  rw [e, show rows.take 1 = rows.take (0 + 1) from rfl, take_snoc h]
  rfl
theorem p6 : (10 : Int) ^ Int.toNat 6 = 1000000 := by decide +kernel
theorem p29 : (10 : Int) ^ Int.toNat 29 = 100000000000000000000000000000 := by decide +kernel
end Nw
/-! Any data of bounded size: put together, cut, looked up. -/
namespace Nw
open PySem PySem.Spec PyProof.Rows L2
def rTupQ (K : PySem.W.Frag) : List V → Hp → VK → Prop := fun xs H Q => ∃ p ys, xs = [.ref p] ∧ ((SqL K H p ys ∧ ∀ l, H l = none → Q (.ref l) (upd H l (.tup ys))) ∨ (SqT K H p ys ∧ Q (.ref p) H))
theorem call_tupleK {X : Cx} (K : PySem.W.Frag) (hK : X.K = K := by rfl) : CallR X (.type "tuple") (rTupQ K) := by
  subst hK
  exact call_tuple_of
def shB (n k : Nat) (d : PyData) : Bool := d.showable && (lf 41 d && (decide (nodes d ≤ n) && decide (d.depth ≤ k)))
theorem shB_sh {n k : Nat} {d : PyData} (h : shB n k d = true) : Sh 41 n k d := by
  simp only [shB, Bool.and_eq_true, decide_eq_true_eq] at h
  exact ⟨h.1, h.2.1, h.2.2.1, h.2.2.2⟩
theorem sh_all {n k : Nat} {ds : List PyData} (h : ds.all (shB n k) = true) : ∀ x ∈ ds, Sh 41 n k x := fun x hx => shB_sh (List.all_eq_true.mp h x hx)
section
variable {K : PySem.W.Frag} {H H' : Hp} {n k m j : Nat}
/-- some data of so many nodes, so deep -/
def Gd (K : PySem.W.Frag) (H : Hp) (n k : Nat) (v : V) : Prop := ∃ d, Da K H d v ∧ Sh 41 n k d
def GdAll (K : PySem.W.Frag) (H : Hp) (n k : Nat) (vs : List V) : Prop := ∃ ds, DaAll K H ds vs ∧ ∀ x ∈ ds, Sh 41 n k x
theorem Gd.up {v : V} (h : Gd K H n k v) (e : Ex H H') : Gd K H' n k v := by
  obtain ⟨d, h1, h2⟩ := h
  exact ⟨d, h1.up e, h2⟩
theorem GdAll.up {vs : List V} (h : GdAll K H n k vs) (e : Ex H H') : GdAll K H' n k vs := by
  obtain ⟨d, h1, h2⟩ := h
  exact ⟨d, h1.up e, h2⟩
theorem Gd.wide {v : V} (h : Gd K H n k v) (hn : n ≤ m) (hk : k ≤ j) : Gd K H m j v := by
  obtain ⟨d, h1, h2⟩ := h
  exact ⟨d, h1, h2.wide hn hk⟩
theorem GdAll.wide {vs : List V} (h : GdAll K H n k vs) (hn : n ≤ m) (hk : k ≤ j) : GdAll K H m j vs := by
  obtain ⟨d, h1, h2⟩ := h
  exact ⟨d, h1, fun x hx => (h2 x hx).wide hn hk⟩
theorem GdAll.nil : GdAll K H n k [] := ⟨[], rfl, fun x hx => by cases hx⟩
theorem GdAll.cons {v : V} {vs : List V} (h : Gd K H n k v) (t : GdAll K H n k vs) : GdAll K H n k (v :: vs) := by
  obtain ⟨d, h1, h2⟩ := h
  obtain ⟨ds, t1, t2⟩ := t
  refine ⟨d :: ds, ⟨_, _, rfl, h1, t1⟩, fun x hx => ?_⟩
  rcases List.mem_cons.mp hx with rfl | hx
  · exact h2
  · exact t2 x hx
theorem GdAll.at {vs : List V} {i : Nat} {x : V} (h : GdAll K H n k vs) (hx : vs[i]? = some x) : Gd K H n k x := by
  obtain ⟨ds, h1, h2⟩ := h
  obtain ⟨d, hd, hdx⟩ := h1.at' hx
  exact ⟨d, hdx, h2 d (List.mem_of_getElem? hd)⟩
theorem GdAll.app {vs ws : List V} (h : GdAll K H n k vs) (g : GdAll K H n k ws) : GdAll K H n k (vs ++ ws) := by
  obtain ⟨ds, h1, h2⟩ := h
  obtain ⟨es, g1, g2⟩ := g
  refine ⟨ds ++ es, h1.app g1, fun x hx => ?_⟩
  rcases List.mem_append.mp hx with hx | hx
  · exact h2 x hx
  · exact g2 x hx
theorem DaAll.of_mem : ∀ {ds : List PyData} {vs ws : List V}, DaAll K H ds vs → (∀ x ∈ ws, x ∈ vs) → ∃ es, DaAll K H es ws ∧ ∀ e ∈ es, e ∈ ds
  | ds, vs, [], _, _ => ⟨[], rfl, fun e he => by cases he⟩
  | ds, vs, w :: ws, h, hm => by
    obtain ⟨es, h1, h2⟩ := DaAll.of_mem h (ws := ws) fun x hx => hm x (List.mem_cons_of_mem _ hx)
    obtain ⟨d, hd, hdw⟩ := h.mem w (hm w (by simp))
    refine ⟨d :: es, ⟨_, _, rfl, hdw, h1⟩, fun e he => ?_⟩
    rcases List.mem_cons.mp he with rfl | he
    · exact hd
    · exact h2 e he
theorem GdAll.sub {vs ws : List V} (h : GdAll K H n k vs) (hm : ∀ x ∈ ws, x ∈ vs) : GdAll K H n k ws := by
  obtain ⟨ds, h1, h2⟩ := h
  obtain ⟨es, g1, g2⟩ := DaAll.of_mem h1 hm
  exact ⟨es, g1, fun x hx => h2 x (g2 x hx)⟩
theorem GdAll.cut {vs : List V} {lo hi : Option Int} (h : GdAll K H n k vs) : GdAll K H n k (cutV vs lo hi) := h.sub fun x hx => List.mem_of_mem_drop (List.mem_of_mem_take hx)
theorem GdAll.rev {vs : List V} (h : GdAll K H n k vs) : GdAll K H n k vs.reverse := h.sub fun x hx => List.mem_reverse.mp hx
theorem Gd.list {a : Addr} {vs : List V} (h : H a = some (.lst vs)) (g : GdAll K H n k vs) (hl : vs.length ≤ m) (hm : m ≤ 100000) : Gd K H (1 + n * m) (k + 1) (.ref a) := by
  obtain ⟨ds, h1, h2⟩ := g
  have e := h1.len
  exact ⟨.list ds, ⟨a, vs, rfl, h, h1, by omega⟩, Sh.list h2 (by omega)⟩
theorem Gd.tup {a : Addr} {vs : List V} (h : H a = some (.tup vs)) (g : GdAll K H n k vs) (hl : vs.length ≤ m) : Gd K H (1 + n * m) (k + 1) (.ref a) := by
  obtain ⟨ds, h1, h2⟩ := g
  have e := h1.len
  exact ⟨.tuple ds, ⟨a, vs, rfl, h, h1⟩, Sh.tuple h2 (by omega)⟩
theorem Gd.non : Gd K H (n + 1) k .non := ⟨.none, rfl, ⟨rfl, rfl, by simp only [nodes]; omega, by simp only [PyData.depth]; omega⟩⟩
theorem Gd.bl {b : Bool} : Gd K H (n + 1) k (.bl b) := ⟨.bool b, rfl, ⟨rfl, rfl, by simp only [nodes]; omega, by simp only [PyData.depth]; omega⟩⟩
theorem Gd.int {i : Int} (h : i.natAbs < 10000000000000000000000000000000000000000) : Gd K H (n + 1) k (.int i) :=
  ⟨.int i, rfl, (Sh.int (k := 40) (by decide) (small40 h).1 (small40 h).2).wide (by omega) (by omega)⟩
theorem Gd.str {x : Str} (h : (PyData.shown (.str x)).length ≤ 41) : Gd K H (n + 1) k (.str x) :=
  ⟨.str x, rfl, ⟨rfl, by simpa only [lf, decide_eq_true_eq] using h, by simp only [nodes]; omega, by simp only [PyData.depth]; omega⟩⟩
theorem Gd.dict0 {a : Addr} (h : H a = some (.dK [])) : Gd K H (n + 1) (k + 1) (.ref a) :=
  ⟨.dict [], ⟨a, [], rfl, h, rfl, rfl⟩, ⟨rfl, rfl, by simp only [nodes, nodesKv]; omega, by simp only [PyData.depth, PyData.depthKv]; omega⟩⟩
/-- a dict of one text and one value -/
theorem Gd.dict1 {a : Addr} {x : Str} {v : V} (h : H a = some (.dK [(Sum.inr x, v)])) (hx : (PyData.shown (.str x)).length ≤ 41) (g : Gd K H n k v) : Gd K H (n + 2) (k + 1) (.ref a) := by
  obtain ⟨d, h1, h2⟩ := g
  refine ⟨.dict [(.str x, d)], ⟨a, _, rfl, h, rfl, _, _, rfl, h1, rfl⟩, ⟨?_, ?_, ?_, ?_⟩⟩
  · have := h2.s
    simp only [PyData.showable, PyData.showableKv, this, Bool.and_true]
  · have := h2.l
    simp only [lf, lfKv, this, Bool.and_true, Bool.and_eq_true, decide_eq_true_eq]
    exact hx
  · have := h2.n
    simp only [nodes, nodesKv]
    omega
  · have := h2.k
    simp only [PyData.depth, PyData.depthKv]
    omega
theorem Gd.of {d : PyData} {v : V} (h : Da K H d v) (hs : Sh 41 n k d) : Gd K H n k v := ⟨d, h, hs⟩
end
end Nw
/-! What the package's looks at values answer, read back; what a call of the package is due. -/
namespace Nw
open PySem PySem.Spec PyProof.Rows L2
theorem targetsB_inv {d : PyData} {m : Int} (h : targetsB d m = true) : ∃ r, d = dInts r ∧ r ≠ [] ∧ (∀ t ∈ r, 0 ≤ t ∧ t < m) ∧ ascB ltIn r = true := by
  cases d with
  | list ds =>
    simp only [targetsB, Bool.and_eq_true, decide_eq_true_eq] at h
    obtain ⟨h1, h2, h3⟩ := h
    obtain ⟨ns, rfl, hn⟩ := ints_of_all h1
    rw [intsOf_map] at h3
    rw [List.length_map] at h2
    exact ⟨ns, rfl, List.length_pos_iff.mp h2, hn, h3⟩
  | _ => simp [targetsB] at h
theorem tuplesB_inv {d : PyData} {m n : Int} (h : tuplesB d m n = true) : ∃ ps, d = dPairs ps ∧ (∀ p ∈ ps, (0 ≤ p.1 ∧ p.1 < m) ∧ (0 ≤ p.2 ∧ p.2 < n)) ∧ ascB ltPr ps = true := by
  cases d with
  | list ds =>
    simp only [tuplesB, Bool.and_eq_true] at h
    obtain ⟨h1, h3⟩ := h
    obtain ⟨ns, rfl, hn⟩ := pairs_of_all h1
    rw [pairsOf_map] at h3
    exact ⟨ns, rfl, hn, h3⟩
  | _ => simp [tuplesB] at h
theorem rows_of_all {m : Int} : ∀ {ds : List PyData}, (ds.all fun d => targetsB d m) = true → ∃ ns : List (List Int), ds = ns.map dInts ∧ ∀ r ∈ ns, r ≠ [] ∧ (∀ t ∈ r, 0 ≤ t ∧ t < m) ∧ ascB ltIn r = true
  | [], _ => ⟨[], rfl, fun _ h => nomatch h⟩
  | d :: ds, h => by
    simp only [List.all_cons, Bool.and_eq_true] at h
    obtain ⟨ns, rfl, hn⟩ := rows_of_all h.2
    obtain ⟨r, rfl, hr⟩ := targetsB_inv h.1
    refine ⟨r :: ns, rfl, fun x hx => ?_⟩
    rcases List.mem_cons.mp hx with rfl | hx
    · exact hr
    · exact hn x hx
theorem webB_inv {d : PyData} (h : webB d = true) : ∃ u : Wb, d = u.d ∧ u.Ok := by
  match d, h with
  | .tuple [.int n, ps, ns], h =>
    simp only [webB, Bool.and_eq_true, decide_eq_true_eq] at h
    obtain ⟨⟨h1, h2⟩, h3, h4⟩ := h
    obtain ⟨L, rfl, hL, ha⟩ := tuplesB_inv h3
    cases ns with
    | list ds =>
      simp only [nudgesB, Bool.and_eq_true, decide_eq_true_eq] at h4
      obtain ⟨R, rfl, hR⟩ := rows_of_all h4.2
      have := h4.1
      rw [List.length_map] at this
      exact ⟨⟨n, L, R⟩, rfl, h1, h2, hL, ha, this, hR⟩
    | _ => simp [nudgesB] at h4
/-- the web that data is -/
noncomputable def wbOf (d : PyData) : Wb := by
  classical exact if h : ∃ u : Wb, d = u.d then h.choose else ⟨1, [], []⟩
theorem dInts_inj {r s : List Int} (h : dInts r = dInts s) : r = s := by
  unfold dInts at h
  have h := PyData.list.inj h
  have e := congrArg intsOf h
  rw [intsOf_map, intsOf_map] at e
  exact Option.some.inj e
theorem dPairs_inj {r s : List (Int × Int)} (h : dPairs r = dPairs s) : r = s := by
  unfold dPairs at h
  have h := PyData.list.inj h
  have e := congrArg pairsOf h
  rw [pairsOf_map, pairsOf_map] at e
  exact Option.some.inj e
theorem dRows_inj : ∀ {r s : List (List Int)}, r.map dInts = s.map dInts → r = s
  | [], [], _ => rfl
  | [], _ :: _, h => by simp at h
  | _ :: _, [], h => by simp at h
  | a :: r, b :: s, h => by
    simp only [List.map_cons, List.cons.injEq] at h
    rw [dInts_inj h.1, dRows_inj h.2]
theorem wbd_inj {u v : Wb} (h : u.d = v.d) : u = v := by
  obtain ⟨a, b, c⟩ := u
  obtain ⟨d, e, f⟩ := v
  unfold Wb.d at h
  have h := PyData.tuple.inj h
  simp only [List.cons.injEq, PyData.int.injEq, and_true] at h
  obtain ⟨rfl, h2, h3⟩ := h
  rw [dPairs_inj h2, dRows_inj (PyData.list.inj h3)]
theorem wbOf_d (u : Wb) : wbOf u.d = u := by
  unfold wbOf
  have h : ∃ v : Wb, u.d = v.d := ⟨u, rfl⟩
  rw [dif_pos h]
  exact (wbd_inj h.choose_spec).symm
/-- what a call is due: an error's name, or none -/
def Out (K : PySem.W.Frag) (H : Hp) (Q : VK) (E : Value → Option Addr → Hp → Prop) : Option Str → Prop
  | none => ∀ v H', Ex H H' → Q v H'
  | some x => ∀ C d H', ErrOf K x C → Ex H H' → (∀ dx, d = some dx → ∃ fs, H' dx = some (.xd fs)) → E (.ref C) d H'
theorem Out.err {K : PySem.W.Frag} {H : Hp} {Q : VK} {E : Value → Option Addr → Hp → Prop} {o : Option Str} {x : Str} (h : Out K H Q E o) (e : o = some x) {C : Addr} {H' : Hp} (hC : ErrOf K x C) (e1 : Ex H H') : E (.ref C) none H' := by
  subst e
  exact h C none H' hC e1 fun dx z => nomatch z
theorem Out.big {K : PySem.W.Frag} {H : Hp} {Q : VK} {E : Value → Option Addr → Hp → Prop} {o : Option Str} {x : Str} (h : Out K H Q E o) (e : o = some x) {C dd : Addr} {H' : Hp} {fs : List (Str × V)} (hC : ErrOf K x C) (e1 : Ex H H') (hd : H' dd = some (.xd fs)) : E (.ref C) (some dd) H' := by
  subst e
  exact h C (some dd) H' hC e1 fun dx z => ⟨fs, (Option.some.inj z) ▸ hd⟩
theorem Out.ok {K : PySem.W.Frag} {H : Hp} {Q : VK} {E : Value → Option Addr → Hp → Prop} {o : Option Str} (h : Out K H Q E o) (e : o = none) {v : V} {H' : Hp} (e1 : Ex H H') : Q v H' := by
  subst e
  exact h v H' e1
theorem Out.webB {K : PySem.W.Frag} {H : Hp} {Q : VK} {E : Value → Option Addr → Hp → Prop} {o : Option Str} (h : Out K H Q E o) {H1 : Hp} (e : Ex H H1) : Out K H1 Q E o := by
  cases o with
  | none => exact fun v H' e1 => h v H' (e.tr e1)
  | some x => exact fun C d H' hC e1 hd => h C d H' hC (e.tr e1) hd
noncomputable def dueWeb (d : PyData) (k : Wb → Option Str) : Option Str := if webB d = true then k (wbOf d) else some ("InvalidWeb" : Str)
theorem dueWeb_no {d : PyData} {k : Wb → Option Str} (h : webB d = false) : dueWeb d k = some ("InvalidWeb" : Str) := by
  unfold dueWeb
  rw [h]
  rfl
theorem dueWeb_of {u : Wb} {k : Wb → Option Str} (h : u.Ok) : dueWeb u.d k = k u := by
  unfold dueWeb
  rw [if_pos h.web, wbOf_d]
def dueIf (b : Bool) (x : Str) (r : Option Str) : Option Str := if b = true then r else some x
/-- a list of all the numbers below n -/
noncomputable def ordB (d : PyData) (n : Int) : Bool := @decide (∃ o, d = dInts o ∧ IsOrd n o) (Classical.propDecidable _)
theorem ordB_of {d : PyData} {n : Int} : ordB d n = true ↔ ∃ o, d = dInts o ∧ IsOrd n o := by
  unfold ordB
  exact @decide_eq_true_iff _ (Classical.propDecidable _)
/-- the pair of two ints -/
def pairOf : PyData → PyData → Int × Int
  | .int a, .int b => (a, b)
  | _, _ => (0, 0)
noncomputable def dueCall (way : Nat) (d x y : PyData) : Option Str :=
  match way with
  | 0 => dueWeb d fun u => dueIf (numB x (u.n + u.ns.length)) "InvalidSource" none
  | 1 => dueWeb d fun u => dueIf (numB x u.n) "InvalidQuantity" none
  | 2 => dueWeb d fun u => dueIf (numB x u.n) "InvalidQuantity" (dueIf (numB y u.n) "InvalidQuantity" (dueIf (decide (pairOf x y ∉ u.ps)) "LineThere" none))
  | 3 => dueWeb d fun u => dueIf (numB x u.n) "InvalidQuantity" (dueIf (numB y u.n) "InvalidQuantity" (dueIf (decide (pairOf x y ∈ u.ps)) "NoLine" none))
  | 4 => dueWeb d fun u => dueIf (targetsB x u.n) "InvalidTargets" (dueIf (decide (u.ns.length ≠ 8)) "TooLarge" none)
  | 5 => dueWeb d fun u => dueIf (numB x u.ns.length) "InvalidNudge" none
  | 6 => dueWeb d fun u => dueIf (ordB x u.n) "InvalidOrder" none
  | 7 => dueWeb d fun u => dueWeb x fun v => dueIf (tuplesB y u.n v.n) "InvalidLinks" (dueIf (decide (u.n + v.n ≤ 20)) "TooLarge" (dueIf (decide (u.ns.length + v.ns.length ≤ 8)) "TooLarge" none))
  | _ => dueWeb d fun _ => none
theorem due0 (d x y : PyData) : dueCall 0 d x y = dueWeb d fun u => dueIf (numB x (u.n + u.ns.length)) "InvalidSource" none := rfl
theorem due1 (d x y : PyData) : dueCall 1 d x y = dueWeb d fun u => dueIf (numB x u.n) "InvalidQuantity" none := rfl
theorem due2 (d x y : PyData) : dueCall 2 d x y = dueWeb d fun u => dueIf (numB x u.n) "InvalidQuantity" (dueIf (numB y u.n) "InvalidQuantity" (dueIf (decide (pairOf x y ∉ u.ps)) "LineThere" none)) := rfl
theorem due3 (d x y : PyData) : dueCall 3 d x y = dueWeb d fun u => dueIf (numB x u.n) "InvalidQuantity" (dueIf (numB y u.n) "InvalidQuantity" (dueIf (decide (pairOf x y ∈ u.ps)) "NoLine" none)) := rfl
theorem due4 (d x y : PyData) : dueCall 4 d x y = dueWeb d fun u => dueIf (targetsB x u.n) "InvalidTargets" (dueIf (decide (u.ns.length ≠ 8)) "TooLarge" none) := rfl
theorem due5 (d x y : PyData) : dueCall 5 d x y = dueWeb d fun u => dueIf (numB x u.ns.length) "InvalidNudge" none := rfl
theorem due6 (d x y : PyData) : dueCall 6 d x y = dueWeb d fun u => dueIf (ordB x u.n) "InvalidOrder" none := rfl
theorem due7 (d x y : PyData) : dueCall 7 d x y = dueWeb d fun u => dueWeb x fun v => dueIf (tuplesB y u.n v.n) "InvalidLinks" (dueIf (decide (u.n + v.n ≤ 20)) "TooLarge" (dueIf (decide (u.ns.length + v.ns.length ≤ 8)) "TooLarge" none)) := rfl
theorem due8 (d x y : PyData) : dueCall 8 d x y = dueWeb d fun _ => none := rfl
theorem due9 (d x y : PyData) : dueCall 9 d x y = dueWeb d fun _ => none := rfl
theorem dueno (way : Nat) (d x y : PyData) (h : webB d = false) : dueCall way d x y = some ("InvalidWeb" : Str) := by
  unfold dueCall
  split <;> exact dueWeb_no h
end Nw
namespace Nw
open PySem PySem.Spec PyProof.Rows L2
theorem pg_lstK {X : Cx} (K : PySem.W.Frag) {es : List Expr} {k : Nat} {pos : Pos} {t : TGs} {n : Nat} (hc : X.calm = true) (h : PGs X es t)
    (hn : (assignEach es X.env).length = n := by rfl)
    (hst : (assignEach es X.env).findIdx? (·.1) = none := by rfl) (hK : X.K = K := by rfl) : PG X (.Tuple es k pos) (gLst K n t) := by
  subst hK
  exact pg_lst hc h hn hst
/-- a list of bools: how many are k -/
theorem mt_countB {X : Cx} (K : PySem.W.Frag) (hK : X.K = K := by rfl) : MtR X "list.count" (fun x xs H Q => ∃ (a : Addr) (bs : List Bool) (k : Bool), x = .ref a ∧ xs = [.bl k] ∧ SqL K H a (bs.map V.bl) ∧ Q (.int (Spec.countIn (.bool k) (bs.map PyData.bool))) H) := by
  subst hK
  intro pins s σ H x xs v us Q I rx rv h
  obtain ⟨a, bs, k, rfl, rfl, hS, q⟩ := h
  cases rx
  cases rv with
  | cons r1 r2 =>
    cases r2
    cases r1
    obtain ⟨its, rs, ⟨o, n, g1, g2, g3, g4⟩, _⟩ := I.list hS
    have hp : ∀ (bs : List Bool) (its : List Value), Vals (bs.map V.bl) its → ∃ as, ReadsAll s.heap its (bs.map PyData.bool) as := by
      intro bs
      induction bs with
      | nil =>
        intro its r
        cases r
        exact ⟨_, .nil⟩
      | cons b bs ih =>
        intro its r
        cases r with
        | cons ra rb =>
          cases ra
          obtain ⟨as, h⟩ := ih _ rb
          exact ⟨_, .cons (.bool b) h⟩
    obtain ⟨as, hr⟩ := hp bs its rs
    exact PyProof.Rows.count_list_bools ⟨o, g1, g2, n, g4⟩ hr (by
      rw [List.all_map, List.all_eq_true]
      intro b _
      cases b <;> rfl) ⟨.int _, H, I.tok _, ⟨_, rfl⟩, q⟩
theorem idx_bools {bs : List Bool} {j : Nat} (hm : ∀ m, m < j → bs[m]? = some false) : ∀ (m : Nat) (z' : V), m < j → (bs.map V.bl)[m]? = some z' → eqV z' (.bl true) = false := fun m z' h e => by
  rw [List.getElem?_map, hm m h] at e
  obtain rfl := Option.some.inj e
  rfl
/-- an error of a called def is the caller's -/
theorem passE {X : Cx} {E : XK} (tk : Takes X (fun cls d _ H => E cls d H)) : Passes (L2.CX X.prog X.w) X E := fun pins σ H s e s' I c => tk e s' (XE.of_call (W := fun cls d _ H => E cls d H) I (fun _ _ _ h => h) c)
theorem asc_code20 : ∀ {ps : List (Int × Int)}, (∀ p ∈ ps, 0 ≤ p.2 ∧ p.2 < 20) → ascB ltPr ps = true → ascB ltIn (ps.map fun p => 20 * p.1 + p.2) = true
  | [], _, _ => rfl
  | [_], _, _ => rfl
  | p :: q :: r, h, ha => by
    simp only [ascB, Bool.and_eq_true] at ha
    have hp := h p (by simp)
    have hq := h q (by simp)
    have h1 := ltPr_iff.mp ha.1
    have ih := asc_code20 (ps := q :: r) (fun z hz => h z (List.mem_cons_of_mem _ hz)) ha.2
    simp only [List.map_cons, ascB, Bool.and_eq_true, ltIn, decide_eq_true_eq] at ih ⊢
    exact ⟨by omega, ih⟩
theorem pairs_400 {L : List (Int × Int)} (h : ∀ p ∈ L, (0 ≤ p.1 ∧ p.1 < 20) ∧ (0 ≤ p.2 ∧ p.2 < 20)) (ha : ascB ltPr L = true) : L.length ≤ 400 := by
  have h1 := asc_code20 (fun p hp => (h p hp).2) ha
  have h2 := asc_len _ 0 (m := 400) (by
    intro t ht
    obtain ⟨p, hp, rfl⟩ := List.mem_map.mp ht
    have := h p hp
    omega) h1
  rw [List.length_map] at h2
  omega
/-- what a check is due -/
def ChkO (K : PySem.W.Frag) (H : Hp) (Q : VK) (E : Value → Option Addr → Hp → Prop) (b : Bool) (x : Str) : Prop :=
  (b = false → ∀ C H', ErrOf K x C → Ex H H' → E (.ref C) none H') ∧ (b = true → ∀ H', Ex H H' → Q .non H')
theorem cat_len {x y : Str} {m n : Nat} (hx : x.length ≤ m) (hy : y.length ≤ n) (h : m + n ≤ 1000) : (x ++ y).length ≤ sizeLine ∧ (x ++ y).length ≤ m + n := by
  rw [show (x ++ y).length = x.length + y.length from strLen_append ..]
  exact ⟨mil (by omega), by omega⟩
end Nw
namespace K46
open PySem PySem.Spec PyProof.Rows L2 Nw
def topS (i : Nat) : Stmt := PySem.Challenge.pw_nudgewebs_k46_errors_of_webs.main.body.getD i (.Pass ⟨0, 0, 0, 0⟩)
def errNm (i : Nat) : Str := (["WebError", "InvalidWeb", "InvalidSource", "InvalidQuantity", "InvalidTargets", "InvalidNudge", "InvalidOrder", "InvalidLinks", "NoLine", "LineThere", "TooLarge"] : List Str).getD i ""
theorem bt_ValueError : bootBuiltins "ValueError" = some (.type "ValueError") := by rfl
structure Fam (K : PySem.W.Frag) (mg : Str → Option Value) (c : Nat → Addr) (fB fP : Addr) : Prop where
  g_WebError : mg "WebError" = some (.ref (c 0))
  g_InvalidWeb : mg "InvalidWeb" = some (.ref (c 1))
  g_InvalidSource : mg "InvalidSource" = some (.ref (c 2))
  g_InvalidQuantity : mg "InvalidQuantity" = some (.ref (c 3))
  g_InvalidTargets : mg "InvalidTargets" = some (.ref (c 4))
  g_InvalidNudge : mg "InvalidNudge" = some (.ref (c 5))
  g_InvalidOrder : mg "InvalidOrder" = some (.ref (c 6))
  g_InvalidLinks : mg "InvalidLinks" = some (.ref (c 7))
  g_NoLine : mg "NoLine" = some (.ref (c 8))
  g_LineThere : mg "LineThere" = some (.ref (c 9))
  g_TooLarge : mg "TooLarge" = some (.ref (c 10))
  n : ∀ i, i < 11 → ErrOf K (errNm i) (c i)
  k : ∀ i, i < 11 → PySem.W.keepIn K (.ref (c i)) = true
  x : ∀ i, i < 10 → PySem.W.excIn K (c i) [.type "ValueError", .type "Exception", .type "BaseException", .type "object"] "ValueError.__new__" = true
  e : ∀ i, i < 11 → L2.ExcC K (c i)
  s : ∀ i j, i < 11 → j < 11 → PySem.W.kitOne K (.ref (c i)) (.ref (c j)) = some (decide (i = j ∨ j = 0))
  v : ∀ i, i < 11 → PySem.W.kitOne K (.ref (c i)) (.type "ValueError") = some true
  big : PySem.BigX.BigTxt K mg (c 10) fB
  m : ∀ i, i < 11 → PySem.W.exmOne K (.ref (c i)) (.ref (c 0)) = some true
  t : ∀ i, i < 11 → PySem.W.typeIn K (.ref (c i)) = some (.type "type")
structure Txt (K : PySem.W.Frag) (mg : Str → Option Value) : Prop where
  b_isinstance : mg "isinstance" = none
  b_len : mg "len" = none
  b_all : mg "all" = none
  b_repr : mg "repr" = none
  b_abs : mg "abs" = none
  b_max : mg "max" = none
  b_min : mg "min" = none
  b_sorted : mg "sorted" = none
  b_int : mg "int" = none
  b_bool : mg "bool" = none
  b_list : mg "list" = none
  b_tuple : mg "tuple" = none
  b_range : mg "range" = none
  b_enumerate : mg "enumerate" = none
  b_zip : mg "zip" = none
  b_ValueError : mg "ValueError" = none
  c_MOST_QUANTITIES : ∃ t, mg "MOST_QUANTITIES" = some (.int 20 t)
  c_MOST_NUDGES : ∃ t, mg "MOST_NUDGES" = some (.int 8 t)
  fam : ∃ c fB fP, Fam K mg c fB fP
/-! is_integer: slots 0 value -/
abbrev s_is_integer : Stmt := topS 15
abbrev N_is_integer : List Str := ["value"]
abbrev P_is_integer : List Str := ["value"]
theorem sc_is_integer : FnScope N_is_integer P_is_integer (defScope s_is_integer) := ⟨rfl, rfl, rfl, by decide +kernel, rfl, by decide +kernel, by decide +kernel⟩
def sp_is_integer (K : PySem.W.Frag) : Sp := fun vs H Q _ => ∃ v d, vs = [v] ∧ Da K H d v ∧ Q (.bl (isInt d)) H
section
variable {P : Program} {w : World} {K : PySem.W.Frag} {mg : Str → Option Value} {base : Heap}
theorem ok_is_integer {f : Addr} {fd : FuncData} (T : Txt K mg) (F : Fun K "is_integer" "is_integer" s_is_integer f fd) :
    FnG P w K mg base CX0 1 f fd P_is_integer (sp_is_integer K) := by
  refine okG0 F sc_is_integer (fun vs H Q E h => ?_) (fun cdv A outer s H vs Q E hr hq h => ?_)
  · obtain ⟨v, d, rfl, _⟩ := h
    rfl
  · obtain ⟨v, d, rfl, hd, q⟩ := h
    refine ⟨_, (pss_one (ps_ret (pe_and (pe_callB (call_isiK K) (by rfl) T.b_isinstance bt_isinstance (pa_cons (pv 0) (pa_cons (pe_bty T.b_int bt_int) pa_nil))) (pe_one (pe_not (pe_callB (call_isiK K) (by rfl) T.b_isinstance bt_isinstance (pa_cons (pv 0) (pa_cons (pe_bty T.b_bool bt_bool) pa_nil)))))))), ?_⟩
    refine ⟨_, rfl, _, _, _, _, _, rfl, .ty _, hd.ty, isa_int d, _, rfl, ?_⟩
    rw [← isInt_eq] at q
    refine ite2 (fun h1 => ?_) (fun h1 => ?_)
    · refine ⟨_, rfl, _, _, _, _, _, rfl, .ty _, hd.ty, isa_bool d, _, rfl, ?_⟩
      rw [h1, Bool.true_and] at q
      exact q
    · rw [Bool.not_eq_true] at h1
      rw [h1, Bool.false_and] at q
      exact q
end

/-! is_number_below: slots 0 value, 1 limit -/
abbrev s_is_number_below : Stmt := topS 16
abbrev N_is_number_below : List Str := ["value", "limit"]
abbrev P_is_number_below : List Str := ["value", "limit"]
theorem sc_is_number_below : FnScope N_is_number_below P_is_number_below (defScope s_is_number_below) := ⟨rfl, rfl, rfl, by decide +kernel, rfl, by decide +kernel, by decide +kernel⟩
def sp_is_number_below (K : PySem.W.Frag) : Sp := fun vs H Q _ => ∃ v d m, vs = [v, .int m] ∧ Da K H d v ∧ Q (.bl (numB d m)) H
section
variable {P : Program} {w : World} {K : PySem.W.Frag} {mg : Str → Option Value} {base : Heap}
theorem ok_is_number_below {f : Addr} {fd : FuncData} (T : Txt K mg) (F : Fun K "is_number_below" "is_number_below" s_is_number_below f fd)
    (D_is_integer : DefOk P w K mg base CX0 1 "is_integer" P_is_integer (sp_is_integer K)) :
    FnG P w K mg base CX0 2 f fd P_is_number_below (sp_is_number_below K) := by
  refine okG0 F sc_is_number_below (fun vs H Q E h => ?_) (fun cdv A outer s H vs Q E hr hq h => ?_)
  · obtain ⟨v, d, m, rfl, _⟩ := h
    rfl
  · obtain ⟨v, d, m, rfl, hd, q⟩ := h
    refine ⟨_, (pss_one (ps_ret (pe_and (pe_callD D_is_integer (hr.mono (by decide)) hq pass0 (pa_cons (pv 0) pa_nil)) (pe_one (pe_chain op_le op_lt pe_int (pv 0) (pv 1)))))), ?_⟩
    refine ⟨_, rfl, _, _, rfl, hd, _, rfl, ?_⟩
    cases d with
    | int i =>
      obtain rfl := hd
      refine ⟨_, rfl, _, _, rfl, rfl, _, rfl, ?_⟩
      refine ite2 (fun h1 => ?_) (fun h1 => ?_)
      · refine ⟨_, rfl, _, _, rfl, rfl, ?_⟩
        simp only [numB, h1, Bool.true_and] at q
        exact q
      · rw [Bool.not_eq_true] at h1
        simp only [numB, h1, Bool.false_and] at q
        exact q
    | _ => exact q
end

/-! is_tuple_below: slots 0 value, 1 first_limit, 2 second_limit -/
abbrev s_is_tuple_below : Stmt := topS 17
abbrev N_is_tuple_below : List Str := ["value", "first_limit", "second_limit"]
abbrev P_is_tuple_below : List Str := ["value", "first_limit", "second_limit"]
theorem sc_is_tuple_below : FnScope N_is_tuple_below P_is_tuple_below (defScope s_is_tuple_below) := ⟨rfl, rfl, rfl, by decide +kernel, rfl, by decide +kernel, by decide +kernel⟩
def sp_is_tuple_below (K : PySem.W.Frag) : Sp := fun vs H Q _ => ∃ v d m n, vs = [v, .int m, .int n] ∧ Da K H d v ∧ Q (.bl (tupB d m n)) H
section
variable {P : Program} {w : World} {K : PySem.W.Frag} {mg : Str → Option Value} {base : Heap}
theorem ok_is_tuple_below {f : Addr} {fd : FuncData} (T : Txt K mg) (F : Fun K "is_tuple_below" "is_tuple_below" s_is_tuple_below f fd)
    (D_is_number_below : DefOk P w K mg base CX0 2 "is_number_below" P_is_number_below (sp_is_number_below K)) :
    FnG P w K mg base CX0 3 f fd P_is_tuple_below (sp_is_tuple_below K) := by
  refine okG0 F sc_is_tuple_below (fun vs H Q E h => ?_) (fun cdv A outer s H vs Q E hr hq h => ?_)
  · obtain ⟨v, d, m, n, rfl, _⟩ := h
    rfl
  · obtain ⟨v, d, m, n, rfl, hd, q⟩ := h
    refine ⟨_, (pss_cons (ps_if (PW.pt (pw_or (pt_not (pt_val (pe_callB (call_isiK K) (by rfl) T.b_isinstance bt_isinstance (pa_cons (pv 0) (pa_cons (pe_bty T.b_tuple bt_tuple) pa_nil))))) (pw_or1 (pt_cmpR op_ne (pe_callB (call_lenK K) (by rfl) T.b_len bt_len (pa_cons (pv 0) pa_nil)) pe_int (nomark _))))) (pss_one (ps_ret pe_bl)) pss_nil)
      (pss_one (ps_ret (pe_and (pe_callD D_is_number_below (hr.mono (by decide)) hq pass0 (pa_cons (pe_ix (ix_seqK K) (pv 0) pe_int (fun _ _ => rfl)) (pa_cons (pv 1) pa_nil))) (pe_one (pe_callD D_is_number_below (hr.mono (by decide)) hq pass0 (pa_cons (pe_ix (ix_seqK K) (pv 0) pe_int (fun _ _ => rfl)) (pa_cons (pv 2) pa_nil)))))))), ?_⟩
    refine ⟨_, rfl, _, _, _, _, _, rfl, .ty _, hd.ty, isa_tuple d, _, rfl, ?_⟩
    cases d with
    | tuple ds =>
      obtain ⟨a, xs, rfl, hS0, hA⟩ := hd
      have hS : SqT K _ a xs := .inl (.inl hS0)
      have hl := hA.len
      refine ⟨_, rfl, a, _, rfl, .inr hS, rfl, _, rfl, ?_⟩
      refine ite2 (fun h1 => ?_) (fun h1 => ?_)
      · have e : tupB (.tuple ds) m n = false := by
          unfold tupB
          split
          · rename_i heq
            cases heq
            rw [← hl] at h1
            simp at h1
          · rfl
        rw [e] at q
        exact q
      · have h2 : ds.length = 2 := by
          simp at h1
          omega
        obtain ⟨d1, d2, rfl⟩ : ∃ d1 d2, ds = [d1, d2] := by
          match ds, h2 with
          | [d1, d2], _ => exact ⟨d1, d2, rfl⟩
        obtain ⟨x1, r1, rfl, g1, x2, r2, rfl, g2, rfl⟩ := hA
        refine ⟨_, rfl, .inr (.inl ⟨a, _, 0, x1, rfl, rfl, hS, rfl, _, rfl, _, _, _, rfl, g1, _, rfl, ?_⟩)⟩
        refine ite2 (fun h3 => ?_) (fun h3 => ?_)
        · refine ⟨_, rfl, .inr (.inl ⟨a, _, 1, x2, rfl, rfl, hS, rfl, _, rfl, _, _, _, rfl, g2, ?_⟩)⟩
          simp only [tupB, h3, Bool.true_and] at q
          exact q
        · rw [Bool.not_eq_true] at h3
          simp only [tupB, h3, Bool.false_and] at q
          exact q
    | _ => exact q
end

/-! are_below: slots 0 value, 1 limit, 2 one -/
abbrev s_are_below : Stmt := topS 18
abbrev N_are_below : List Str := ["value", "limit", "one"]
abbrev P_are_below : List Str := ["value", "limit"]
theorem sc_are_below : FnScope N_are_below P_are_below (defScope s_are_below) := ⟨rfl, rfl, rfl, by decide +kernel, rfl, by decide +kernel, by decide +kernel⟩
def sp_are_below (K : PySem.W.Frag) : Sp := fun vs H Q _ => ∃ v d m, vs = [v, .int m] ∧ Da K H d v ∧ ∀ H', Ex H H' → Q (.bl (listB d m)) H'
section
variable {P : Program} {w : World} {K : PySem.W.Frag} {mg : Str → Option Value} {base : Heap}
theorem ok_are_below {f : Addr} {fd : FuncData} (T : Txt K mg) (F : Fun K "are_below" "are_below" s_are_below f fd)
    (D_is_number_below : DefOk P w K mg base CX0 2 "is_number_below" P_is_number_below (sp_is_number_below K)) :
    FnG P w K mg base CX0 3 f fd P_are_below (sp_are_below K) := by
  refine okG0 F sc_are_below (fun vs H Q E h => ?_) (fun cdv A outer s H vs Q E hr hq h => ?_)
  · obtain ⟨v, d, m, rfl, _⟩ := h
    rfl
  · obtain ⟨v, d, m, rfl, hd, q⟩ := h
    refine ⟨_, (pss_one (ps_ret (pe_and (pe_callB (call_isiK K) (by rfl) T.b_isinstance bt_isinstance (pa_cons (pv 0) (pa_cons (pe_bty T.b_list bt_list) pa_nil))) (pe_one (pe_callB (cr_allK K rfl) (by rfl) T.b_all bt_all (pa_cons (pe_lc (own := [("one", 2)]) rfl sc_are_below.nd (pi_listK K (pv 0)) (blkOk_by (N := N_are_below) (sc := defScope s_are_below) (by decide +kernel)) (fun _ _ _ _ _ => (pg_name (i := 2) sc_are_below.nd rfl (by first | exact .inl rfl | exact .inr rfl))) (fun _ _ _ _ _ => pts_nil) (fun _ _ _ _ _ => (pe_callD D_is_number_below (hr.mono (by decide)) hq pass0 (pa_cons (pv 2) (pa_cons (pv 1) pa_nil))))) pa_nil)))))), ?_⟩
    refine ⟨_, rfl, _, _, _, _, _, rfl, .ty _, hd.ty, isa_list d, _, rfl, ?_⟩
    cases d with
    | list ds =>
      obtain ⟨a, xs, rfl, hS0, hA, hz⟩ := hd
      have hS : SqL K _ a xs := .inl (.inl hS0)
      have hl := hA.len
      refine ⟨_, rfl, a, rfl, ⟨_, hS⟩, fun D hD => ?_⟩
      refine lc_ev xs.length (fun _ => true) (fun i y _ => y = .bl (numB (ds.getD i .none) m)) (by omega) hD (fun _ _ _ _ _ h => h)
        (fun i H' hi e => itl_go hS e hi) (fun H' e => itl_stop hS e) ?_ ?_
      · intro i H' x H'' hi e _ y Q' N' hQ _
        obtain ⟨rfl, hx⟩ := itl_yld y hS e
        obtain ⟨d, hd, hx'⟩ := hA.at' hx
        refine ⟨rfl, _, rfl, _, rfl, _, _, _, rfl, hx'.up e, ?_⟩
        refine hQ rfl _ _ Ex.rfl ?_
        rw [List.getD_eq_getElem?_getD, hd]
        rfl
      · intro ys H' e hy gv
        refine ⟨D, (List.range xs.length).map fun i => numB (ds.getD i .none) m, rfl, .inl (.inl ?_), ?_⟩
        · rw [hy, gv.all, given_bl]
        · rw [← hl, all_range_get (fun d => numB d m) .none ds]
          exact q _ e
    | _ => exact q _ Ex.rfl
end

/-! are_ascending: slots 0 values, 1 one, 2 following -/
abbrev s_are_ascending : Stmt := topS 19
abbrev N_are_ascending : List Str := ["values", "one", "following"]
abbrev P_are_ascending : List Str := ["values"]
theorem sc_are_ascending : FnScope N_are_ascending P_are_ascending (defScope s_are_ascending) := ⟨rfl, rfl, rfl, by decide +kernel, rfl, by decide +kernel, by decide +kernel⟩
def sp_are_ascending (K : PySem.W.Frag) : Sp := fun vs H Q _ => ∃ v, vs = [v] ∧
  ((∃ ns : List Int, Da K H (.list (ns.map PyData.int)) v ∧ ∀ H', Ex H H' → Q (.bl (ascB ltIn ns)) H') ∨
   (∃ ps : List (Int × Int), Da K H (.list (ps.map dPair)) v ∧ ∀ H', Ex H H' → Q (.bl (ascB ltPr ps)) H'))
section
variable {P : Program} {w : World} {K : PySem.W.Frag} {mg : Str → Option Value} {base : Heap}
theorem ok_are_ascending {f : Addr} {fd : FuncData} (T : Txt K mg) (F : Fun K "are_ascending" "are_ascending" s_are_ascending f fd) :
    FnG P w K mg base CX0 1 f fd P_are_ascending (sp_are_ascending K) := by
  refine okG0 F sc_are_ascending (fun vs H Q E h => ?_) (fun cdv A outer s H vs Q E hr hq h => ?_)
  · obtain ⟨v, rfl, _⟩ := h
    rfl
  · obtain ⟨v, rfl, h⟩ := h
    refine ⟨_, (pss_one (ps_ret (pe_callB (cr_allK K rfl) (by rfl) T.b_all bt_all (pa_cons (pe_lc (own := [("one", 1), ("following", 2)]) rfl sc_are_ascending.nd (pi_zip (by rfl) T.b_zip (pa_cons (pv 0) (pa_cons (pe_slice (sl_listK K) (pv 0) (po_some pe_int) po_none) pa_nil))) (blkOk_by (N := N_are_ascending) (sc := defScope s_are_ascending) (by decide +kernel)) (fun _ _ _ _ _ => (pg_tupK (n := 2) K rfl (pgs_cons (pg_name (i := 1) sc_are_ascending.nd rfl (by first | exact .inl rfl | exact .inr rfl)) (pgs_cons (pg_name (i := 2) sc_are_ascending.nd rfl (by first | exact .inl rfl | exact .inr rfl)) pgs_nil)))) (fun _ _ _ _ _ => pts_nil) (fun _ _ _ _ _ => (pe_cmpR (op_ltA K hr.units0) (pv 1) (pv 2) (nomark _)))) pa_nil)))), ?_⟩
    rcases h with ⟨ns, ⟨a, xs, rfl, hS0, hA, hz⟩, q⟩ | ⟨ps, ⟨a, xs, rfl, hS0, hA, hz⟩, q⟩
    · obtain rfl := DaAll.ints.mp hA
      have hS : SqL K _ a (ns.map V.int) := .inl (.inl hS0)
      rw [List.length_map] at hz
      refine ⟨_, rfl, .ref a, rfl, 1, rfl, a, _, rfl, hS, fun p hp => ?_⟩
      have hS' := (Ex.nw (o := .lst (cutV (ns.map V.int) (some 1) none)) hp).l hS
      have hC : SqL K (upd H p (.lst (cutV (ns.map V.int) (some 1) none))) p ((ns.map V.int).drop 1) := .inl (.inl (by rw [upd_same, cut1]))
      refine ⟨a, p, _, _, rfl, hS', hC, fun D hD => ?_⟩
      refine lc_ev (min (ns.map V.int).length ((ns.map V.int).drop 1).length) (fun _ => true) (fun i y _ => y = .bl (ascAt ltIn ns i)) (by rw [List.length_map]; omega) hD
        (fun _ _ _ _ _ h => h) (fun i H' hi e => itz_go hS' hC e hi) (fun H' e => itz_stop hS' hC e) ?_ ?_
      · rintro i H' x H'' hi e _ ⟨T', x1, x2, rfl, hT, rfl, h1, h2⟩ Q' N' hQ _
        obtain ⟨n1, g1, rfl⟩ := map_at (h1 _ (e.l hS'))
        obtain ⟨n2, g2, rfl⟩ := map_at (drop1_at (h2 _ (e.l hC)))
        refine ⟨T', _, rfl, .inl (.inl upd_same), rfl, _, _, rfl, _, _, rfl, rfl, rfl, _, rfl, _, rfl, .inl ⟨_, _, rfl, rfl, hQ rfl _ _ (Ex.nw hT) ?_⟩⟩
        show V.bl (decide (n1 < n2)) = V.bl (ascAt ltIn ns i)
        simp only [ascAt, g1, g2, ltIn]
      · intro ys H' e hy gv
        refine ⟨D, (List.range (min (ns.map V.int).length ((ns.map V.int).drop 1).length)).map fun i => ascAt ltIn ns i, rfl, .inl (.inl ?_), ?_⟩
        · rw [hy, gv.all, given_bl]
        · rw [min_drop1, List.length_map, ascB_range]
          exact q _ ((Ex.nw hp).tr e)
    · have hS : SqL K _ a xs := .inl (.inl hS0)
      have hl : ps.length = xs.length := by
        have := hA.len
        rw [List.length_map] at this
        exact this
      rw [List.length_map] at hz
      refine ⟨_, rfl, .ref a, rfl, 1, rfl, a, _, rfl, hS, fun p hp => ?_⟩
      have e0 : Ex H (upd H p (.lst (cutV xs (some 1) none))) := Ex.nw hp
      have hS' := e0.l hS
      have hC : SqL K (upd H p (.lst (cutV xs (some 1) none))) p (xs.drop 1) := .inl (.inl (by rw [upd_same, cut1]))
      refine ⟨a, p, _, _, rfl, hS', hC, fun D hD => ?_⟩
      refine lc_ev (min xs.length (xs.drop 1).length) (fun _ => true) (fun i y _ => y = .bl (ascAt ltPr ps i)) (by omega) hD
        (fun _ _ _ _ _ h => h) (fun i H' hi e => itz_go hS' hC e hi) (fun H' e => itz_stop hS' hC e) ?_ ?_
      · rintro i H' x H'' hi e _ ⟨T', x1, x2, rfl, hT, rfl, h1, h2⟩ Q' N' hQ _
        obtain ⟨p1, g1, a1, rfl, t1⟩ := pairs_at hA (h1 _ (e.l hS'))
        obtain ⟨p2, g2, a2, rfl, t2⟩ := pairs_at hA (drop1_at (h2 _ (e.l hC)))
        have e3 := (e0.tr e).tr (Ex.nw (o := .tup [.ref a1, .ref a2]) hT)
        refine ⟨T', _, rfl, .inl (.inl upd_same), rfl, _, _, rfl, _, _, rfl, rfl, rfl, _, rfl, _, rfl,
          .inr ⟨a1, a2, [p1.1, p1.2], [p2.1, p2.2], rfl, rfl, e3.t t1, e3.t t2, hQ rfl _ _ (Ex.nw hT) ?_⟩⟩
        show V.bl (HT.lexLt [p1.1, p1.2] [p2.1, p2.2]) = V.bl (ascAt ltPr ps i)
        simp only [ascAt, g1, g2, ltPr]
      · intro ys H' e hy gv
        refine ⟨D, (List.range (min xs.length (xs.drop 1).length)).map fun i => ascAt ltPr ps i, rfl, .inl (.inl ?_), ?_⟩
        · rw [hy, gv.all, given_bl]
        · rw [min_drop1, ← hl, ascB_range]
          exact q _ ((Ex.nw hp).tr e)
end

/-! are_ascending_tuples: slots 0 value, 1 first_limit, 2 second_limit, 3 one -/
abbrev s_are_ascending_tuples : Stmt := topS 20
abbrev N_are_ascending_tuples : List Str := ["value", "first_limit", "second_limit", "one"]
abbrev P_are_ascending_tuples : List Str := ["value", "first_limit", "second_limit"]
theorem sc_are_ascending_tuples : FnScope N_are_ascending_tuples P_are_ascending_tuples (defScope s_are_ascending_tuples) := ⟨rfl, rfl, rfl, by decide +kernel, rfl, by decide +kernel, by decide +kernel⟩
def sp_are_ascending_tuples (K : PySem.W.Frag) : Sp := fun vs H Q _ => ∃ v d m n, vs = [v, .int m, .int n] ∧ Da K H d v ∧ ∀ H', Ex H H' → Q (.bl (tuplesB d m n)) H'
section
variable {P : Program} {w : World} {K : PySem.W.Frag} {mg : Str → Option Value} {base : Heap}
theorem ok_are_ascending_tuples {f : Addr} {fd : FuncData} (T : Txt K mg) (F : Fun K "are_ascending_tuples" "are_ascending_tuples" s_are_ascending_tuples f fd)
    (D_is_tuple_below : DefOk P w K mg base CX0 3 "is_tuple_below" P_is_tuple_below (sp_is_tuple_below K))
    (D_are_ascending : DefOk P w K mg base CX0 1 "are_ascending" P_are_ascending (sp_are_ascending K)) :
    FnG P w K mg base CX0 4 f fd P_are_ascending_tuples (sp_are_ascending_tuples K) := by
  refine okG0 F sc_are_ascending_tuples (fun vs H Q E h => ?_) (fun cdv A outer s H vs Q E hr hq h => ?_)
  · obtain ⟨v, d, m, n, rfl, _⟩ := h
    rfl
  · obtain ⟨v, d, m, n, rfl, hd, q⟩ := h
    refine ⟨_, (pss_cons (ps_if (pt_not (pt_val (pe_callB (call_isiK K) (by rfl) T.b_isinstance bt_isinstance (pa_cons (pv 0) (pa_cons (pe_bty T.b_list bt_list) pa_nil))))) (pss_one (ps_ret pe_bl)) pss_nil)
      (pss_cons (ps_if (pt_not (pt_val (pe_callB (cr_allK K rfl) (by rfl) T.b_all bt_all (pa_cons (pe_lc (own := [("one", 3)]) rfl sc_are_ascending_tuples.nd (pi_listK K (pv 0)) (blkOk_by (N := N_are_ascending_tuples) (sc := defScope s_are_ascending_tuples) (by decide +kernel)) (fun _ _ _ _ _ => (pg_name (i := 3) sc_are_ascending_tuples.nd rfl (by first | exact .inl rfl | exact .inr rfl))) (fun _ _ _ _ _ => pts_nil) (fun _ _ _ _ _ => (pe_callD D_is_tuple_below (hr.mono (by decide)) hq pass0 (pa_cons (pv 3) (pa_cons (pv 1) (pa_cons (pv 2) pa_nil)))))) pa_nil)))) (pss_one (ps_ret pe_bl)) pss_nil)
      (pss_one (ps_ret (pe_callD D_are_ascending (hr.mono (by decide)) hq pass0 (pa_cons (pv 0) pa_nil)))))), ?_⟩
    refine ⟨_, rfl, _, _, _, _, _, rfl, .ty _, hd.ty, isa_list d, _, rfl, ?_⟩
    cases d with
    | list ds =>
      have hd0 := hd
      obtain ⟨a, xs, rfl, hS0, hA, hz⟩ := hd
      have hS : SqL K _ a xs := .inl (.inl hS0)
      have hl := hA.len
      refine ⟨_, rfl, a, rfl, ⟨_, hS⟩, fun D hD => ?_⟩
      refine lc_ev xs.length (fun _ => true) (fun i y _ => y = .bl (tupB (ds.getD i .none) m n)) (by omega) hD (fun _ _ _ _ _ h => h)
        (fun i H' hi e => itl_go hS e hi) (fun H' e => itl_stop hS e) ?_ ?_
      · intro i H' x H'' hi e _ y Q' N' hQ _
        obtain ⟨rfl, hx⟩ := itl_yld y hS e
        obtain ⟨d, hd, hx'⟩ := hA.at' hx
        refine ⟨rfl, _, rfl, _, rfl, _, rfl, _, _, _, _, rfl, hx'.up e, ?_⟩
        refine hQ rfl _ _ Ex.rfl ?_
        rw [List.getD_eq_getElem?_getD, hd]
        rfl
      · intro ys H' e hy gv
        refine ⟨D, (List.range xs.length).map fun i => tupB (ds.getD i .none) m n, rfl, .inl (.inl ?_), _, rfl, ?_⟩
        · rw [hy, gv.all, given_bl]
        · rw [← hl, all_range_get (fun d => tupB d m n) .none ds]
          refine ite2 (fun h1 => ?_) (fun h1 => ?_)
          · rw [Bool.not_eq_true'] at h1
            have e2 : tuplesB (.list ds) m n = false := by simp only [tuplesB, h1, Bool.false_and]
            rw [e2] at q
            exact q _ e
          · rw [Bool.not_eq_true', Bool.not_eq_false] at h1
            obtain ⟨ps, rfl, _⟩ := pairs_of_all h1
            refine ⟨_, rfl, _, rfl, .inr ⟨ps, hd0.up e, fun H2 e2 => ?_⟩⟩
            have e3 : tuplesB (.list (ps.map dPair)) m n = ascB ltPr ps := by simp only [tuplesB, h1, Bool.true_and, pairsOf_map]
            rw [e3] at q
            exact q _ (e.tr e2)
    | _ => exact q _ Ex.rfl
end

/-! are_targets: slots 0 value, 1 count -/
abbrev s_are_targets : Stmt := topS 21
abbrev N_are_targets : List Str := ["value", "count"]
abbrev P_are_targets : List Str := ["value", "count"]
theorem sc_are_targets : FnScope N_are_targets P_are_targets (defScope s_are_targets) := ⟨rfl, rfl, rfl, by decide +kernel, rfl, by decide +kernel, by decide +kernel⟩
def sp_are_targets (K : PySem.W.Frag) : Sp := fun vs H Q _ => ∃ v d m, vs = [v, .int m] ∧ Da K H d v ∧ ∀ H', Ex H H' → Q (.bl (targetsB d m)) H'
section
variable {P : Program} {w : World} {K : PySem.W.Frag} {mg : Str → Option Value} {base : Heap}
theorem ok_are_targets {f : Addr} {fd : FuncData} (T : Txt K mg) (F : Fun K "are_targets" "are_targets" s_are_targets f fd)
    (D_are_below : DefOk P w K mg base CX0 3 "are_below" P_are_below (sp_are_below K))
    (D_are_ascending : DefOk P w K mg base CX0 1 "are_ascending" P_are_ascending (sp_are_ascending K)) :
    FnG P w K mg base CX0 4 f fd P_are_targets (sp_are_targets K) := by
  refine okG0 F sc_are_targets (fun vs H Q E h => ?_) (fun cdv A outer s H vs Q E hr hq h => ?_)
  · obtain ⟨v, d, m, rfl, _⟩ := h
    rfl
  · obtain ⟨v, d, m, rfl, hd, q⟩ := h
    refine ⟨_, (pss_one (ps_ret (pe_and (pe_callD D_are_below (hr.mono (by decide)) hq pass0 (pa_cons (pv 0) (pa_cons (pv 1) pa_nil))) (pe_and (pe_cmpR op_gt (pe_callB (call_lenK K) (by rfl) T.b_len bt_len (pa_cons (pv 0) pa_nil)) pe_int (nomark _)) (pe_one (pe_callD D_are_ascending (hr.mono (by decide)) hq pass0 (pa_cons (pv 0) pa_nil))))))), ?_⟩
    refine ⟨_, rfl, _, rfl, _, _, _, rfl, hd, fun H1 e1 => ⟨_, rfl, ?_⟩⟩
    refine ite2 (fun h1 => ?_) (fun h1 => ?_)
    · cases d with
      | list ds =>
        obtain ⟨ns, rfl, _⟩ := ints_of_all (show (ds.all fun d => numB d m) = true from h1)
        have hd1 := hd.up e1
        obtain ⟨a, xs, rfl, hS0, hA, hz⟩ := hd1
        have hS : SqL K _ a xs := .inl (.inl hS0)
        have hl := hA.len
        refine ⟨_, rfl, a, _, rfl, .inl hS, _, _, rfl, rfl, _, rfl, ?_⟩
        refine ite2 (fun h2 => ?_) (fun h2 => ?_)
        · refine ⟨_, rfl, _, rfl, .inl ⟨ns, hd.up e1, fun H2 e2 => ?_⟩⟩
          have e3 : targetsB (.list (ns.map PyData.int)) m = ascB ltIn ns := by
            have h3 : ((ns.map PyData.int).all fun d => numB d m) = true := h1
            have h4 : decide (0 < (ns.map PyData.int).length) = true := by
              rw [hl]
              simpa using h2
            simp only [targetsB, h3, h4, Bool.true_and, intsOf_map]
          rw [e3] at q
          exact q _ (e1.tr e2)
        · have e3 : targetsB (.list (ns.map PyData.int)) m = false := by
            have h4 : decide (0 < (ns.map PyData.int).length) = false := by
              rw [hl]
              simpa using h2
            simp only [targetsB, h4, Bool.false_and, Bool.and_false]
          rw [e3] at q
          exact q _ e1
      | _ => exact (Bool.noConfusion h1 : False).elim
    · rw [Bool.not_eq_true] at h1
      have e3 : targetsB d m = false := by
        cases d with
        | list ds =>
          have h3 : (ds.all fun d => numB d m) = false := h1
          simp only [targetsB, h3, Bool.false_and]
        | _ => rfl
      rw [e3] at q
      exact q _ e1
end

/-! are_nudges: slots 0 value, 1 count, 2 nudge -/
abbrev s_are_nudges : Stmt := topS 23
abbrev N_are_nudges : List Str := ["value", "count", "nudge"]
abbrev P_are_nudges : List Str := ["value", "count"]
theorem sc_are_nudges : FnScope N_are_nudges P_are_nudges (defScope s_are_nudges) := ⟨rfl, rfl, rfl, by decide +kernel, rfl, by decide +kernel, by decide +kernel⟩
def sp_are_nudges (K : PySem.W.Frag) : Sp := fun vs H Q _ => ∃ v d m, vs = [v, .int m] ∧ Da K H d v ∧ ∀ H', Ex H H' → Q (.bl (nudgesB d m)) H'
section
variable {P : Program} {w : World} {K : PySem.W.Frag} {mg : Str → Option Value} {base : Heap}
theorem ok_are_nudges {f : Addr} {fd : FuncData} (T : Txt K mg) (F : Fun K "are_nudges" "are_nudges" s_are_nudges f fd)
    (D_are_targets : DefOk P w K mg base CX0 4 "are_targets" P_are_targets (sp_are_targets K)) :
    FnG P w K mg base CX0 5 f fd P_are_nudges (sp_are_nudges K) := by
  refine okG0 F sc_are_nudges (fun vs H Q E h => ?_) (fun cdv A outer s H vs Q E hr hq h => ?_)
  · obtain ⟨v, d, m, rfl, _⟩ := h
    rfl
  · obtain ⟨v, d, m, rfl, hd, q⟩ := h
    refine ⟨_, (pss_cons (ps_if (PW.pt (pw_or (pt_not (pt_val (pe_callB (call_isiK K) (by rfl) T.b_isinstance bt_isinstance (pa_cons (pv 0) (pa_cons (pe_bty T.b_list bt_list) pa_nil))))) (pw_or1 (pt_cmpR op_gt (pe_callB (call_lenK K) (by rfl) T.b_len bt_len (pa_cons (pv 0) pa_nil)) (pe_globI T.c_MOST_NUDGES) (nomark _))))) (pss_one (ps_ret pe_bl)) pss_nil)
      (pss_one (ps_ret (pe_callB (cr_allK K rfl) (by rfl) T.b_all bt_all (pa_cons (pe_lc (own := [("nudge", 2)]) rfl sc_are_nudges.nd (pi_listK K (pv 0)) (blkOk_by (N := N_are_nudges) (sc := defScope s_are_nudges) (by decide +kernel)) (fun _ _ _ _ _ => (pg_name (i := 2) sc_are_nudges.nd rfl (by first | exact .inl rfl | exact .inr rfl))) (fun _ _ _ _ _ => pts_nil) (fun _ _ _ _ _ => (pe_callD D_are_targets (hr.mono (by decide)) hq pass0 (pa_cons (pv 2) (pa_cons (pv 1) pa_nil))))) pa_nil))))), ?_⟩
    refine ⟨_, rfl, _, _, _, _, _, rfl, .ty _, hd.ty, isa_list d, _, rfl, ?_⟩
    cases d with
    | list ds =>
      obtain ⟨a, xs, rfl, hS0, hA, hz⟩ := hd
      have hS : SqL K _ a xs := .inl (.inl hS0)
      have hl := hA.len
      refine ⟨_, rfl, a, _, rfl, .inl hS, _, _, rfl, rfl, _, rfl, ?_⟩
      refine ite2 (fun h1 => ?_) (fun h1 => ?_)
      · have e3 : nudgesB (.list ds) m = false := by
          have h4 : decide (ds.length ≤ 8) = false := by
            rw [hl]
            simp at h1
            simp
            omega
          simp only [nudgesB, h4, Bool.false_and]
        rw [e3] at q
        exact q _ Ex.rfl
      · have e3 : nudgesB (.list ds) m = ds.all fun d => targetsB d m := by
          have h4 : decide (ds.length ≤ 8) = true := by
            rw [hl]
            simp at h1
            simp
            omega
          simp only [nudgesB, h4, Bool.true_and]
        rw [e3] at q
        refine ⟨_, rfl, a, rfl, ⟨_, hS⟩, fun D hD => ?_⟩
        refine lc_ev xs.length (fun _ => true) (fun i y _ => y = .bl (targetsB (ds.getD i .none) m)) (by omega) hD (fun _ _ _ _ _ h => h)
          (fun i H' hi e => itl_go hS e hi) (fun H' e => itl_stop hS e) ?_ ?_
        · intro i H' x H'' hi e _ y Q' N' hQ _
          obtain ⟨rfl, hx⟩ := itl_yld y hS e
          obtain ⟨d, hd, hx'⟩ := hA.at' hx
          refine ⟨rfl, _, rfl, _, rfl, _, _, _, rfl, hx'.up e, fun H2 e2 => ?_⟩
          refine hQ rfl _ _ e2 ?_
          rw [List.getD_eq_getElem?_getD, hd]
          rfl
        · intro ys H' e hy gv
          refine ⟨D, (List.range xs.length).map fun i => targetsB (ds.getD i .none) m, rfl, .inl (.inl ?_), ?_⟩
          · rw [hy, gv.all, given_bl]
          · rw [← hl, all_range_get (fun d => targetsB d m) .none ds]
            exact q _ e
    | _ => exact q _ Ex.rfl
end

/-! has_web_shape: slots 0 value, 1 count, 2 pairs, 3 nudges -/
abbrev s_has_web_shape : Stmt := topS 24
abbrev N_has_web_shape : List Str := ["value", "count", "pairs", "nudges"]
abbrev P_has_web_shape : List Str := ["value"]
theorem sc_has_web_shape : FnScope N_has_web_shape P_has_web_shape (defScope s_has_web_shape) := ⟨rfl, rfl, rfl, by decide +kernel, rfl, by decide +kernel, by decide +kernel⟩
def sp_has_web_shape (K : PySem.W.Frag) : Sp := fun vs H Q _ => ∃ v d, vs = [v] ∧ Da K H d v ∧ ∀ H', Ex H H' → Q (.bl (webB d)) H'
section
variable {P : Program} {w : World} {K : PySem.W.Frag} {mg : Str → Option Value} {base : Heap}
theorem ok_has_web_shape {f : Addr} {fd : FuncData} (T : Txt K mg) (F : Fun K "has_web_shape" "has_web_shape" s_has_web_shape f fd)
    (D_is_integer : DefOk P w K mg base CX0 1 "is_integer" P_is_integer (sp_is_integer K))
    (D_are_ascending_tuples : DefOk P w K mg base CX0 4 "are_ascending_tuples" P_are_ascending_tuples (sp_are_ascending_tuples K))
    (D_are_nudges : DefOk P w K mg base CX0 5 "are_nudges" P_are_nudges (sp_are_nudges K)) :
    FnG P w K mg base CX0 6 f fd P_has_web_shape (sp_has_web_shape K) := by
  refine okG0 F sc_has_web_shape (fun vs H Q E h => ?_) (fun cdv A outer s H vs Q E hr hq h => ?_)
  · obtain ⟨v, d, rfl, _⟩ := h
    rfl
  · obtain ⟨v, d, rfl, hd, q⟩ := h
    refine ⟨_, (pss_cons (ps_if (PW.pt (pw_or (pt_not (pt_val (pe_callB (call_isiK K) (by rfl) T.b_isinstance bt_isinstance (pa_cons (pv 0) (pa_cons (pe_bty T.b_tuple bt_tuple) pa_nil))))) (pw_or1 (pt_cmpR op_ne (pe_callB (call_lenK K) (by rfl) T.b_len bt_len (pa_cons (pv 0) pa_nil)) pe_int (nomark _))))) (pss_one (ps_ret pe_bl)) pss_nil)
      (pss_cons (ps_asg (pv 0) (pg_tupK (n := 3) K rfl (pgs_cons (pg_name (i := 1) sc_has_web_shape.nd rfl (by first | exact .inl rfl | exact .inr rfl)) (pgs_cons (pg_name (i := 2) sc_has_web_shape.nd rfl (by first | exact .inl rfl | exact .inr rfl)) (pgs_cons (pg_name (i := 3) sc_has_web_shape.nd rfl (by first | exact .inl rfl | exact .inr rfl)) pgs_nil)))))
      (pss_cons (ps_if (PW.pt (pw_or (pt_not (pt_val (pe_callD D_is_integer (hr.mono (by decide)) hq pass0 (pa_cons (pv 1) pa_nil)))) (pw_or1 (pt_not (pt_chain op_le op_le pe_int (pv 1) (pe_globI T.c_MOST_QUANTITIES)))))) (pss_one (ps_ret pe_bl)) pss_nil)
      (pss_one (ps_ret (pe_and (pe_callD D_are_ascending_tuples (hr.mono (by decide)) hq pass0 (pa_cons (pv 2) (pa_cons (pv 1) (pa_cons (pv 1) pa_nil)))) (pe_one (pe_callD D_are_nudges (hr.mono (by decide)) hq pass0 (pa_cons (pv 3) (pa_cons (pv 1) pa_nil)))))))))), ?_⟩
    refine ⟨_, rfl, _, _, _, _, _, rfl, .ty _, hd.ty, isa_tuple d, _, rfl, ?_⟩
    cases d with
    | tuple ds =>
      obtain ⟨a, xs, rfl, hS0, hA⟩ := hd
      have hS : SqT K _ a xs := .inl (.inl hS0)
      have hl := hA.len
      refine ⟨_, rfl, a, _, rfl, .inr hS, rfl, _, rfl, ?_⟩
      refine ite2 (fun h1 => ?_) (fun h1 => ?_)
      · have e : webB (.tuple ds) = false := by
          unfold webB
          split
          · rename_i heq
            cases heq
            rw [← hl] at h1
            simp at h1
          · rfl
        rw [e] at q
        exact q _ Ex.rfl
      · have h2 : ds.length = 3 := by
          simp at h1
          omega
        obtain ⟨d1, d2, d3, rfl⟩ : ∃ d1 d2 d3, ds = [d1, d2, d3] := by
          match ds, h2 with
          | [d1, d2, d3], _ => exact ⟨d1, d2, d3, rfl⟩
        obtain ⟨x1, r1, rfl, g1, x2, r2, rfl, g2, x3, r3, rfl, g3, rfl⟩ := hA
        refine ⟨_, rfl, a, _, rfl, hS, rfl, _, _, rfl, _, _, rfl, _, _, rfl, rfl, ?_⟩
        refine ⟨_, rfl, _, _, rfl, g1, _, rfl, ?_⟩
        cases d1 with
        | int n =>
          obtain rfl := g1
          refine ⟨_, rfl, _, _, rfl, rfl, _, rfl, ?_⟩
          refine ite2 (fun h3 => ?_) (fun h3 => ?_)
          · refine ⟨_, _, rfl, rfl, _, rfl, ?_⟩
            refine ite2 (fun h4 => ?_) (fun h4 => ?_)
            · have e : webB (.tuple [.int n, d2, d3]) = false := by
                have h5 : decide (n ≤ 20) = false := by simpa using h4
                simp only [webB, h5, Bool.and_false, Bool.false_and]
              rw [e] at q
              exact q _ Ex.rfl
            · have e : webB (.tuple [.int n, d2, d3]) = (tuplesB d2 n n && nudgesB d3 n) := by
                have h5 : decide (n ≤ 20) = true := by simpa using h4
                simp only [webB, h5, h3, Bool.true_and]
              rw [e] at q
              refine ⟨_, rfl, _, rfl, _, rfl, _, _, _, _, rfl, g2, fun H1 e1 => ⟨_, rfl, ?_⟩⟩
              refine ite2 (fun h6 => ?_) (fun h6 => ?_)
              · refine ⟨_, rfl, _, rfl, _, _, _, rfl, g3.up e1, fun H2 e2 => ?_⟩
                rw [h6, Bool.true_and] at q
                exact q _ (e1.tr e2)
              · rw [Bool.not_eq_true] at h6
                rw [h6, Bool.false_and] at q
                exact q _ e1
          · have e : webB (.tuple [.int n, d2, d3]) = false := by
              rw [Bool.not_eq_true] at h3
              simp only [webB, h3, Bool.false_and]
            rw [e] at q
            exact ⟨_, rfl, q _ Ex.rfl⟩
        | _ => exact q _ Ex.rfl
    | _ => exact q _ Ex.rfl
end

end K46
namespace K46
open PySem PySem.Spec PyProof.Rows L2 Nw
/-! are_all_below: slots 0 value, 1 count -/
abbrev s_are_all_below : Stmt := topS 22
abbrev N_are_all_below : List Str := ["value", "count"]
abbrev P_are_all_below : List Str := ["value", "count"]
theorem sc_are_all_below : FnScope N_are_all_below P_are_all_below (defScope s_are_all_below) := ⟨rfl, rfl, rfl, by decide +kernel, rfl, by decide +kernel, by decide +kernel⟩
theorem rgV_iota (n : Int) : rgV 0 n = (iota n).map V.int := by
  unfold rgV iota
  rw [List.map_map, show (n - 0) = n by omega]
  refine List.map_congr_left fun i _ => ?_
  show V.int (0 + (i : Int)) = V.int (i : Int)
  rw [Int.zero_add]
theorem listB_inv {d : PyData} {m : Int} (h : listB d m = true) : ∃ r, d = dInts r ∧ ∀ q ∈ r, 0 ≤ q ∧ q < m := by
  cases d with
  | list ds =>
    obtain ⟨ns, rfl, hn⟩ := ints_of_all h
    exact ⟨ns, rfl, hn⟩
  | _ => simp [listB] at h
theorem listB_ord {o : List Int} {n : Int} (ho : IsOrd n o) : listB (dInts o) n = true := by
  show (o.map PyData.int).all (fun d => numB d n) = true
  simp only [List.all_map, List.all_eq_true]
  intro t ht
  have := ho.mem.mp ht
  simp [numB, this.1, this.2]
def sp_are_all_below (K : PySem.W.Frag) : Sp := fun vs H Q _ => ∃ v d n, vs = [v, .int n] ∧ Da K H d v ∧ (1 ≤ n ∧ n ≤ 20) ∧ ∀ H', Ex H H' → Q (.bl (ordB d n)) H'
section
variable {P : Program} {w : World} {K : PySem.W.Frag} {mg : Str → Option Value} {base : Heap}
theorem ok_are_all_below {f : Addr} {fd : FuncData} (T : Txt K mg) (F : Fun K "are_all_below" "are_all_below" s_are_all_below f fd)
    (D_are_below : DefOk P w K mg base CX0 3 "are_below" P_are_below (sp_are_below K)) :
    FnG P w K mg base CX0 4 f fd P_are_all_below (sp_are_all_below K) := by
  refine okG0 F sc_are_all_below (fun vs H Q E h => ?_) (fun cdv A outer s H vs Q E hr hq h => ?_)
  · obtain ⟨v, d, n, rfl, _⟩ := h
    rfl
  · obtain ⟨v, d, n, rfl, hd, hn, q⟩ := h
    refine ⟨_, (pss_one (ps_ret (pe_and (pe_callD D_are_below (hr.mono (by decide)) hq pass0 (pa_cons (pv 0) (pa_cons (pv 1) pa_nil))) (pe_one (pe_cmpR (op_eqDk K hr.units) (pe_callB (cr_sortedIk K) (by rfl) T.b_sorted bt_sorted (pa_cons (pv 0) pa_nil)) (pe_listRg rfl (by rfl) T.b_list (prg_1 (by rfl) T.b_range (pv 1))) (nomark _)))))), ?_⟩
    refine ⟨_, rfl, _, rfl, v, _, n, rfl, hd, fun H1 e1 => ?_⟩
    cases hb : listB d n with
    | false =>
      have e : ordB d n = false := by
        cases ho : ordB d n with
        | false => rfl
        | true =>
          obtain ⟨o, rfl, h1⟩ := ordB_of.mp ho
          rw [listB_ord h1] at hb
          cases hb
      rw [e] at q
      exact ⟨_, rfl, q _ e1⟩
    | true =>
    obtain ⟨o, rfl, hin⟩ := listB_inv hb
    refine ⟨_, rfl, ?_⟩
    obtain ⟨a, rfl, hS⟩ := dInts_at (hd.up e1)
    have hz : o.length ≤ 100000 := by
      obtain ⟨_, _, _, _, _, h⟩ := hd
      rw [List.length_map] at h
      exact h
    refine ⟨_, rfl, a, o, rfl, hS, fun ns p hp hw hpn => ?_⟩
    refine ⟨_, rfl, n, rfl, RgOk.of_le (by omega) (by omega) (by omega) (by omega), fun r hr' => ?_⟩
    have en : decide (ns = iota n) = ordB (dInts o) n := by
      rw [Bool.eq_iff_iff, decide_eq_true_eq, ordB_of]
      constructor
      · intro e
        exact ⟨o, rfl, by show o.Perm (iota n); rw [← e]; exact hp.symm⟩
      · rintro ⟨o', e, ho⟩
        obtain rfl := dInts_inj e
        exact ascI_ext (asc_sortedI hp hw ho.nd) (asc_iota n) fun x => hp.mem_iff.trans (ho.mem.trans mem_iota.symm)
    have e2 : Ex H1 (upd H1 p (.lst (ns.map V.int))) := Ex.nw hpn
    have f2 : (upd H1 p (.lst (ns.map V.int))) p = some (.lst (ns.map V.int)) := upd_same
    generalize upd H1 p (.lst (ns.map V.int)) = H2 at e2 f2 hr'
    have e3 : Ex H2 (upd H2 r (.lst (rgV 0 n))) := Ex.nw hr'
    have f3 : (upd H2 r (.lst (rgV 0 n))) r = some (.lst ((iota n).map V.int)) := by
      rw [upd_same, rgV_iota]
    generalize upd H2 r (.lst (rgV 0 n)) = H3 at e3 f3
    have hl : (iota n).length ≤ 100000 := by
      rw [List.length_map, List.length_range]
      omega
    refine ⟨_, _, (dInts_of (e3 _ _ f2) (by rw [hp.length_eq]; exact hz)).dInts, (dInts_of f3 hl).dInts, sh_dInts _, sh_dInts _, ?_⟩
    rw [eqv_dInts, en]
    exact q _ ((e1.tr e2).tr e3)
end

/-! check_web: slots 0 web -/
abbrev s_check_web : Stmt := topS 26
abbrev N_check_web : List Str := ["web"]
abbrev P_check_web : List Str := ["web"]
theorem sc_check_web : FnScope N_check_web P_check_web (defScope s_check_web) := ⟨rfl, rfl, rfl, by decide +kernel, rfl, by decide +kernel, by decide +kernel⟩
def sp_check_web (K : PySem.W.Frag) : Sp := fun vs H Q E => ∃ v d, vs = [v] ∧ Da K H d v ∧ ChkO K H Q E (webB d) "InvalidWeb"
section
variable {P : Program} {w : World} {K : PySem.W.Frag} {mg : Str → Option Value} {base : Heap}
theorem ok_check_web {f : Addr} {fd : FuncData} (T : Txt K mg) (F : Fun K "check_web" "check_web" s_check_web f fd)
    (D_has_web_shape : DefOk P w K mg base CX0 6 "has_web_shape" P_has_web_shape (sp_has_web_shape K)) :
    FnG P w K mg base (L2.CX P w) 7 f fd P_check_web (sp_check_web K) := by
  obtain ⟨c, fB, fP, hc⟩ := T.fam
  refine okG F sc_check_web (fun vs H Q E h => ?_) (fun cdv A outer s H vs Q E hr hq h => ?_)
  · obtain ⟨v, d, rfl, _⟩ := h
    rfl
  · obtain ⟨v, d, rfl, hd, q⟩ := h
    refine ⟨_, (pss_one (ps_if (pt_not (pt_val (pe_callD D_has_web_shape (hr.mono (by decide)) hq pass0 (pa_cons (pv 0) pa_nil)))) (pss_one (ps_raise rfl (takes_of rfl rfl rfl rfl) (SkE.pmk_own1 PySem.F.excBase_ValueError (hc.x 1 (by decide)) hc.g_InvalidWeb (hc.k 1 (by decide)) (raises_own (hc.e 1 (by decide)).hs (hc.t 1 (by decide))) (by rfl) pe_str))) pss_nil)), ?_⟩
    refine ⟨_, rfl, _, _, rfl, hd, fun H1 e1 => ⟨_, rfl, ?_⟩⟩
    cases hb : webB d with
    | false => exact ite2 (fun _ => q.1 hb _ _ (hc.n 1 (by decide)) e1) (fun h => absurd rfl h)
    | true => exact ite2 (fun h => Bool.noConfusion h) (fun _ => q.2 hb _ e1)
end

/-! check_source: slots 0 web, 1 source, 2 many -/
abbrev s_check_source : Stmt := topS 27
abbrev N_check_source : List Str := ["web", "source", "many"]
abbrev P_check_source : List Str := ["web", "source"]
theorem sc_check_source : FnScope N_check_source P_check_source (defScope s_check_source) := ⟨rfl, rfl, rfl, by decide +kernel, rfl, by decide +kernel, by decide +kernel⟩
def sp_check_source (K : PySem.W.Frag) : Sp := fun vs H Q E => ∃ v u x d, vs = [v, x] ∧ Da K H (Wb.d u) v ∧ u.Ok ∧ Da K H d x ∧ ChkO K H Q E (numB d (u.n + u.ns.length)) "InvalidSource"
section
variable {P : Program} {w : World} {K : PySem.W.Frag} {mg : Str → Option Value} {base : Heap}
theorem ok_check_source {f : Addr} {fd : FuncData} (T : Txt K mg) (F : Fun K "check_source" "check_source" s_check_source f fd)
    (D_is_number_below : DefOk P w K mg base CX0 2 "is_number_below" P_is_number_below (sp_is_number_below K)) :
    FnG P w K mg base (L2.CX P w) 3 f fd P_check_source (sp_check_source K) := by
  obtain ⟨c, fB, fP, hc⟩ := T.fam
  refine okG F sc_check_source (fun vs H Q E h => ?_) (fun cdv A outer s H vs Q E hr hq h => ?_)
  · obtain ⟨v, u, x, d, rfl, _⟩ := h
    rfl
  · obtain ⟨v, u, x, d, rfl, hd, hu, hx, q⟩ := h
    have b1 := hu.lo
    have b2 := hu.hi
    have b3 := hu.few
    obtain ⟨t, x2, x3, rfl, hS, g2, g3⟩ := Wb.at hd
    obtain ⟨a, xs, rfl, hL0, hA, hz⟩ := g3
    have hl := hA.len
    rw [List.length_map] at hl
    refine ⟨_, (pss_cons (ps_set (i := 2) sc_check_source.nd rfl (by first | exact .inl rfl | exact .inr rfl) (pe_op op_add (pe_ix (ix_seqK K) (pv 0) pe_int (fun _ _ => rfl)) (pe_callB (call_lenK K) (by rfl) T.b_len bt_len (pa_cons (pe_ix (ix_seqK K) (pv 0) pe_int (fun _ _ => rfl)) pa_nil))))
      (pss_one (ps_if (pt_not (pt_val (pe_callD D_is_number_below (hr.mono (by decide)) hq pass0 (pa_cons (pv 1) (pa_cons (pv 2) pa_nil))))) (pss_one (ps_raise rfl (takes_of rfl rfl rfl rfl) (SkE.pmk_own1 PySem.F.excBase_ValueError (hc.x 2 (by decide)) hc.g_InvalidSource (hc.k 2 (by decide)) (raises_own (hc.e 2 (by decide)).hs (hc.t 2 (by decide))) (by rfl) (pe_joined (PJ.cons pe_str (PJ.cons (pe_fmt (pv 2)) (PJ.cons pe_str PJ.nil))))))) pss_nil))), ?_⟩
    obtain ⟨s1, s2⟩ := small_text (i := (u.n + (u.ns.length : Int))) (by omega) (by omega)
    have k1 := cat_len (x := Str.empty) (y := "not the number of one of ") (m := 0) (n := 25) (by decide) (by decide) (by decide)
    have k2 := cat_len k1.2 s2 (by decide)
    have k3 := cat_len (y := " sources") (n := 8) k2.2 (by decide) (by decide)
    refine ⟨_, rfl, .inr (.inl ⟨t, _, 0, _, rfl, rfl, hS, rfl, ?_⟩)⟩
    refine ⟨_, rfl, .inr (.inl ⟨t, _, 2, _, rfl, rfl, hS, rfl, ?_⟩)⟩
    refine ⟨a, _, rfl, .inl (.inl (.inl hL0)), _, _, rfl, rfl, ?_⟩
    rw [← hl]
    refine ⟨_, rfl, _, rfl, x, d, _, rfl, hx, ?_⟩
    cases hb : numB d (u.n + u.ns.length) with
    | true => exact ⟨true, rfl, ite2 (fun h => Bool.noConfusion h) (fun _ => q.2 hb _ Ex.rfl)⟩
    | false =>
      refine ⟨false, rfl, ite2 (fun _ => ?_) (fun h => absurd rfl h)⟩
      refine ⟨_, rfl, k1.1, ?_⟩
      refine ⟨_, rfl, .inr ⟨u.n + (u.ns.length : Int), rfl, s1, _, rfl, k2.1, ?_⟩⟩
      refine ⟨_, rfl, k3.1, ?_⟩
      exact q.1 hb _ _ (hc.n 2 (by decide)) Ex.rfl
end

/-! check_quantity: slots 0 web, 1 quantity -/
abbrev s_check_quantity : Stmt := topS 28
abbrev N_check_quantity : List Str := ["web", "quantity"]
abbrev P_check_quantity : List Str := ["web", "quantity"]
theorem sc_check_quantity : FnScope N_check_quantity P_check_quantity (defScope s_check_quantity) := ⟨rfl, rfl, rfl, by decide +kernel, rfl, by decide +kernel, by decide +kernel⟩
def sp_check_quantity (K : PySem.W.Frag) : Sp := fun vs H Q E => ∃ v u x d, vs = [v, x] ∧ Da K H (Wb.d u) v ∧ u.Ok ∧ Da K H d x ∧ ChkO K H Q E (numB d u.n) "InvalidQuantity"
section
variable {P : Program} {w : World} {K : PySem.W.Frag} {mg : Str → Option Value} {base : Heap}
theorem ok_check_quantity {f : Addr} {fd : FuncData} (T : Txt K mg) (F : Fun K "check_quantity" "check_quantity" s_check_quantity f fd)
    (D_is_number_below : DefOk P w K mg base CX0 2 "is_number_below" P_is_number_below (sp_is_number_below K)) :
    FnG P w K mg base (L2.CX P w) 3 f fd P_check_quantity (sp_check_quantity K) := by
  obtain ⟨c, fB, fP, hc⟩ := T.fam
  refine okG F sc_check_quantity (fun vs H Q E h => ?_) (fun cdv A outer s H vs Q E hr hq h => ?_)
  · obtain ⟨v, u, x, d, rfl, _⟩ := h
    rfl
  · obtain ⟨v, u, x, d, rfl, hd, hu, hx, q⟩ := h
    have b1 := hu.lo
    have b2 := hu.hi
    have b3 := hu.few
    obtain ⟨t, x2, x3, rfl, hS, g2, g3⟩ := Wb.at hd
    obtain ⟨a, xs, rfl, hL0, hA, hz⟩ := g3
    have hl := hA.len
    rw [List.length_map] at hl
    refine ⟨_, (pss_one (ps_if (pt_not (pt_val (pe_callD D_is_number_below (hr.mono (by decide)) hq pass0 (pa_cons (pv 1) (pa_cons (pe_ix (ix_seqK K) (pv 0) pe_int (fun _ _ => rfl)) pa_nil))))) (pss_one (ps_raise rfl (takes_of rfl rfl rfl rfl) (SkE.pmk_own1 PySem.F.excBase_ValueError (hc.x 3 (by decide)) hc.g_InvalidQuantity (hc.k 3 (by decide)) (raises_own (hc.e 3 (by decide)).hs (hc.t 3 (by decide))) (by rfl) (pe_joined (PJ.cons pe_str (PJ.cons (pe_fmt (pe_ix (ix_seqK K) (pv 0) pe_int (fun _ _ => rfl))) (PJ.cons pe_str PJ.nil))))))) pss_nil)), ?_⟩
    obtain ⟨s1, s2⟩ := small_text (i := u.n) (by omega) (by omega)
    have k1 := cat_len (x := Str.empty) (y := "not the number of one of ") (m := 0) (n := 25) (by decide) (by decide) (by decide)
    have k2 := cat_len k1.2 s2 (by decide)
    have k3 := cat_len (y := " quantities") (n := 11) k2.2 (by decide) (by decide)
    refine ⟨_, rfl, _, rfl, .inr (.inl ⟨t, _, 0, _, rfl, rfl, hS, rfl, ?_⟩)⟩
    refine ⟨x, d, u.n, rfl, hx, ?_⟩
    cases hb : numB d u.n with
    | true => exact ⟨true, rfl, ite2 (fun h => Bool.noConfusion h) (fun _ => q.2 hb _ Ex.rfl)⟩
    | false =>
      refine ⟨false, rfl, ite2 (fun _ => ?_) (fun h => absurd rfl h)⟩
      refine ⟨_, rfl, k1.1, ?_⟩
      refine ⟨_, rfl, .inr (.inl ⟨t, _, 0, _, rfl, rfl, hS, rfl, .inr ⟨u.n, rfl, s1, _, rfl, k2.1, ?_⟩⟩)⟩
      refine ⟨_, rfl, k3.1, ?_⟩
      exact q.1 hb _ _ (hc.n 3 (by decide)) Ex.rfl
end

/-! check_targets: slots 0 web, 1 targets -/
abbrev s_check_targets : Stmt := topS 29
abbrev N_check_targets : List Str := ["web", "targets"]
abbrev P_check_targets : List Str := ["web", "targets"]
theorem sc_check_targets : FnScope N_check_targets P_check_targets (defScope s_check_targets) := ⟨rfl, rfl, rfl, by decide +kernel, rfl, by decide +kernel, by decide +kernel⟩
def sp_check_targets (K : PySem.W.Frag) : Sp := fun vs H Q E => ∃ v u x d, vs = [v, x] ∧ Da K H (Wb.d u) v ∧ u.Ok ∧ Da K H d x ∧ ChkO K H Q E (targetsB d u.n) "InvalidTargets"
section
variable {P : Program} {w : World} {K : PySem.W.Frag} {mg : Str → Option Value} {base : Heap}
theorem ok_check_targets {f : Addr} {fd : FuncData} (T : Txt K mg) (F : Fun K "check_targets" "check_targets" s_check_targets f fd)
    (D_are_targets : DefOk P w K mg base CX0 4 "are_targets" P_are_targets (sp_are_targets K)) :
    FnG P w K mg base (L2.CX P w) 5 f fd P_check_targets (sp_check_targets K) := by
  obtain ⟨c, fB, fP, hc⟩ := T.fam
  refine okG F sc_check_targets (fun vs H Q E h => ?_) (fun cdv A outer s H vs Q E hr hq h => ?_)
  · obtain ⟨v, u, x, d, rfl, _⟩ := h
    rfl
  · obtain ⟨v, u, x, d, rfl, hd, hu, hx, q⟩ := h
    have b1 := hu.lo
    have b2 := hu.hi
    have b3 := hu.few
    obtain ⟨t, x2, x3, rfl, hS, g2, g3⟩ := Wb.at hd
    obtain ⟨a, xs, rfl, hL0, hA, hz⟩ := g3
    have hl := hA.len
    rw [List.length_map] at hl
    refine ⟨_, (pss_one (ps_if (pt_not (pt_val (pe_callD D_are_targets (hr.mono (by decide)) hq pass0 (pa_cons (pv 1) (pa_cons (pe_ix (ix_seqK K) (pv 0) pe_int (fun _ _ => rfl)) pa_nil))))) (pss_one (ps_raise rfl (takes_of rfl rfl rfl rfl) (SkE.pmk_own1 PySem.F.excBase_ValueError (hc.x 4 (by decide)) hc.g_InvalidTargets (hc.k 4 (by decide)) (raises_own (hc.e 4 (by decide)).hs (hc.t 4 (by decide))) (by rfl) (pe_joined (PJ.cons pe_str (PJ.cons (pe_fmt (pe_ix (ix_seqK K) (pv 0) pe_int (fun _ _ => rfl))) (PJ.cons pe_str PJ.nil))))))) pss_nil)), ?_⟩
    obtain ⟨s1, s2⟩ := small_text (i := u.n) (by omega) (by omega)
    have k1 := cat_len (x := Str.empty) (y := "not an ascending list of one or more of ") (m := 0) (n := 40) (by decide) (by decide) (by decide)
    have k2 := cat_len k1.2 s2 (by decide)
    have k3 := cat_len (y := " quantities") (n := 11) k2.2 (by decide) (by decide)
    refine ⟨_, rfl, _, rfl, .inr (.inl ⟨t, _, 0, _, rfl, rfl, hS, rfl, ?_⟩)⟩
    refine ⟨x, d, u.n, rfl, hx, fun H1 e1 => ?_⟩
    cases hb : targetsB d u.n with
    | true => exact ⟨true, rfl, ite2 (fun h => Bool.noConfusion h) (fun _ => q.2 hb _ e1)⟩
    | false =>
      refine ⟨false, rfl, ite2 (fun _ => ?_) (fun h => absurd rfl h)⟩
      refine ⟨_, rfl, k1.1, ?_⟩
      refine ⟨_, rfl, .inr (.inl ⟨t, _, 0, _, rfl, rfl, e1.t hS, rfl, .inr ⟨u.n, rfl, s1, _, rfl, k2.1, ?_⟩⟩)⟩
      refine ⟨_, rfl, k3.1, ?_⟩
      exact q.1 hb _ _ (hc.n 4 (by decide)) e1
end

/-! check_nudge: slots 0 web, 1 nudge -/
abbrev s_check_nudge : Stmt := topS 30
abbrev N_check_nudge : List Str := ["web", "nudge"]
abbrev P_check_nudge : List Str := ["web", "nudge"]
theorem sc_check_nudge : FnScope N_check_nudge P_check_nudge (defScope s_check_nudge) := ⟨rfl, rfl, rfl, by decide +kernel, rfl, by decide +kernel, by decide +kernel⟩
def sp_check_nudge (K : PySem.W.Frag) : Sp := fun vs H Q E => ∃ v u x d, vs = [v, x] ∧ Da K H (Wb.d u) v ∧ u.Ok ∧ Da K H d x ∧ ChkO K H Q E (numB d u.ns.length) "InvalidNudge"
section
variable {P : Program} {w : World} {K : PySem.W.Frag} {mg : Str → Option Value} {base : Heap}
theorem ok_check_nudge {f : Addr} {fd : FuncData} (T : Txt K mg) (F : Fun K "check_nudge" "check_nudge" s_check_nudge f fd)
    (D_is_number_below : DefOk P w K mg base CX0 2 "is_number_below" P_is_number_below (sp_is_number_below K)) :
    FnG P w K mg base (L2.CX P w) 3 f fd P_check_nudge (sp_check_nudge K) := by
  obtain ⟨c, fB, fP, hc⟩ := T.fam
  refine okG F sc_check_nudge (fun vs H Q E h => ?_) (fun cdv A outer s H vs Q E hr hq h => ?_)
  · obtain ⟨v, u, x, d, rfl, _⟩ := h
    rfl
  · obtain ⟨v, u, x, d, rfl, hd, hu, hx, q⟩ := h
    have b1 := hu.lo
    have b2 := hu.hi
    have b3 := hu.few
    obtain ⟨t, x2, x3, rfl, hS, g2, g3⟩ := Wb.at hd
    obtain ⟨a, xs, rfl, hL0, hA, hz⟩ := g3
    have hl := hA.len
    rw [List.length_map] at hl
    refine ⟨_, (pss_one (ps_if (pt_not (pt_val (pe_callD D_is_number_below (hr.mono (by decide)) hq pass0 (pa_cons (pv 1) (pa_cons (pe_callB (call_lenK K) (by rfl) T.b_len bt_len (pa_cons (pe_ix (ix_seqK K) (pv 0) pe_int (fun _ _ => rfl)) pa_nil)) pa_nil))))) (pss_one (ps_raise rfl (takes_of rfl rfl rfl rfl) (SkE.pmk_own1 PySem.F.excBase_ValueError (hc.x 5 (by decide)) hc.g_InvalidNudge (hc.k 5 (by decide)) (raises_own (hc.e 5 (by decide)).hs (hc.t 5 (by decide))) (by rfl) (pe_joined (PJ.cons pe_str (PJ.cons (pe_fmt (pe_callB (call_lenK K) (by rfl) T.b_len bt_len (pa_cons (pe_ix (ix_seqK K) (pv 0) pe_int (fun _ _ => rfl)) pa_nil))) (PJ.cons pe_str PJ.nil))))))) pss_nil)), ?_⟩
    obtain ⟨s1, s2⟩ := small_text (i := (u.ns.length : Int)) (by omega) (by omega)
    have k1 := cat_len (x := Str.empty) (y := "not the number of one of ") (m := 0) (n := 25) (by decide) (by decide) (by decide)
    have k2 := cat_len k1.2 s2 (by decide)
    have k3 := cat_len (y := " nudges") (n := 7) k2.2 (by decide) (by decide)
    refine ⟨_, rfl, _, rfl, .inr (.inl ⟨t, _, 2, _, rfl, rfl, hS, rfl, ?_⟩)⟩
    refine ⟨a, _, rfl, .inl (.inl (.inl hL0)), ?_⟩
    rw [← hl]
    refine ⟨x, d, _, rfl, hx, ?_⟩
    cases hb : numB d u.ns.length with
    | true => exact ⟨true, rfl, ite2 (fun h => Bool.noConfusion h) (fun _ => q.2 hb _ Ex.rfl)⟩
    | false =>
      refine ⟨false, rfl, ite2 (fun _ => ?_) (fun h => absurd rfl h)⟩
      refine ⟨_, rfl, k1.1, ?_⟩
      refine ⟨_, rfl, .inr (.inl ⟨t, _, 2, _, rfl, rfl, hS, rfl, a, _, rfl, .inl (.inl (.inl hL0)), ?_⟩)⟩
      rw [← hl]
      refine .inr ⟨(u.ns.length : Int), rfl, s1, _, rfl, k2.1, ?_⟩
      refine ⟨_, rfl, k3.1, ?_⟩
      exact q.1 hb _ _ (hc.n 5 (by decide)) Ex.rfl
end

/-! check_order: slots 0 web, 1 order -/
abbrev s_check_order : Stmt := topS 31
abbrev N_check_order : List Str := ["web", "order"]
abbrev P_check_order : List Str := ["web", "order"]
theorem sc_check_order : FnScope N_check_order P_check_order (defScope s_check_order) := ⟨rfl, rfl, rfl, by decide +kernel, rfl, by decide +kernel, by decide +kernel⟩
def sp_check_order (K : PySem.W.Frag) : Sp := fun vs H Q E => ∃ v u x d, vs = [v, x] ∧ Da K H (Wb.d u) v ∧ u.Ok ∧ Da K H d x ∧ ChkO K H Q E (ordB d u.n) "InvalidOrder"
section
variable {P : Program} {w : World} {K : PySem.W.Frag} {mg : Str → Option Value} {base : Heap}
theorem ok_check_order {f : Addr} {fd : FuncData} (T : Txt K mg) (F : Fun K "check_order" "check_order" s_check_order f fd)
    (D_are_all_below : DefOk P w K mg base CX0 4 "are_all_below" P_are_all_below (sp_are_all_below K)) :
    FnG P w K mg base (L2.CX P w) 5 f fd P_check_order (sp_check_order K) := by
  obtain ⟨c, fB, fP, hc⟩ := T.fam
  refine okG F sc_check_order (fun vs H Q E h => ?_) (fun cdv A outer s H vs Q E hr hq h => ?_)
  · obtain ⟨v, u, x, d, rfl, _⟩ := h
    rfl
  · obtain ⟨v, u, x, d, rfl, hd, hu, hx, q⟩ := h
    have b1 := hu.lo
    have b2 := hu.hi
    have b3 := hu.few
    obtain ⟨t, x2, x3, rfl, hS, g2, g3⟩ := Wb.at hd
    obtain ⟨a, xs, rfl, hL0, hA, hz⟩ := g3
    have hl := hA.len
    rw [List.length_map] at hl
    refine ⟨_, (pss_one (ps_if (pt_not (pt_val (pe_callD D_are_all_below (hr.mono (by decide)) hq pass0 (pa_cons (pv 1) (pa_cons (pe_ix (ix_seqK K) (pv 0) pe_int (fun _ _ => rfl)) pa_nil))))) (pss_one (ps_raise rfl (takes_of rfl rfl rfl rfl) (SkE.pmk_own1 PySem.F.excBase_ValueError (hc.x 6 (by decide)) hc.g_InvalidOrder (hc.k 6 (by decide)) (raises_own (hc.e 6 (by decide)).hs (hc.t 6 (by decide))) (by rfl) (pe_joined (PJ.cons pe_str (PJ.cons (pe_fmt (pe_ix (ix_seqK K) (pv 0) pe_int (fun _ _ => rfl))) (PJ.cons pe_str PJ.nil))))))) pss_nil)), ?_⟩
    obtain ⟨s1, s2⟩ := small_text (i := u.n) (by omega) (by omega)
    have k1 := cat_len (x := Str.empty) (y := "not a list of all ") (m := 0) (n := 18) (by decide) (by decide) (by decide)
    have k2 := cat_len k1.2 s2 (by decide)
    have k3 := cat_len (y := " quantities, each once") (n := 22) k2.2 (by decide) (by decide)
    refine ⟨_, rfl, _, rfl, .inr (.inl ⟨t, _, 0, _, rfl, rfl, hS, rfl, ?_⟩)⟩
    refine ⟨x, d, u.n, rfl, hx, ⟨b1, b2⟩, fun H1 e1 => ?_⟩
    cases hb : ordB d u.n with
    | true => exact ⟨true, rfl, ite2 (fun h => Bool.noConfusion h) (fun _ => q.2 hb _ e1)⟩
    | false =>
      refine ⟨false, rfl, ite2 (fun _ => ?_) (fun h => absurd rfl h)⟩
      refine ⟨_, rfl, k1.1, ?_⟩
      refine ⟨_, rfl, .inr (.inl ⟨t, _, 0, _, rfl, rfl, e1.t hS, rfl, .inr ⟨u.n, rfl, s1, _, rfl, k2.1, ?_⟩⟩)⟩
      refine ⟨_, rfl, k3.1, ?_⟩
      exact q.1 hb _ _ (hc.n 6 (by decide)) e1
end

/-! check_links: slots 0 web, 1 second, 2 links -/
abbrev s_check_links : Stmt := topS 32
abbrev N_check_links : List Str := ["web", "second", "links"]
abbrev P_check_links : List Str := ["web", "second", "links"]
theorem sc_check_links : FnScope N_check_links P_check_links (defScope s_check_links) := ⟨rfl, rfl, rfl, by decide +kernel, rfl, by decide +kernel, by decide +kernel⟩
def sp_check_links (K : PySem.W.Frag) : Sp := fun vs H Q E => ∃ v1 v2 u v l d, vs = [v1, v2, l] ∧ Da K H (Wb.d u) v1 ∧ Da K H (Wb.d v) v2 ∧ Da K H d l ∧ ChkO K H Q E (tuplesB d u.n v.n) "InvalidLinks"
section
variable {P : Program} {w : World} {K : PySem.W.Frag} {mg : Str → Option Value} {base : Heap}
theorem ok_check_links {f : Addr} {fd : FuncData} (T : Txt K mg) (F : Fun K "check_links" "check_links" s_check_links f fd)
    (D_are_ascending_tuples : DefOk P w K mg base CX0 4 "are_ascending_tuples" P_are_ascending_tuples (sp_are_ascending_tuples K)) :
    FnG P w K mg base (L2.CX P w) 5 f fd P_check_links (sp_check_links K) := by
  obtain ⟨c, fB, fP, hc⟩ := T.fam
  refine okG F sc_check_links (fun vs H Q E h => ?_) (fun cdv A outer s H vs Q E hr hq h => ?_)
  · obtain ⟨v1, v2, u, v, l, d, rfl, _⟩ := h
    rfl
  · obtain ⟨v1, v2, u, v, l, d, rfl, hd, hd2, hl, q⟩ := h
    obtain ⟨t, x2, x3, rfl, hS, _, _⟩ := Wb.at hd
    obtain ⟨t2, y2, y3, rfl, hS2, _, _⟩ := Wb.at hd2
    refine ⟨_, (pss_one (ps_if (pt_not (pt_val (pe_callD D_are_ascending_tuples (hr.mono (by decide)) hq pass0 (pa_cons (pv 2) (pa_cons (pe_ix (ix_seqK K) (pv 0) pe_int (fun _ _ => rfl)) (pa_cons (pe_ix (ix_seqK K) (pv 1) pe_int (fun _ _ => rfl)) pa_nil)))))) (pss_one (ps_raise rfl (takes_of rfl rfl rfl rfl) (SkE.pmk_own1 PySem.F.excBase_ValueError (hc.x 7 (by decide)) hc.g_InvalidLinks (hc.k 7 (by decide)) (raises_own (hc.e 7 (by decide)).hs (hc.t 7 (by decide))) (by rfl) pe_str))) pss_nil)), ?_⟩
    refine ⟨_, rfl, _, rfl, .inr (.inl ⟨t, _, 0, _, rfl, rfl, hS, rfl, ?_⟩)⟩
    refine ⟨_, rfl, .inr (.inl ⟨t2, _, 0, _, rfl, rfl, hS2, rfl, ?_⟩)⟩
    refine ⟨_, _, _, _, rfl, hl, fun H1 e1 => ?_⟩
    cases hb : tuplesB d u.n v.n with
    | true => exact ⟨true, rfl, ite2 (fun h => Bool.noConfusion h) (fun _ => q.2 hb _ e1)⟩
    | false => exact ⟨false, rfl, ite2 (fun _ => q.1 hb _ _ (hc.n 7 (by decide)) e1) (fun h => absurd rfl h)⟩
end

end K46
namespace K46
open PySem PySem.Spec PyProof.Rows L2 Nw
/-! all_lines: slots 0 web, 1 count, 2 pairs, 3 nudges, 4 pushed, 5 target, 6 at, 7 nudge -/
abbrev s_all_lines : Stmt := topS 37
abbrev N_all_lines : List Str := ["web", "count", "pairs", "nudges", "pushed", "target", "at", "nudge"]
abbrev P_all_lines : List Str := ["web"]
theorem sc_all_lines : FnScope N_all_lines P_all_lines (defScope s_all_lines) := ⟨rfl, rfl, rfl, by decide +kernel, rfl, by decide +kernel, by decide +kernel⟩
def sp_all_lines (K : PySem.W.Frag) : Sp := fun vs H Q _ => ∃ v u, vs = [v] ∧ Da K H (Wb.d u) v ∧ u.Ok ∧
  ∀ p xs H', H p = none → Ex H H' → H' p = some (.lst xs) → DaAll K H' (u.lines.map dPair) xs → Q (.ref p) H'
section
variable {P : Program} {w : World} {K : PySem.W.Frag} {mg : Str → Option Value} {base : Heap}
theorem ok_all_lines {f : Addr} {fd : FuncData} (T : Txt K mg) (F : Fun K "all_lines" "all_lines" s_all_lines f fd) :
    FnG P w K mg base CX0 1 f fd P_all_lines (sp_all_lines K) := by
  refine okG0 F sc_all_lines (fun vs H Q E h => ?_) (fun cdv A outer s H vs Q E hr hq h => ?_)
  · obtain ⟨v, u, rfl, _⟩ := h
    rfl
  · obtain ⟨v, u, rfl, hd, hu, q⟩ := h
    obtain ⟨t, x2, x3, rfl, hS, ⟨a2, ys, rfl, hL20, hA2, hz2⟩, ⟨a, xs, rfl, hL0, hA, hz⟩⟩ := Wb.at hd
    have hL : SqL K _ a xs := .inl (.inl hL0)
    have hL2 : SqL K _ a2 ys := .inl (.inl hL20)
    have hl2 := hA2.len
    have hl := hA.len
    rw [List.length_map] at hl hl2
    refine ⟨_, (pss_cons (ps_asg (pv 0) (pg_tupK (n := 3) K rfl (pgs_cons (pg_name (i := 1) sc_all_lines.nd rfl (by first | exact .inl rfl | exact .inr rfl)) (pgs_cons (pg_name (i := 2) sc_all_lines.nd rfl (by first | exact .inl rfl | exact .inr rfl)) (pgs_cons (pg_name (i := 3) sc_all_lines.nd rfl (by first | exact .inl rfl | exact .inr rfl)) pgs_nil)))))
      (pss_cons (ps_setLc2 (i := 4) (own := [("at", 6), ("nudge", 7), ("target", 5)]) (vs1 := [5]) rfl sc_all_lines.nd rfl rfl (sw_true rfl rfl rfl (by decide +kernel)) (pi_enum (by rfl) T.b_enumerate (pa_cons (pv 3) pa_nil)) (blkOk_by (N := N_all_lines) (sc := defScope s_all_lines) (by decide +kernel)) (by decide) (fun _ _ _ _ _ => (pg_tupK (n := 2) K rfl (pgs_cons (pg_name (i := 6) sc_all_lines.nd rfl (by first | exact .inl rfl | exact .inr rfl)) (pgs_cons (pg_name (i := 7) sc_all_lines.nd rfl (by first | exact .inl rfl | exact .inr rfl)) pgs_nil)))) (fun _ _ _ _ _ => pts_nil) (fun _ _ _ _ _ => (pi_listK K (pv 7))) (fun _ _ _ _ _ => (pg_name (i := 5) sc_all_lines.nd rfl (by first | exact .inl rfl | exact .inr rfl))) (fun _ _ _ _ _ => pts_nil) (fun _ _ _ _ _ => (pe_tup (pa_cons (pe_op op_add (pv 1) (pv 6)) (pa_cons (pv 5) pa_nil)))))
      (pss_one (ps_ret (pe_op (op_catS K) (pv 2) (pv 4)))))), ?_⟩
    refine ⟨_, rfl, t, _, rfl, hS, rfl, _, _, rfl, _, _, rfl, _, _, rfl, rfl, ?_⟩
    refine ⟨_, rfl, a, xs, rfl, hL, fun D hD => ?_⟩
    have nD : ∀ {b o}, H b = some o → b ≠ D := fun h e => by
      rw [e, hD] at h
      cases h
    refine lc2_by xs.length (fun i H' => Ex H H' ∧ ∃ acc, H' D = some (.lst acc) ∧ OffD D acc ∧ DaAll K H' ((pushedFrom u.n 0 (u.ns.take i)).map dPair) acc)
      ⟨Ex.nw hD, [], upd_same, OffD.nil, rfl⟩ (fun i H' hi p => ite_go hL p.1 hi) (fun H' p => ite_stop hL p.1) ?_ ?_
    · rintro i H1 x H2 hi ⟨e1, acc0, hD0, hacc0, hA0⟩ ⟨T1, y1, rfl, hT1, rfl, hy1⟩
      have g1 := hy1 xs (e1.l hL)
      obtain ⟨dr, hdr, hx⟩ := hA.at' g1
      obtain ⟨r, hrr, rfl⟩ := map_at hdr
      obtain ⟨ar, rfl, hLr⟩ := dInts_at hx
      have e2 : Ex H1 (upd H1 T1 (.tup [.int (i : Nat), .ref ar])) := Ex.nw hT1
      refine ⟨T1, _, rfl, .inl (.inl upd_same), rfl, _, _, rfl, _, _, rfl, rfl, rfl, ?_⟩
      refine ⟨_, rfl, ar, rfl, ⟨_, e2.l (e1.l hLr)⟩, ?_⟩
      refine lci_by (r.map V.int).length (fun j H' => Ex H H' ∧ ∃ acc, H' D = some (.lst acc) ∧ OffD D acc ∧
          DaAll K H' ((pushedFrom u.n 0 (u.ns.take i) ++ pushedAt u.n i (r.take j)).map dPair) acc)
        ⟨e1.tr e2, acc0, e2 _ _ hD0, hacc0, ?_⟩ (fun j H' hj p => itl_go hLr p.1 hj) (fun H' p => itl_stop hLr p.1) ?_ ?_
      · rw [List.take_zero]
        simp only [pushedAt, List.map_nil, List.append_nil]
        exact hA0.up e2
      · rintro j H3 x H4 hj ⟨e3, acc, hD3, hacc, hA3⟩ ⟨rfl, hx⟩
        obtain ⟨z, hz', rfl⟩ := map_at (hx _ (e3.l hLr))
        refine ⟨rfl, ?_⟩
        refine ⟨_, rfl, _, rfl, _, _, rfl, rfl, _, rfl, by show 2 ≤ sizeLine; decide, fun T2 hT2 => ?_⟩
        have hT2D : T2 ≠ D := fun e => by
          rw [e, hD3] at hT2
          cases hT2
        have hac : acc.length ≤ 1500 := by
          have h1 := hA3.len
          rw [List.length_map, List.length_append] at h1
          have h2 := pushed_len u.n (u.ns.take i) 0 (fun r hr => hu.row (List.mem_of_mem_take hr))
          have h3 := hu.row (List.mem_of_getElem? hrr)
          have h4 := hu.few
          simp only [pushedAt, List.length_map, List.length_take] at h1 h2
          omega
        refine ⟨acc, by rw [upd_ne hT2D.symm]; exact hD3, mil' (by omega), (e3.tr (Ex.nw hT2)).wr hD, _, upd_same, hacc.snoc hT2D, ?_⟩
        have hT3 : (upd (upd H4 T2 (.tup [.int (u.n + (i : Int)), .int z])) D (.lst (acc ++ [.ref T2]))) T2 = some (.tup [.int (u.n + (i : Int)), .int z]) := by
          rw [upd_ne hT2D, upd_same]
        have et : r.take (j + 1) = r.take j ++ [z] := by rw [List.take_add_one, hz']; rfl
        rw [et]
        simp only [pushedAt, List.map_append, List.map_cons, List.map_nil, ← List.append_assoc]
        refine DaAll.app ?_ ⟨_, _, rfl, dPair_of (p := (u.n + (i : Int), z)) hT3, rfl⟩
        rw [← List.map_append]
        exact pairs_keep ((Ex.nw hT2).d.tr ExD.put) hA3 hacc
      · rintro H3 ⟨e3, acc, hD3, hacc, hA3⟩
        refine ⟨e3, acc, hD3, hacc, ?_⟩
        rw [List.length_map, List.take_length] at hA3
        rw [pushedFrom_take u.n u.ns 0 i r hrr, Nat.zero_add]
        exact hA3
    · rintro H1 ⟨e1, acc, hD1, hacc, hA1⟩
      rw [← hl, List.take_length] at hA1
      have hac : acc.length ≤ 160 := by
        have h1 := hA1.len
        have h2 := pushed_len u.n u.ns 0 (fun r hr => hu.row hr)
        have h4 := hu.few
        rw [List.length_map] at h1
        omega
      refine ⟨_, rfl, _, rfl, a2, D, ys, acc, rfl, rfl, e1.l hL2, .inl (.inl hD1), by have := hu.len; omega, fun p hp => ?_⟩
      refine q p _ _ (e1.fr hp) (e1.nw2 hp) upd_same ?_
      unfold Wb.lines
      rw [List.map_append]
      exact (hA2.up (e1.nw2 hp)).app (hA1.up (Ex.nw hp))
end

/-! target_rows: slots 0 web, 1 rows, 2 _, 3 source, 4 target -/
abbrev s_target_rows : Stmt := topS 38
abbrev N_target_rows : List Str := ["web", "rows", "_", "source", "target"]
abbrev P_target_rows : List Str := ["web"]
theorem sc_target_rows : FnScope N_target_rows P_target_rows (defScope s_target_rows) := ⟨rfl, rfl, rfl, by decide +kernel, rfl, by decide +kernel, by decide +kernel⟩
def sp_target_rows (K : PySem.W.Frag) : Sp := fun vs H Q _ => ∃ v u, vs = [v] ∧ Da K H (Wb.d u) v ∧ u.Ok ∧
  ∀ p as H', RowsAt H H' p as (u.n.toNat + u.ns.length) (fun s => rowOf u.lines (s : Int)) → Q (.ref p) H'
section
variable {P : Program} {w : World} {K : PySem.W.Frag} {mg : Str → Option Value} {base : Heap}
theorem ok_target_rows {f : Addr} {fd : FuncData} (T : Txt K mg) (F : Fun K "target_rows" "target_rows" s_target_rows f fd)
    (D_all_lines : DefOk P w K mg base CX0 1 "all_lines" P_all_lines (sp_all_lines K)) :
    FnG P w K mg base CX0 2 f fd P_target_rows (sp_target_rows K) := by
  refine okG0 F sc_target_rows (fun vs H Q E h => ?_) (fun cdv A outer s H vs Q E hr hq h => ?_)
  · obtain ⟨v, u, rfl, _⟩ := h
    rfl
  · obtain ⟨v, u, rfl, hd, hu, q⟩ := h
    obtain ⟨t, x2, x3, rfl, hS, g2, ⟨a, xs, rfl, hL0, hA, hz⟩⟩ := Wb.at hd
    have hL : SqL K _ a xs := .inl (.inl hL0)
    have hl := hA.len
    rw [List.length_map] at hl
    have b1 := hu.lo
    have b2 := hu.hi
    have b3 := hu.few
    refine ⟨_, (pss_cons (ps_setLc (i := 1) (own := [("_", 2)]) rfl sc_target_rows.nd rfl rfl (sw_true rfl rfl rfl (by decide +kernel)) (pi_range1 (by rfl) T.b_range (pa_cons (pe_op op_add (pe_ix (ix_seqK K) (pv 0) pe_int (fun _ _ => rfl)) (pe_callB (call_lenK K) (by rfl) T.b_len bt_len (pa_cons (pe_ix (ix_seqK K) (pv 0) pe_int (fun _ _ => rfl)) pa_nil))) pa_nil)) (blkOk_by (N := N_target_rows) (sc := defScope s_target_rows) (by decide +kernel)) (fun _ _ _ _ _ => (pg_name (i := 2) sc_target_rows.nd rfl (by first | exact .inl rfl | exact .inr rfl))) (fun _ _ _ _ _ => pts_nil) (fun _ _ _ _ _ => (pe_lst pa_nil)))
      (pss_cons (ps_for PassesOwn.never rfl (pi_listK K (pe_callD D_all_lines (hr.mono (by decide)) hq pass0 (pa_cons (pv 0) pa_nil))) (pg_tupK (n := 2) K rfl (pgs_cons (pg_name (i := 3) sc_target_rows.nd rfl (by first | exact .inl rfl | exact .inr rfl)) (pgs_cons (pg_name (i := 4) sc_target_rows.nd rfl (by first | exact .inl rfl | exact .inr rfl)) pgs_nil))) (pss_one (ps_expr (pe_bm PySem.F.plainAttrs_list PySem.F.slot_list_append PySem.F.type_list_append mt_append (pe_ix (ix_seqK K) (pv 1) (pv 3) (fun _ _ => rfl)) (pa_cons (pv 4) pa_nil)))))
      (pss_one (ps_ret (pv 1))))), ?_⟩
    refine ⟨_, rfl, .inr (.inl ⟨t, _, 0, _, rfl, rfl, hS, rfl, ?_⟩)⟩
    refine ⟨_, rfl, .inr (.inl ⟨t, _, 2, _, rfl, rfl, hS, rfl, ?_⟩)⟩
    refine ⟨a, _, rfl, .inl hL, _, _, rfl, rfl, _, rfl, by omega, by omega, fun D hD => ?_⟩
    refine lc_by (u.n + (xs.length : Int)).toNat (fun i H' => Ex H H' ∧ ∃ as : List Addr, H' D = some (.lst (as.map V.ref)) ∧ as.Nodup ∧ as.length = i ∧
        ∀ b ∈ as, H b = none ∧ b ≠ D ∧ H' b = some (.lst []))
      ⟨Ex.nw hD, [], upd_same, List.nodup_nil, rfl, fun b hb => by cases hb⟩ (fun i H' hi p => hi) (fun H' p => Nat.le_refl _) ?_ ?_
    · rintro i H1 x H2 hi ⟨e1, as, hD1, nd, hlen, hall⟩ ⟨rfl, rfl⟩
      refine ⟨rfl, Nat.zero_le _, fun b hb => ?_⟩
      have hbD : b ≠ D := fun e => by
        rw [e, hD1] at hb
        cases hb
      refine ⟨as.map V.ref, by rw [upd_ne hbD.symm]; exact hD1, mil' (by rw [List.length_map]; omega), (e1.tr (Ex.nw hb)).wr hD, as ++ [b], ?_, ?_, ?_, ?_⟩
      · rw [upd_same, List.map_append]
        rfl
      · refine nodup_snoc nd fun hm => ?_
        rw [(hall b hm).2.2] at hb
        cases hb
      · rw [List.length_append, hlen]
        rfl
      · intro c hc
        rcases List.mem_append.mp hc with hc | hc
        · obtain ⟨c1, c2, c3⟩ := hall c hc
          refine ⟨c1, c2, ?_⟩
          rw [upd_ne c2, upd_ne (ne_of_none c3 hb)]
          exact c3
        · obtain rfl := List.mem_singleton.mp hc
          exact ⟨e1.fr hb, hbD, by rw [upd_ne hbD, upd_same]⟩
    · rintro H1 ⟨e1, as, hD1, nd, hlen, hall⟩
      refine ⟨_, rfl, _, u, rfl, hd.up e1, hu, fun L zs H2 hL2 e2 hLs hA2 => ?_⟩
      refine ⟨L, rfl, ⟨zs, .inl (.inl hLs)⟩, ?_⟩
      have hl2 := hA2.len
      rw [List.length_map] at hl2
      have LD : L ≠ D := fun e => by
        rw [e, hD1] at hL2
        cases hL2
      have Las : ∀ b ∈ as, b ≠ L := fun b hb e => by
        rw [← e, (hall b hb).2.2] at hL2
        cases hL2
      refine for_by zs.length (fun i σ H' => ∃ y2 y3 y4, σ = [some (V.ref t), some (V.ref D), y2, y3, y4] ∧ Ex H H' ∧ H' D = some (.lst (as.map V.ref)) ∧ H' L = some (.lst zs) ∧
          (∀ (k : Nat) (p : Int × Int), u.lines[k]? = some p → ∃ b, zs[k]? = some (V.ref b) ∧ SqT K H' b [.int p.1, .int p.2]) ∧
          ∀ (s : Nat) (b : Addr), as[s]? = some b → H' b = some (.lst ((rowOf (u.lines.take i) (s : Int)).map V.int)))
        ⟨_, _, _, rfl, e1.tr e2, e2 _ _ hD1, hLs, ?_, ?_⟩ (fun i σ H' hi p => ?_) (fun σ H' p => ?_) ?_ ?_
      · intro k p hp
        obtain ⟨x, hx, hdx⟩ := hA2.at (i := k) (d := dPair p) (by rw [List.getElem?_map, hp]; rfl)
        obtain ⟨b, ys, rfl, hSb, z1, r1, rfl, f1, z2, r2, rfl, f2, rfl⟩ := hdx
        obtain rfl := f1
        obtain rfl := f2
        exact ⟨b, hx, .inl (.inl hSb)⟩
      · intro s b hb
        have := (hall b (List.mem_of_getElem? hb)).2.2
        rw [List.take_zero, rowOf_nil]
        exact e2 _ _ this
      · obtain ⟨_, _, _, _, _, _, h4, _⟩ := p
        exact itl_go (.inl (.inl h4)) Ex.rfl hi
      · obtain ⟨_, _, _, _, _, _, h4, _⟩ := p
        exact itl_stop (.inl (.inl h4)) Ex.rfl
      · rintro i σ H3 x H4 hi ⟨y2, y3, y4, rfl, e3, hD3, hL3, hT3, hR3⟩ ⟨rfl, hx⟩
        have hx := hx zs (.inl (.inl hL3))
        rw [← hl2] at hi
        have hp := List.getElem?_eq_getElem hi
        generalize u.lines[i] = p at hp
        obtain ⟨b, hb, hSb⟩ := hT3 i p hp
        rw [hx] at hb
        cases hb
        obtain ⟨⟨p1, p2⟩, _⟩ := hu.line p (List.mem_of_getElem? hp)
        have hs : p.1.toNat < as.length := by rw [hlen]; omega
        have hc := List.getElem?_eq_getElem hs
        generalize as[p.1.toNat] = c at hc
        have hcl := hR3 _ _ hc
        obtain ⟨c1, c2, _⟩ := hall c (List.mem_of_getElem? hc)
        have c3 := Las c (List.mem_of_getElem? hc)
        have el : ((p.1.toNat : Nat) : Int) = p.1 := Int.toNat_of_nonneg p1
        have hsz : ((rowOf (u.lines.take i) ((p.1.toNat : Nat) : Int)).map V.int).length < sizeLine := by
          refine mil' ?_
          have h1 := rowOf_len (u.lines.take i) ((p.1.toNat : Nat) : Int)
          have h2 := hu.lines_len
          rw [List.length_take] at h1
          rw [List.length_map]
          omega
        refine ⟨b, _, rfl, hSb, rfl, _, _, rfl, _, _, rfl, rfl, ?_⟩
        refine ⟨.ref D, rfl, .int p.1, rfl, .inl ⟨D, _, p.1, .ref c, rfl, rfl, .inl (.inl hD3), ?_, .inl ⟨rfl, _, .inl (.inl hcl)⟩, _, rfl, c, _, _, rfl, rfl, hcl, hsz, ?_⟩⟩
        · exact atI_int p1 (by rw [List.getElem?_map, hc]; rfl)
        · refine ⟨_, _, _, rfl, e3.wr c1, by rw [upd_ne c2.symm]; exact hD3, by rw [upd_ne c3.symm]; exact hL3, ?_, ?_⟩
          · intro k q' hq'
            obtain ⟨b', hb', hS'⟩ := hT3 k q' hq'
            exact ⟨b', hb', SqT.wr hS' hcl⟩
          · intro s d hd'
            rw [take_snoc hp, rowOf_app, rowOf_one]
            by_cases es : s = p.1.toNat
            · subst es
              rw [hc] at hd'
              cases hd'
              rw [upd_same, if_pos el.symm, List.map_append]
              rfl
            · have ne : d ≠ c := nodup_at nd hd' hc es
              rw [upd_ne ne, if_neg (by omega), List.append_nil]
              exact hR3 s d hd'
      · rintro σ H3 ⟨y2, y3, y4, rfl, e3, hD3, hL3, hT3, hR3⟩
        refine ⟨_, rfl, q D as H3 ⟨hD, e3, hD3, nd, fun b hb => ⟨(hall b hb).1, (hall b hb).2.1⟩, by rw [hlen, ← hl]; omega, ?_⟩⟩
        rw [← hl2, List.take_length] at hR3
        exact hR3
end

/-! source_rows: slots 0 web, 1 rows, 2 _, 3 source, 4 target -/
abbrev s_source_rows : Stmt := topS 39
abbrev N_source_rows : List Str := ["web", "rows", "_", "source", "target"]
abbrev P_source_rows : List Str := ["web"]
theorem sc_source_rows : FnScope N_source_rows P_source_rows (defScope s_source_rows) := ⟨rfl, rfl, rfl, by decide +kernel, rfl, by decide +kernel, by decide +kernel⟩
def sp_source_rows (K : PySem.W.Frag) : Sp := fun vs H Q _ => ∃ v u, vs = [v] ∧ Da K H (Wb.d u) v ∧ u.Ok ∧
  ∀ p as H', RowsAt H H' p as u.n.toNat (fun s => srcsOf u.lines (s : Int)) → Q (.ref p) H'
section
variable {P : Program} {w : World} {K : PySem.W.Frag} {mg : Str → Option Value} {base : Heap}
theorem ok_source_rows {f : Addr} {fd : FuncData} (T : Txt K mg) (F : Fun K "source_rows" "source_rows" s_source_rows f fd)
    (D_all_lines : DefOk P w K mg base CX0 1 "all_lines" P_all_lines (sp_all_lines K)) :
    FnG P w K mg base CX0 2 f fd P_source_rows (sp_source_rows K) := by
  refine okG0 F sc_source_rows (fun vs H Q E h => ?_) (fun cdv A outer s H vs Q E hr hq h => ?_)
  · obtain ⟨v, u, rfl, _⟩ := h
    rfl
  · obtain ⟨v, u, rfl, hd, hu, q⟩ := h
    obtain ⟨t, x2, x3, rfl, hS, g2, ⟨a, xs, rfl, hL0, hA, hz⟩⟩ := Wb.at hd
    have hL : SqL K _ a xs := .inl (.inl hL0)
    have hl := hA.len
    rw [List.length_map] at hl
    have b1 := hu.lo
    have b2 := hu.hi
    have b3 := hu.few
    refine ⟨_, (pss_cons (ps_setLc (i := 1) (own := [("_", 2)]) rfl sc_source_rows.nd rfl rfl (sw_true rfl rfl rfl (by decide +kernel)) (pi_range1 (by rfl) T.b_range (pa_cons (pe_ix (ix_seqK K) (pv 0) pe_int (fun _ _ => rfl)) pa_nil)) (blkOk_by (N := N_source_rows) (sc := defScope s_source_rows) (by decide +kernel)) (fun _ _ _ _ _ => (pg_name (i := 2) sc_source_rows.nd rfl (by first | exact .inl rfl | exact .inr rfl))) (fun _ _ _ _ _ => pts_nil) (fun _ _ _ _ _ => (pe_lst pa_nil)))
      (pss_cons (ps_for PassesOwn.never rfl (pi_listK K (pe_callD D_all_lines (hr.mono (by decide)) hq pass0 (pa_cons (pv 0) pa_nil))) (pg_tupK (n := 2) K rfl (pgs_cons (pg_name (i := 3) sc_source_rows.nd rfl (by first | exact .inl rfl | exact .inr rfl)) (pgs_cons (pg_name (i := 4) sc_source_rows.nd rfl (by first | exact .inl rfl | exact .inr rfl)) pgs_nil))) (pss_one (ps_expr (pe_bm PySem.F.plainAttrs_list PySem.F.slot_list_append PySem.F.type_list_append mt_append (pe_ix (ix_seqK K) (pv 1) (pv 4) (fun _ _ => rfl)) (pa_cons (pv 3) pa_nil)))))
      (pss_one (ps_ret (pv 1))))), ?_⟩
    refine ⟨_, rfl, .inr (.inl ⟨t, _, 0, _, rfl, rfl, hS, rfl, ?_⟩)⟩
    refine ⟨_, rfl, by omega, by omega, fun D hD => ?_⟩
    refine lc_by u.n.toNat (fun i H' => Ex H H' ∧ ∃ as : List Addr, H' D = some (.lst (as.map V.ref)) ∧ as.Nodup ∧ as.length = i ∧
        ∀ b ∈ as, H b = none ∧ b ≠ D ∧ H' b = some (.lst []))
      ⟨Ex.nw hD, [], upd_same, List.nodup_nil, rfl, fun b hb => by cases hb⟩ (fun i H' hi p => hi) (fun H' p => Nat.le_refl _) ?_ ?_
    · rintro i H1 x H2 hi ⟨e1, as, hD1, nd, hlen, hall⟩ ⟨rfl, rfl⟩
      refine ⟨rfl, Nat.zero_le _, fun b hb => ?_⟩
      have hbD : b ≠ D := fun e => by
        rw [e, hD1] at hb
        cases hb
      refine ⟨as.map V.ref, by rw [upd_ne hbD.symm]; exact hD1, mil' (by rw [List.length_map]; omega), (e1.tr (Ex.nw hb)).wr hD, as ++ [b], ?_, ?_, ?_, ?_⟩
      · rw [upd_same, List.map_append]
        rfl
      · refine nodup_snoc nd fun hm => ?_
        rw [(hall b hm).2.2] at hb
        cases hb
      · rw [List.length_append, hlen]
        rfl
      · intro c hc
        rcases List.mem_append.mp hc with hc | hc
        · obtain ⟨c1, c2, c3⟩ := hall c hc
          refine ⟨c1, c2, ?_⟩
          rw [upd_ne c2, upd_ne (ne_of_none c3 hb)]
          exact c3
        · obtain rfl := List.mem_singleton.mp hc
          exact ⟨e1.fr hb, hbD, by rw [upd_ne hbD, upd_same]⟩
    · rintro H1 ⟨e1, as, hD1, nd, hlen, hall⟩
      refine ⟨_, rfl, _, u, rfl, hd.up e1, hu, fun L zs H2 hL2 e2 hLs hA2 => ?_⟩
      refine ⟨L, rfl, ⟨zs, .inl (.inl hLs)⟩, ?_⟩
      have hl2 := hA2.len
      rw [List.length_map] at hl2
      have LD : L ≠ D := fun e => by
        rw [e, hD1] at hL2
        cases hL2
      have Las : ∀ b ∈ as, b ≠ L := fun b hb e => by
        rw [← e, (hall b hb).2.2] at hL2
        cases hL2
      refine for_by zs.length (fun i σ H' => ∃ y2 y3 y4, σ = [some (V.ref t), some (V.ref D), y2, y3, y4] ∧ Ex H H' ∧ H' D = some (.lst (as.map V.ref)) ∧ H' L = some (.lst zs) ∧
          (∀ (k : Nat) (p : Int × Int), u.lines[k]? = some p → ∃ b, zs[k]? = some (V.ref b) ∧ SqT K H' b [.int p.1, .int p.2]) ∧
          ∀ (s : Nat) (b : Addr), as[s]? = some b → H' b = some (.lst ((srcsOf (u.lines.take i) (s : Int)).map V.int)))
        ⟨_, _, _, rfl, e1.tr e2, e2 _ _ hD1, hLs, ?_, ?_⟩ (fun i σ H' hi p => ?_) (fun σ H' p => ?_) ?_ ?_
      · intro k p hp
        obtain ⟨x, hx, hdx⟩ := hA2.at (i := k) (d := dPair p) (by rw [List.getElem?_map, hp]; rfl)
        obtain ⟨b, ys, rfl, hSb, z1, r1, rfl, f1, z2, r2, rfl, f2, rfl⟩ := hdx
        obtain rfl := f1
        obtain rfl := f2
        exact ⟨b, hx, .inl (.inl hSb)⟩
      · intro s b hb
        have := (hall b (List.mem_of_getElem? hb)).2.2
        rw [List.take_zero, srcsOf_nil]
        exact e2 _ _ this
      · obtain ⟨_, _, _, _, _, _, h4, _⟩ := p
        exact itl_go (.inl (.inl h4)) Ex.rfl hi
      · obtain ⟨_, _, _, _, _, _, h4, _⟩ := p
        exact itl_stop (.inl (.inl h4)) Ex.rfl
      · rintro i σ H3 x H4 hi ⟨y2, y3, y4, rfl, e3, hD3, hL3, hT3, hR3⟩ ⟨rfl, hx⟩
        have hx := hx zs (.inl (.inl hL3))
        rw [← hl2] at hi
        have hp := List.getElem?_eq_getElem hi
        generalize u.lines[i] = p at hp
        obtain ⟨b, hb, hSb⟩ := hT3 i p hp
        rw [hx] at hb
        cases hb
        obtain ⟨_, ⟨p1, p2⟩⟩ := hu.line p (List.mem_of_getElem? hp)
        have hs : p.2.toNat < as.length := by rw [hlen]; omega
        have hc := List.getElem?_eq_getElem hs
        generalize as[p.2.toNat] = c at hc
        have hcl := hR3 _ _ hc
        obtain ⟨c1, c2, _⟩ := hall c (List.mem_of_getElem? hc)
        have c3 := Las c (List.mem_of_getElem? hc)
        have el : ((p.2.toNat : Nat) : Int) = p.2 := Int.toNat_of_nonneg p1
        have hsz : ((srcsOf (u.lines.take i) ((p.2.toNat : Nat) : Int)).map V.int).length < sizeLine := by
          refine mil' ?_
          have h1 := srcsOf_len (u.lines.take i) ((p.2.toNat : Nat) : Int)
          have h2 := hu.lines_len
          rw [List.length_take] at h1
          rw [List.length_map]
          omega
        refine ⟨b, _, rfl, hSb, rfl, _, _, rfl, _, _, rfl, rfl, ?_⟩
        refine ⟨.ref D, rfl, .int p.2, rfl, .inl ⟨D, _, p.2, .ref c, rfl, rfl, .inl (.inl hD3), ?_, .inl ⟨rfl, _, .inl (.inl hcl)⟩, _, rfl, c, _, _, rfl, rfl, hcl, hsz, ?_⟩⟩
        · exact atI_int p1 (by rw [List.getElem?_map, hc]; rfl)
        · refine ⟨_, _, _, rfl, e3.wr c1, by rw [upd_ne c2.symm]; exact hD3, by rw [upd_ne c3.symm]; exact hL3, ?_, ?_⟩
          · intro k q' hq'
            obtain ⟨b', hb', hS'⟩ := hT3 k q' hq'
            exact ⟨b', hb', SqT.wr hS' hcl⟩
          · intro s d hd'
            rw [take_snoc hp, srcsOf_app, srcsOf_one]
            by_cases es : s = p.2.toNat
            · subst es
              rw [hc] at hd'
              cases hd'
              rw [upd_same, if_pos el.symm, List.map_append]
              rfl
            · have ne : d ≠ c := nodup_at nd hd' hc es
              rw [upd_ne ne, if_neg (by omega), List.append_nil]
              exact hR3 s d hd'
      · rintro σ H3 ⟨y2, y3, y4, rfl, e3, hD3, hL3, hT3, hR3⟩
        refine ⟨_, rfl, q D as H3 ⟨hD, e3, hD3, nd, fun b hb => ⟨(hall b hb).1, (hall b hb).2.1⟩, hlen, ?_⟩⟩
        rw [← hl2, List.take_length] at hR3
        exact hR3
end

/-! copied_nudges: slots 0 nudges, 1 nudge -/
abbrev s_copied_nudges : Stmt := topS 40
abbrev N_copied_nudges : List Str := ["nudges", "nudge"]
abbrev P_copied_nudges : List Str := ["nudges"]
theorem sc_copied_nudges : FnScope N_copied_nudges P_copied_nudges (defScope s_copied_nudges) := ⟨rfl, rfl, rfl, by decide +kernel, rfl, by decide +kernel, by decide +kernel⟩
/-- rows copied -/
def sp_copied_nudges (K : PySem.W.Frag) : Sp := fun vs H Q _ => ∃ v ns, vs = [v] ∧ Da K H (dRows ns) v ∧
  ∀ L bs H', NewR H H' ns L bs → Q (.ref L) H'
section
variable {P : Program} {w : World} {K : PySem.W.Frag} {mg : Str → Option Value} {base : Heap}
theorem ok_copied_nudges {f : Addr} {fd : FuncData} (T : Txt K mg) (F : Fun K "copied_nudges" "copied_nudges" s_copied_nudges f fd) :
    FnG P w K mg base CX0 1 f fd P_copied_nudges (sp_copied_nudges K) := by
  refine okG0 F sc_copied_nudges (fun vs H Q E h => ?_) (fun cdv A outer s H vs Q E hr hq h => ?_)
  · obtain ⟨v, ns, rfl, _⟩ := h
    rfl
  · obtain ⟨v, ns, rfl, ⟨a, xs, rfl, hL, hA, hz⟩, q⟩ := h
    have hl := hA.len
    rw [List.length_map] at hl hz
    refine ⟨_, (pss_one (ps_ret (pe_lc (own := [("nudge", 1)]) rfl sc_copied_nudges.nd (pi_listK K (pv 0)) (blkOk_by (N := N_copied_nudges) (sc := defScope s_copied_nudges) (by decide +kernel)) (fun _ _ _ _ _ => (pg_name (i := 1) sc_copied_nudges.nd rfl (by first | exact .inl rfl | exact .inr rfl))) (fun _ _ _ _ _ => pts_nil) (fun _ _ _ _ _ => (pe_callTy (call_listK K) (by rfl) T.b_list bt_list (pa_cons (pv 1) pa_nil)))))), ?_⟩
    refine ⟨_, rfl, a, rfl, ⟨_, .inl (.inl hL)⟩, fun D hD => ?_⟩
    refine lc_by xs.length (fun i H' => Ex H H' ∧ ∃ bs : List Addr, H' D = some (.lst (bs.map V.ref)) ∧ bs.length = i ∧ bs.Nodup ∧
        ∀ (k : Nat) (b : Addr), bs[k]? = some b → (H b = none ∧ b ≠ D) ∧ ∃ r, ns[k]? = some r ∧ H' b = some (.lst (r.map V.int)))
      ⟨Ex.nw hD, [], upd_same, rfl, List.nodup_nil, fun k b hb => by simp at hb⟩ (fun i H' hi p => itl_go (.inl (.inl hL)) p.1 hi) (fun H' p => itl_stop (.inl (.inl hL)) p.1) ?_ ?_
    · rintro i H1 x H2 hi ⟨e1, bs, hD1, hlen, nd, hall⟩ y
      obtain ⟨rfl, hx⟩ := itl_yld y (.inl (.inl hL)) e1
      obtain ⟨dr, hdr, hxd⟩ := hA.at' hx
      obtain ⟨r, hrr, rfl⟩ := map_at hdr
      obtain ⟨ar, zs, rfl, hLr, hAr, _⟩ := hxd
      obtain rfl := DaAll.ints.mp hAr
      refine ⟨rfl, _, rfl, ar, _, rfl, .inl (.inl (.inl (e1 _ _ hLr))), fun l hl' => ?_⟩
      have lD : l ≠ D := fun e => by
        rw [e, hD1] at hl'
        cases hl'
      refine ⟨bs.map V.ref, by rw [upd_ne lD.symm]; exact hD1, mil' (by rw [List.length_map]; omega), (e1.tr (Ex.nw hl')).wr hD, bs ++ [l], ?_, ?_, ?_, ?_⟩
      · rw [upd_same, List.map_append]
        rfl
      · rw [List.length_append, hlen]
        rfl
      · refine nodup_snoc nd fun hm => ?_
        obtain ⟨k, hk⟩ := List.mem_iff_getElem?.mp hm
        obtain ⟨_, r', _, h3⟩ := hall k l hk
        rw [h3] at hl'
        cases hl'
      · intro k b hb
        by_cases hk : k < bs.length
        · rw [List.getElem?_append_left hk] at hb
          obtain ⟨n1, r', n2, n3⟩ := hall k b hb
          refine ⟨n1, r', n2, ?_⟩
          rw [upd_ne n1.2, upd_ne (ne_of_none n3 hl')]
          exact n3
        · rw [List.getElem?_append_right (by omega)] at hb
          have hk2 : k - bs.length = 0 := by
            cases hq' : k - bs.length with
            | zero => rfl
            | succ z =>
              rw [hq'] at hb
              simp at hb
          rw [hk2] at hb
          cases hb
          have ek : k = i := by omega
          subst ek
          exact ⟨⟨e1.fr hl', lD⟩, r, hrr, by rw [upd_ne lD, upd_same]⟩
    · rintro H1 ⟨e1, bs, hD1, hlen, nd, hall⟩
      exact q D bs H1 ⟨e1, hD, hD1, by omega, hall, nd⟩
end

/-! targets_of: slots 0 web, 1 source -/
abbrev s_targets_of : Stmt := topS 34
abbrev N_targets_of : List Str := ["web", "source"]
abbrev P_targets_of : List Str := ["web", "source"]
theorem sc_targets_of : FnScope N_targets_of P_targets_of (defScope s_targets_of) := ⟨rfl, rfl, rfl, by decide +kernel, rfl, by decide +kernel, by decide +kernel⟩
def sp_targets_of (K : PySem.W.Frag) : Sp := fun vs H Q E => ∃ v x d dx, vs = [v, x] ∧ Da K H d v ∧ Da K H dx x ∧ Out K H Q E (dueCall 0 d dx .none)
section
variable {P : Program} {w : World} {K : PySem.W.Frag} {mg : Str → Option Value} {base : Heap}
theorem ok_targets_of {f : Addr} {fd : FuncData} (T : Txt K mg) (F : Fun K "targets_of" "targets_of" s_targets_of f fd)
    (D_check_web : DefOk P w K mg base (L2.CX P w) 7 "check_web" P_check_web (sp_check_web K))
    (D_check_source : DefOk P w K mg base (L2.CX P w) 3 "check_source" P_check_source (sp_check_source K))
    (D_target_rows : DefOk P w K mg base CX0 2 "target_rows" P_target_rows (sp_target_rows K)) :
    FnG P w K mg base (L2.CX P w) 8 f fd P_targets_of (sp_targets_of K) := by
  obtain ⟨c, fB, fP, hc⟩ := T.fam
  refine okG F sc_targets_of (fun vs H Q E h => ?_) (fun cdv A outer s H vs Q E hr hq h => ?_)
  · obtain ⟨v, x, d, dx, rfl, _⟩ := h
    rfl
  · obtain ⟨v, x, d, dx, rfl, hd, hx, qo⟩ := h
    refine ⟨_, (pss_cons (ps_expr (pe_callD D_check_web (hr.mono (by decide)) hq (passE (takes_of rfl rfl rfl rfl)) (pa_cons (pv 0) pa_nil)))
      (pss_cons (ps_expr (pe_callD D_check_source (hr.mono (by decide)) hq (passE (takes_of rfl rfl rfl rfl)) (pa_cons (pv 0) (pa_cons (pv 1) pa_nil))))
      (pss_one (ps_ret (pe_ix (ix_seqK K) (pe_callD D_target_rows (hr.mono (by decide)) hq pass0 (pa_cons (pv 0) pa_nil)) (pv 1) (fun _ _ => rfl)))))), ?_⟩
    refine ⟨_, rfl, v, d, rfl, hd, fun hw C H' hC e => qo.err (dueno _ _ _ _ hw) hC e, fun hw H0 e0 => ?_⟩
    obtain ⟨u, rfl, hu⟩ := webB_inv hw
    have qe : dueCall 0 u.d dx .none = dueIf (numB dx (u.n + u.ns.length)) "InvalidSource" none := (due0 ..).trans (dueWeb_of hu)
    rw [qe] at qo
    refine ⟨_, rfl, _, rfl, v, u, x, dx, rfl, hd.up e0, hu, hx.up e0, fun hb C H' hC e => qo.err (by rw [hb]; rfl) hC (e0.tr e), fun hb H1 e1' => ?_⟩
    have e1 := e0.tr e1'
    rw [hb] at qo
    obtain ⟨z, rfl, hs⟩ := numB_inv hb
    obtain rfl : x = .int z := hx
    have q : ∀ (p : Addr) (H' : Hp), H p = none → Ex H H' → H' p = some (.lst ((rowOf u.lines z).map V.int)) → Q (.ref p) H' := fun p H' _ e _ => qo.ok rfl e
    refine ⟨_, rfl, _, u, rfl, hd.up e1, hu, fun p as H2 R => ?_⟩
    have b1 := hu.lo
    have hz : z.toNat < as.length := by
      rw [R.len]
      omega
    have hc := List.getElem?_eq_getElem hz
    generalize as[z.toNat] = c at hc
    refine ⟨_, rfl, .inl ⟨p, _, z, .ref c, rfl, rfl, .inl (.inl R.at_), atI_int hs.1 (by rw [List.getElem?_map, hc]; rfl), ?_⟩⟩
    have hrow := R.row _ _ hc
    rw [Int.toNat_of_nonneg hs.1] at hrow
    exact q c H2 (e1.fr (R.off c (List.mem_of_getElem? hc)).1) (e1.tr R.ex) hrow
end

/-! sources_of: slots 0 web, 1 quantity -/
abbrev s_sources_of : Stmt := topS 35
abbrev N_sources_of : List Str := ["web", "quantity"]
abbrev P_sources_of : List Str := ["web", "quantity"]
theorem sc_sources_of : FnScope N_sources_of P_sources_of (defScope s_sources_of) := ⟨rfl, rfl, rfl, by decide +kernel, rfl, by decide +kernel, by decide +kernel⟩
def sp_sources_of (K : PySem.W.Frag) : Sp := fun vs H Q E => ∃ v x d dx, vs = [v, x] ∧ Da K H d v ∧ Da K H dx x ∧ Out K H Q E (dueCall 1 d dx .none)
section
variable {P : Program} {w : World} {K : PySem.W.Frag} {mg : Str → Option Value} {base : Heap}
theorem ok_sources_of {f : Addr} {fd : FuncData} (T : Txt K mg) (F : Fun K "sources_of" "sources_of" s_sources_of f fd)
    (D_check_web : DefOk P w K mg base (L2.CX P w) 7 "check_web" P_check_web (sp_check_web K))
    (D_check_quantity : DefOk P w K mg base (L2.CX P w) 3 "check_quantity" P_check_quantity (sp_check_quantity K))
    (D_source_rows : DefOk P w K mg base CX0 2 "source_rows" P_source_rows (sp_source_rows K)) :
    FnG P w K mg base (L2.CX P w) 8 f fd P_sources_of (sp_sources_of K) := by
  obtain ⟨c, fB, fP, hc⟩ := T.fam
  refine okG F sc_sources_of (fun vs H Q E h => ?_) (fun cdv A outer s H vs Q E hr hq h => ?_)
  · obtain ⟨v, x, d, dx, rfl, _⟩ := h
    rfl
  · obtain ⟨v, x, d, dx, rfl, hd, hx, qo⟩ := h
    refine ⟨_, (pss_cons (ps_expr (pe_callD D_check_web (hr.mono (by decide)) hq (passE (takes_of rfl rfl rfl rfl)) (pa_cons (pv 0) pa_nil)))
      (pss_cons (ps_expr (pe_callD D_check_quantity (hr.mono (by decide)) hq (passE (takes_of rfl rfl rfl rfl)) (pa_cons (pv 0) (pa_cons (pv 1) pa_nil))))
      (pss_one (ps_ret (pe_ix (ix_seqK K) (pe_callD D_source_rows (hr.mono (by decide)) hq pass0 (pa_cons (pv 0) pa_nil)) (pv 1) (fun _ _ => rfl)))))), ?_⟩
    refine ⟨_, rfl, v, d, rfl, hd, fun hw C H' hC e => qo.err (dueno _ _ _ _ hw) hC e, fun hw H0 e0 => ?_⟩
    obtain ⟨u, rfl, hu⟩ := webB_inv hw
    have qe : dueCall 1 u.d dx .none = dueIf (numB dx u.n) "InvalidQuantity" none := (due1 ..).trans (dueWeb_of hu)
    rw [qe] at qo
    refine ⟨_, rfl, _, rfl, v, u, x, dx, rfl, hd.up e0, hu, hx.up e0, fun hb C H' hC e => qo.err (by rw [hb]; rfl) hC (e0.tr e), fun hb H1 e1' => ?_⟩
    have e1 := e0.tr e1'
    rw [hb] at qo
    obtain ⟨z, rfl, hs⟩ := numB_inv hb
    obtain rfl : x = .int z := hx
    have q : ∀ (p : Addr) (H' : Hp), H p = none → Ex H H' → H' p = some (.lst ((srcsOf u.lines z).map V.int)) → Q (.ref p) H' := fun p H' _ e _ => qo.ok rfl e
    refine ⟨_, rfl, _, u, rfl, hd.up e1, hu, fun p as H2 R => ?_⟩
    have hz : z.toNat < as.length := by
      rw [R.len]
      omega
    have hc := List.getElem?_eq_getElem hz
    generalize as[z.toNat] = c at hc
    refine ⟨_, rfl, .inl ⟨p, _, z, .ref c, rfl, rfl, .inl (.inl R.at_), atI_int hs.1 (by rw [List.getElem?_map, hc]; rfl), ?_⟩⟩
    have hrow := R.row _ _ hc
    rw [Int.toNat_of_nonneg hs.1] at hrow
    exact q c H2 (e1.fr (R.off c (List.mem_of_getElem? hc)).1) (e1.tr R.ex) hrow
end

/-! lines_of: slots 0 web -/
abbrev s_lines_of : Stmt := topS 36
abbrev N_lines_of : List Str := ["web"]
abbrev P_lines_of : List Str := ["web"]
theorem sc_lines_of : FnScope N_lines_of P_lines_of (defScope s_lines_of) := ⟨rfl, rfl, rfl, by decide +kernel, rfl, by decide +kernel, by decide +kernel⟩
def sp_lines_of (K : PySem.W.Frag) : Sp := fun vs H Q E => ∃ v d , vs = [v] ∧ Da K H d v ∧ Out K H Q E (dueCall 8 d .none .none)
section
variable {P : Program} {w : World} {K : PySem.W.Frag} {mg : Str → Option Value} {base : Heap}
theorem ok_lines_of {f : Addr} {fd : FuncData} (T : Txt K mg) (F : Fun K "lines_of" "lines_of" s_lines_of f fd)
    (D_check_web : DefOk P w K mg base (L2.CX P w) 7 "check_web" P_check_web (sp_check_web K))
    (D_all_lines : DefOk P w K mg base CX0 1 "all_lines" P_all_lines (sp_all_lines K)) :
    FnG P w K mg base (L2.CX P w) 8 f fd P_lines_of (sp_lines_of K) := by
  obtain ⟨c, fB, fP, hc⟩ := T.fam
  refine okG F sc_lines_of (fun vs H Q E h => ?_) (fun cdv A outer s H vs Q E hr hq h => ?_)
  · obtain ⟨v, d, rfl, _⟩ := h
    rfl
  · obtain ⟨v, d, rfl, hd, qo⟩ := h
    refine ⟨_, (pss_cons (ps_expr (pe_callD D_check_web (hr.mono (by decide)) hq (passE (takes_of rfl rfl rfl rfl)) (pa_cons (pv 0) pa_nil)))
      (pss_one (ps_ret (pe_callD D_all_lines (hr.mono (by decide)) hq pass0 (pa_cons (pv 0) pa_nil))))), ?_⟩
    refine ⟨_, rfl, v, d, rfl, hd, fun hw C H' hC e => qo.err (dueno _ _ _ _ hw) hC e, fun hw H0 e0 => ?_⟩
    obtain ⟨u, rfl, hu⟩ := webB_inv hw
    have qe : dueCall 8 u.d .none .none = none := (due8 ..).trans (dueWeb_of hu)
    rw [qe] at qo
    have e1 := e0
    have q : ∀ (p : Addr) (xs : List V) (H' : Hp), H p = none → Ex H H' → H' p = some (.lst xs) → DaAll K H' (u.lines.map dPair) xs → Q (.ref p) H' := fun p xs H' _ e _ _ => qo.ok rfl e
    exact ⟨_, rfl, _, u, rfl, hd.up e1, hu, fun p xs H2 hp e2 h2 hA => q p xs H2 (e1.fr hp) (e1.tr e2) h2 hA⟩
end

/-! with_pair: slots 0 web, 1 quantity, 2 target, 3 count, 4 pairs, 5 nudges -/
abbrev s_with_pair : Stmt := topS 41
abbrev N_with_pair : List Str := ["web", "quantity", "target", "count", "pairs", "nudges"]
abbrev P_with_pair : List Str := ["web", "quantity", "target"]
theorem sc_with_pair : FnScope N_with_pair P_with_pair (defScope s_with_pair) := ⟨rfl, rfl, rfl, by decide +kernel, rfl, by decide +kernel, by decide +kernel⟩
def sp_with_pair (K : PySem.W.Frag) : Sp := fun vs H Q E => ∃ v x y d dx dy, vs = [v, x, y] ∧ Da K H d v ∧ Da K H dx x ∧ Da K H dy y ∧ Out K H Q E (dueCall 2 d dx dy)
section
variable {P : Program} {w : World} {K : PySem.W.Frag} {mg : Str → Option Value} {base : Heap}
theorem ok_with_pair {f : Addr} {fd : FuncData} (T : Txt K mg) (F : Fun K "with_pair" "with_pair" s_with_pair f fd)
    (D_check_web : DefOk P w K mg base (L2.CX P w) 7 "check_web" P_check_web (sp_check_web K))
    (D_check_quantity : DefOk P w K mg base (L2.CX P w) 3 "check_quantity" P_check_quantity (sp_check_quantity K))
    (D_copied_nudges : DefOk P w K mg base CX0 1 "copied_nudges" P_copied_nudges (sp_copied_nudges K)) :
    FnG P w K mg base (L2.CX P w) 8 f fd P_with_pair (sp_with_pair K) := by
  obtain ⟨c, fB, fP, hc⟩ := T.fam
  refine okG F sc_with_pair (fun vs H Q E h => ?_) (fun cdv A outer s H vs Q E hr hq h => ?_)
  · obtain ⟨v, x, y, d, dx, dy, rfl, _⟩ := h
    rfl
  · obtain ⟨v, x, y, d, dx, dy, rfl, hd, hx, hy, qo⟩ := h
    refine ⟨_, (pss_cons (ps_expr (pe_callD D_check_web (hr.mono (by decide)) hq (passE (takes_of rfl rfl rfl rfl)) (pa_cons (pv 0) pa_nil)))
      (pss_cons (ps_expr (pe_callD D_check_quantity (hr.mono (by decide)) hq (passE (takes_of rfl rfl rfl rfl)) (pa_cons (pv 0) (pa_cons (pv 1) pa_nil))))
      (pss_cons (ps_expr (pe_callD D_check_quantity (hr.mono (by decide)) hq (passE (takes_of rfl rfl rfl rfl)) (pa_cons (pv 0) (pa_cons (pv 2) pa_nil))))
      (pss_cons (ps_asg (pv 0) (pg_tupK (n := 3) K rfl (pgs_cons (pg_name (i := 3) sc_with_pair.nd rfl (by first | exact .inl rfl | exact .inr rfl)) (pgs_cons (pg_name (i := 4) sc_with_pair.nd rfl (by first | exact .inl rfl | exact .inr rfl)) (pgs_cons (pg_name (i := 5) sc_with_pair.nd rfl (by first | exact .inl rfl | exact .inr rfl)) pgs_nil)))))
      (pss_cons (ps_if (pt_cmpR (op_inDk K hr) (pe_tup (pa_cons (pv 1) (pa_cons (pv 2) pa_nil))) (pv 4) (by rfl)) (pss_one (ps_raise rfl (takes_of rfl rfl rfl rfl) (SkE.pmk_own1 PySem.F.excBase_ValueError (hc.x 9 (by decide)) hc.g_LineThere (hc.k 9 (by decide)) (raises_own (hc.e 9 (by decide)).hs (hc.t 9 (by decide))) (by rfl) (pe_joined (PJ.cons (pe_fmt (pv 1)) (PJ.cons pe_str (PJ.cons (pe_fmt (pv 2)) (PJ.cons pe_str PJ.nil)))))))) pss_nil)
      (PSs.nox (pss_one (ps_ret (pe_tup (pa_cons (pv 3) (pa_cons (pe_callB (cr_sortedPOk K) (by rfl) T.b_sorted bt_sorted (pa_cons (pe_op (op_catS K) (pv 4) (pe_lst (pa_cons (pe_tup (pa_cons (pv 1) (pa_cons (pv 2) pa_nil))) pa_nil))) pa_nil)) (pa_cons (pe_callD D_copied_nudges (hr.mono (by decide)) hq pass0 (pa_cons (pv 5) pa_nil)) pa_nil)))))))))))), ?_⟩
    refine ⟨_, rfl, v, d, rfl, hd, fun hw C H' hC e => qo.err (dueno _ _ _ _ hw) hC e, fun hw H0 e0 => ?_⟩
    obtain ⟨u, rfl, hu⟩ := webB_inv hw
    have qe : dueCall 2 u.d dx dy = dueIf (numB dx u.n) "InvalidQuantity" (dueIf (numB dy u.n) "InvalidQuantity" (dueIf (decide (pairOf dx dy ∉ u.ps)) "LineThere" none)) := (due2 ..).trans (dueWeb_of hu)
    rw [qe] at qo
    refine ⟨_, rfl, _, rfl, v, u, x, dx, rfl, hd.up e0, hu, hx.up e0, fun hb C H' hC e => qo.err (by rw [hb]; rfl) hC (e0.tr e), fun hb H2' e2' => ?_⟩
    have e2 := e0.tr e2'
    rw [hb] at qo
    obtain ⟨a, rfl, ha⟩ := numB_inv hb
    obtain rfl : x = .int a := hx
    refine ⟨_, rfl, _, rfl, v, u, y, dy, rfl, hd.up e2, hu, hy.up e2, fun hb C H' hC e => qo.err (by rw [hb]; rfl) hC (e2.tr e), fun hb1 H1 e1' => ?_⟩
    have e1 := e2.tr e1'
    rw [hb1] at qo
    obtain ⟨b, rfl, hb⟩ := numB_inv hb1
    obtain rfl : y = .int b := hy
    have qE : (a, b) ∈ u.ps → ∀ C H', ErrOf K "LineThere" C → Ex H H' → E (.ref C) none H' := fun hin C H' hC e => qo.err (by
      show dueIf (decide ((a, b) ∉ u.ps)) "LineThere" none = _
      rw [decide_eq_false (fun h => h hin)]
      rfl) hC e
    have q : (a, b) ∉ u.ps → ∀ w T L1 L2 xs bs H', NewW K H H' w T L1 L2 xs bs → w.Ok → PairW u w (fun p => p ∈ u.ps ∨ p = (a, b)) → Q (.ref T) H' := fun hin w T L1 L2 xs bs H' N _ _ => qo.ok (by
      show dueIf (decide ((a, b) ∉ u.ps)) "LineThere" none = _
      rw [decide_eq_true hin]
      rfl) N.ex
    have b2 := hu.hi
    have b3 := hu.few
    have b4 := hu.len
    obtain ⟨t, x2, x3, rfl, hS, g2, g3⟩ := Wb.at (hd.up e1)
    obtain ⟨a2, ys, rfl, hL2, hA2, hz2⟩ := g2
    have hl2 := hA2.len
    rw [List.length_map] at hl2
    refine ⟨_, rfl, t, _, rfl, hS, rfl, _, _, rfl, _, _, rfl, _, _, rfl, rfl, ?_⟩
    refine ⟨_, rfl, _, rfl, by show 2 ≤ sizeLine; decide, fun t1 ht1 => ?_⟩
    have e2 : Ex H1 (upd H1 t1 (.tup [.int a, .int b])) := Ex.nw ht1
    have f2 : (upd H1 t1 (.tup [.int a, .int b])) t1 = some (.tup [.int a, .int b]) := upd_same
    generalize upd H1 t1 (.tup [.int a, .int b]) = H2 at e2 f2
    have dps : Da K H2 (dPairs u.ps) (.ref a2) := ⟨a2, ys, rfl, e2 _ _ hL2, hA2.up e2, hz2⟩
    have dp1 : Da K H2 (dPair (a, b)) (.ref t1) := dPair_of f2
    refine ⟨_, rfl, _, u.ps.map dPair, dp1.dPair, dps.dPairs, sh_dPair _, sh_dPairs _, _, rfl, ?_⟩
    rw [any_pair]
    refine ite2 (fun h1 => ?_) (fun h1 => ?_)
    · have hin : (a, b) ∈ u.ps := of_decide_eq_true h1
      obtain ⟨s1, s2⟩ := small_text ha.1 (by omega : a < 64)
      obtain ⟨s3, s4⟩ := small_text hb.1 (by omega : b < 64)
      have z1 : ∀ (x y : Str) (m n : Nat), x.length ≤ m → y.length ≤ n → m + n ≤ 1000 → (x ++ y).length ≤ sizeLine ∧ (x ++ y).length ≤ m + n := fun x y m n hx hy hmn => by
        rw [strLen_append]
        exact ⟨mil (by omega), by omega⟩
      have k1 := z1 Str.empty (toString a) 0 8 (by decide) s2 (by decide)
      have k2 := z1 _ (" acts on " : Str) 8 9 k1.2 (by decide) (by decide)
      have k3 := z1 _ (toString b) 17 8 k2.2 s4 (by decide)
      have k4 := z1 _ (" already" : Str) 25 8 k3.2 (by decide) (by decide)
      refine ⟨_, rfl, .inr ⟨a, rfl, s1, _, rfl, k1.1, ?_⟩⟩
      refine ⟨_, rfl, k2.1, ?_⟩
      refine ⟨_, rfl, .inr ⟨b, rfl, s3, _, rfl, k3.1, ?_⟩⟩
      refine ⟨_, rfl, k4.1, ?_⟩
      exact qE hin (c 9) _ (hc.n 9 (by decide)) (e1.tr e2)
    · have hin : (a, b) ∉ u.ps := by simpa using h1
      refine ⟨_, rfl, _, rfl, _, rfl, _, rfl, by show 2 ≤ sizeLine; decide, fun t2 ht2 => ?_⟩
      have e3 : Ex H2 (upd H2 t2 (.tup [.int a, .int b])) := Ex.nw ht2
      have f3 : (upd H2 t2 (.tup [.int a, .int b])) t2 = some (.tup [.int a, .int b]) := upd_same
      generalize upd H2 t2 (.tup [.int a, .int b]) = H3 at e3 f3
      refine ⟨by show 1 ≤ sizeLine; decide, fun l1 hl1 => ?_⟩
      have e4 : Ex H3 (upd H3 l1 (.lst [.ref t2])) := Ex.nw hl1
      have f4 : (upd H3 l1 (.lst [.ref t2])) l1 = some (.lst [.ref t2]) := upd_same
      generalize upd H3 l1 (.lst [.ref t2]) = H4 at e4 f4
      have e14 := e2.tr (e3.tr e4)
      refine ⟨a2, l1, _, _, rfl, rfl, .inl (.inl (e14 _ _ hL2)), .inl (.inl f4), by show ys.length + 1 ≤ 1000000; omega, fun l2 hl2' => ?_⟩
      have e5 : Ex H4 (upd H4 l2 (.lst (ys ++ [.ref t2]))) := Ex.nw hl2'
      have f5 : (upd H4 l2 (.lst (ys ++ [.ref t2]))) l2 = some (.lst (ys ++ [.ref t2])) := upd_same
      generalize upd H4 l2 (.lst (ys ++ [.ref t2])) = H5 at e5 f5
      have e15 := e14.tr e5
      have hAll : DaAll K H5 ((u.ps ++ [(a, b)]).map dPair) (ys ++ [.ref t2]) := by
        rw [List.map_append]
        exact (hA2.up e15).app ⟨_, _, rfl, dPair_of (p := (a, b)) (e5 _ _ (e4 _ _ f3)), rfl⟩
      have hnd : (u.ps ++ [(a, b)]).Nodup := nodup_snoc (nodup_asc hu.asc) hin
      obtain ⟨g1, g2⟩ := keys_of hAll
      refine ⟨l2, _, keyOf H5, rfl, .inl (.inl f5), g1, fun zs p3 s1 s2 hp3 => ?_⟩
      obtain ⟨M, m1, m2, m3, m4⟩ := sortedP hAll hnd s1 s2
      have e6 : Ex H5 (upd H5 p3 (.lst zs)) := Ex.nw hp3
      have f6 : (upd H5 p3 (.lst zs)) p3 = some (.lst zs) := upd_same
      generalize upd H5 p3 (.lst zs) = H6 at e6 f6
      have e16 := e15.tr e6
      refine ⟨_, rfl, x3, u.ns, rfl, g3.up e16, fun L bs H7 R => ?_⟩
      refine ⟨by show 3 ≤ sizeLine; decide, fun Tt hT => ?_⟩
      have e8 : Ex H7 (upd H7 Tt (.tup [.int u.n, .ref p3, .ref L])) := Ex.nw hT
      have f8 : (upd H7 Tt (.tup [.int u.n, .ref p3, .ref L])) Tt = some (.tup [.int u.n, .ref p3, .ref L]) := upd_same
      generalize upd H7 Tt (.tup [.int u.n, .ref p3, .ref L]) = H8 at e8 f8
      have pw : PairW u ⟨u.n, M, u.ns⟩ (fun p => p ∈ u.ps ∨ p = (a, b)) := ⟨rfl, rfl, fun p => by
        show p ∈ M ↔ _
        rw [m3, List.mem_append, List.mem_singleton]⟩
      have hok := pw.ok hu (fun p h => by
        rcases h with h | rfl
        · exact hu.ps p h
        · exact ⟨ha, hb⟩) m2
      have e06 := e1.tr e16
      refine q hin ⟨u.n, M, u.ns⟩ Tt p3 L zs bs H8 ⟨(e06.tr R.ex).tr e8, f8, (e1.tr e15).fr hp3, e8 _ _ (R.ex _ _ f6), m1.up (e6.tr (R.ex.tr e8)), e06.fr R.new, e8 _ _ R.at_, R.len, ?_, R.nd, ?_⟩ hok pw
      · intro j b' hb'
        obtain ⟨n, r, h1, h2⟩ := R.row j b' hb'
        refine ⟨⟨e06.fr n.1, n.2, fun e => ?_⟩, r, h1, e8 _ _ h2⟩
        rw [← e, n.1] at f6
        cases f6
      · intro e
        rw [e, R.new] at f6
        cases f6
end

/-! without_pair: slots 0 web, 1 quantity, 2 target, 3 count, 4 pairs, 5 nudges, 6 pair -/
abbrev s_without_pair : Stmt := topS 42
abbrev N_without_pair : List Str := ["web", "quantity", "target", "count", "pairs", "nudges", "pair"]
abbrev P_without_pair : List Str := ["web", "quantity", "target"]
theorem sc_without_pair : FnScope N_without_pair P_without_pair (defScope s_without_pair) := ⟨rfl, rfl, rfl, by decide +kernel, rfl, by decide +kernel, by decide +kernel⟩
def sp_without_pair (K : PySem.W.Frag) : Sp := fun vs H Q E => ∃ v x y d dx dy, vs = [v, x, y] ∧ Da K H d v ∧ Da K H dx x ∧ Da K H dy y ∧ Out K H Q E (dueCall 3 d dx dy)
section
variable {P : Program} {w : World} {K : PySem.W.Frag} {mg : Str → Option Value} {base : Heap}
theorem ok_without_pair {f : Addr} {fd : FuncData} (T : Txt K mg) (F : Fun K "without_pair" "without_pair" s_without_pair f fd)
    (D_check_web : DefOk P w K mg base (L2.CX P w) 7 "check_web" P_check_web (sp_check_web K))
    (D_check_quantity : DefOk P w K mg base (L2.CX P w) 3 "check_quantity" P_check_quantity (sp_check_quantity K))
    (D_copied_nudges : DefOk P w K mg base CX0 1 "copied_nudges" P_copied_nudges (sp_copied_nudges K)) :
    FnG P w K mg base (L2.CX P w) 8 f fd P_without_pair (sp_without_pair K) := by
  obtain ⟨c, fB, fP, hc⟩ := T.fam
  refine okG F sc_without_pair (fun vs H Q E h => ?_) (fun cdv A outer s H vs Q E hr hq h => ?_)
  · obtain ⟨v, x, y, d, dx, dy, rfl, _⟩ := h
    rfl
  · obtain ⟨v, x, y, d, dx, dy, rfl, hd, hx, hy, qo⟩ := h
    refine ⟨_, (pss_cons (ps_expr (pe_callD D_check_web (hr.mono (by decide)) hq (passE (takes_of rfl rfl rfl rfl)) (pa_cons (pv 0) pa_nil)))
      (pss_cons (ps_expr (pe_callD D_check_quantity (hr.mono (by decide)) hq (passE (takes_of rfl rfl rfl rfl)) (pa_cons (pv 0) (pa_cons (pv 1) pa_nil))))
      (pss_cons (ps_expr (pe_callD D_check_quantity (hr.mono (by decide)) hq (passE (takes_of rfl rfl rfl rfl)) (pa_cons (pv 0) (pa_cons (pv 2) pa_nil))))
      (pss_cons (ps_asg (pv 0) (pg_tupK (n := 3) K rfl (pgs_cons (pg_name (i := 3) sc_without_pair.nd rfl (by first | exact .inl rfl | exact .inr rfl)) (pgs_cons (pg_name (i := 4) sc_without_pair.nd rfl (by first | exact .inl rfl | exact .inr rfl)) (pgs_cons (pg_name (i := 5) sc_without_pair.nd rfl (by first | exact .inl rfl | exact .inr rfl)) pgs_nil)))))
      (pss_cons (ps_if (pt_cmpR (op_notInDk K hr) (pe_tup (pa_cons (pv 1) (pa_cons (pv 2) pa_nil))) (pv 4) (by rfl)) (pss_one (ps_raise rfl (takes_of rfl rfl rfl rfl) (SkE.pmk_own1 PySem.F.excBase_ValueError (hc.x 8 (by decide)) hc.g_NoLine (hc.k 8 (by decide)) (raises_own (hc.e 8 (by decide)).hs (hc.t 8 (by decide))) (by rfl) (pe_joined (PJ.cons (pe_fmt (pv 1)) (PJ.cons pe_str (PJ.cons (pe_fmt (pv 2)) PJ.nil))))))) pss_nil)
      (PSs.nox (pss_one (ps_ret (pe_tup (pa_cons (pv 3) (pa_cons (pe_lc (own := [("pair", 6)]) rfl sc_without_pair.nd (pi_listK K (pv 4)) (blkOk_by (N := N_without_pair) (sc := defScope s_without_pair) (by decide +kernel)) (fun _ _ _ _ _ => (pg_name (i := 6) sc_without_pair.nd rfl (by first | exact .inl rfl | exact .inr rfl))) (fun _ _ _ _ _ => (pts_one (pt_cmpR (op_neDk K hr.units) (pv 6) (pe_tup (pa_cons (pv 1) (pa_cons (pv 2) pa_nil))) (nomark _)))) (fun _ _ _ _ _ => (pv 6))) (pa_cons (pe_callD D_copied_nudges (hr.mono (by decide)) hq pass0 (pa_cons (pv 5) pa_nil)) pa_nil)))))))))))), ?_⟩
    refine ⟨_, rfl, v, d, rfl, hd, fun hw C H' hC e => qo.err (dueno _ _ _ _ hw) hC e, fun hw H0 e0 => ?_⟩
    obtain ⟨u, rfl, hu⟩ := webB_inv hw
    have qe : dueCall 3 u.d dx dy = dueIf (numB dx u.n) "InvalidQuantity" (dueIf (numB dy u.n) "InvalidQuantity" (dueIf (decide (pairOf dx dy ∈ u.ps)) "NoLine" none)) := (due3 ..).trans (dueWeb_of hu)
    rw [qe] at qo
    refine ⟨_, rfl, _, rfl, v, u, x, dx, rfl, hd.up e0, hu, hx.up e0, fun hb C H' hC e => qo.err (by rw [hb]; rfl) hC (e0.tr e), fun hb H2' e2' => ?_⟩
    have e2 := e0.tr e2'
    rw [hb] at qo
    obtain ⟨a, rfl, ha⟩ := numB_inv hb
    obtain rfl : x = .int a := hx
    refine ⟨_, rfl, _, rfl, v, u, y, dy, rfl, hd.up e2, hu, hy.up e2, fun hb C H' hC e => qo.err (by rw [hb]; rfl) hC (e2.tr e), fun hb1 H1 e1' => ?_⟩
    have e1 := e2.tr e1'
    rw [hb1] at qo
    obtain ⟨b, rfl, hb⟩ := numB_inv hb1
    obtain rfl : y = .int b := hy
    have qE : (a, b) ∉ u.ps → ∀ C H', ErrOf K "NoLine" C → Ex H H' → E (.ref C) none H' := fun hin C H' hC e => qo.err (by
      show dueIf (decide ((a, b) ∈ u.ps)) "NoLine" none = _
      rw [decide_eq_false (hin)]
      rfl) hC e
    have q : (a, b) ∈ u.ps → ∀ w T L1 L2 xs bs H', NewW K H H' w T L1 L2 xs bs → w.Ok → PairW u w (fun p => p ∈ u.ps ∧ p ≠ (a, b)) → Q (.ref T) H' := fun hin w T L1 L2 xs bs H' N _ _ => qo.ok (by
      show dueIf (decide ((a, b) ∈ u.ps)) "NoLine" none = _
      rw [decide_eq_true hin]
      rfl) N.ex
    have b2 := hu.hi
    have b3 := hu.few
    have b4 := hu.len
    obtain ⟨t, x2, x3, rfl, hS, g2, g3⟩ := Wb.at (hd.up e1)
    obtain ⟨a2, ys, rfl, hL2, hA2, hz2⟩ := g2
    have hl2 := hA2.len
    rw [List.length_map] at hl2
    refine ⟨_, rfl, t, _, rfl, hS, rfl, _, _, rfl, _, _, rfl, _, _, rfl, rfl, ?_⟩
    refine ⟨_, rfl, _, rfl, by show 2 ≤ sizeLine; decide, fun t1 ht1 => ?_⟩
    have e2 : Ex H1 (upd H1 t1 (.tup [.int a, .int b])) := Ex.nw ht1
    have f2 : (upd H1 t1 (.tup [.int a, .int b])) t1 = some (.tup [.int a, .int b]) := upd_same
    generalize upd H1 t1 (.tup [.int a, .int b]) = H2 at e2 f2
    have dps : Da K H2 (dPairs u.ps) (.ref a2) := ⟨a2, ys, rfl, e2 _ _ hL2, hA2.up e2, hz2⟩
    have dp1 : Da K H2 (dPair (a, b)) (.ref t1) := dPair_of f2
    refine ⟨_, rfl, _, u.ps.map dPair, dp1.dPair, dps.dPairs, sh_dPair _, sh_dPairs _, _, rfl, ?_⟩
    rw [any_pair]
    refine ite2 (fun h1 => ?_) (fun h1 => ?_)
    · have hin : (a, b) ∉ u.ps := by simpa using h1
      obtain ⟨s1, s2⟩ := small_text ha.1 (by omega : a < 64)
      obtain ⟨s3, s4⟩ := small_text hb.1 (by omega : b < 64)
      have z1 : ∀ (x y : Str) (m n : Nat), x.length ≤ m → y.length ≤ n → m + n ≤ 1000 → (x ++ y).length ≤ sizeLine ∧ (x ++ y).length ≤ m + n := fun x y m n hx hy hmn => by
        rw [strLen_append]
        exact ⟨mil (by omega), by omega⟩
      have k1 := z1 Str.empty (toString a) 0 8 (by decide) s2 (by decide)
      have k2 := z1 _ (" does not act on " : Str) 8 17 k1.2 (by decide) (by decide)
      have k3 := z1 _ (toString b) 25 8 k2.2 s4 (by decide)
      refine ⟨_, rfl, .inr ⟨a, rfl, s1, _, rfl, k1.1, ?_⟩⟩
      refine ⟨_, rfl, k2.1, ?_⟩
      refine ⟨_, rfl, .inr ⟨b, rfl, s3, _, rfl, k3.1, ?_⟩⟩
      exact qE hin (c 8) _ (hc.n 8 (by decide)) (e1.tr e2)
    · have hin : (a, b) ∈ u.ps := by simpa using h1
      have hY : SqL K H2 a2 ys := .inl (.inl (e2 _ _ hL2))
      refine ⟨_, rfl, _, rfl, a2, rfl, ⟨_, hY⟩, fun D hD => ?_⟩
      refine lc_by ys.length (fun i H' => Ex H2 H' ∧ ∃ ac, H' D = some (.lst ac) ∧ ac.length ≤ i ∧ DaAll K H' (((u.ps.take i).filter fun q => decide (q ≠ (a, b))).map dPair) ac)
        ⟨Ex.nw hD, [], upd_same, Nat.le_refl _, rfl⟩ (fun i H' hi p => itl_go hY p.1 hi) (fun H' p => itl_stop hY p.1) ?_ ?_
      · rintro i H4 x H5 hi ⟨e4, ac, hD4, hac, hA4⟩ y
        obtain ⟨rfl, hx⟩ := itl_yld y hY e4
        obtain ⟨p, hp, bx, rfl, hSb⟩ := pairs_at hA2 hx
        obtain ⟨dr, hdr, hxd⟩ := hA2.at' hx
        obtain ⟨p', hp', rfl⟩ := map_at hdr
        rw [hp] at hp'
        cases hp'
        refine ⟨rfl, ?_⟩
        refine ⟨_, rfl, _, rfl, _, rfl, by show 2 ≤ sizeLine; decide, fun T2 hT2 => ?_⟩
        have e6 : Ex H5 (upd H5 T2 (.tup [.int a, .int b])) := Ex.nw hT2
        have f6 : (upd H5 T2 (.tup [.int a, .int b])) T2 = some (.tup [.int a, .int b]) := upd_same
        generalize upd H5 T2 (.tup [.int a, .int b]) = H6 at e6 f6
        have hD6 := e6 _ _ hD4
        have dx : Da K H6 (dPair p) (.ref bx) := hxd.up (e2.tr (e4.tr e6))
        refine ⟨dPair p, _, dx.dPair, (dPair_of (p := (a, b)) f6).dPair, sh_dPair _, sh_dPair _, _, rfl, ?_⟩
        rw [eqv_dPair]
        refine ite2 (fun h2 => ?_) (fun h2 => ?_)
        · have hne : p ≠ (a, b) := by simpa using h2
          refine ⟨_, rfl, ac, hD6, mil' (by omega), (e4.tr e6).wr hD, ac ++ [.ref bx], upd_same, by rw [List.length_append, List.length_singleton]; omega, ?_⟩
          rw [take_snoc hp, List.filter_append, List.filter_cons_of_pos (p := fun q => decide (q ≠ (a, b))) (decide_eq_true hne), List.filter_nil]
          refine pairs_wr hD6 ?_
          rw [List.map_append]
          exact (hA4.up e6).app ⟨_, _, rfl, dx, rfl⟩
        · have hne : p = (a, b) := by simpa using h2
          refine ⟨e4.tr e6, ac, hD6, by omega, ?_⟩
          rw [take_snoc hp, List.filter_append, List.filter_cons_of_neg (p := fun q => decide (q ≠ (a, b))) (by simp [hne])]
          rw [List.filter_nil, List.append_nil]
          exact hA4.up e6
      · rintro H4 ⟨e4, ac, hD4, hac, hA4⟩
        rw [← hl2, List.take_length] at hA4
        have e14 := e2.tr e4
        refine ⟨_, rfl, x3, u.ns, rfl, g3.up e14, fun L bs H7 R => ?_⟩
        refine ⟨by show 3 ≤ sizeLine; decide, fun Tt hT => ?_⟩
        have e8 : Ex H7 (upd H7 Tt (.tup [.int u.n, .ref D, .ref L])) := Ex.nw hT
        have f8 : (upd H7 Tt (.tup [.int u.n, .ref D, .ref L])) Tt = some (.tup [.int u.n, .ref D, .ref L]) := upd_same
        generalize upd H7 Tt (.tup [.int u.n, .ref D, .ref L]) = H8 at e8 f8
        have pw : PairW u ⟨u.n, u.ps.filter fun q => decide (q ≠ (a, b)), u.ns⟩ (fun p => p ∈ u.ps ∧ p ≠ (a, b)) := ⟨rfl, rfl, fun p => by
          show p ∈ List.filter _ _ ↔ _
          rw [List.mem_filter, decide_eq_true_eq]⟩
        have hok := pw.ok hu (fun p h => hu.ps p h.1) (asc_filter _ hu.asc)
        have e04 := e1.tr e14
        refine q hin ⟨u.n, u.ps.filter fun q => decide (q ≠ (a, b)), u.ns⟩ Tt D L ac bs H8 ⟨(e04.tr R.ex).tr e8, f8, (e1.tr e2).fr hD, e8 _ _ (R.ex _ _ hD4), hA4.up (R.ex.tr e8), e04.fr R.new, e8 _ _ R.at_, R.len, ?_, R.nd, ?_⟩ hok pw
        · intro j b' hb'
          obtain ⟨n, r, h1, h2⟩ := R.row j b' hb'
          refine ⟨⟨e04.fr n.1, n.2, fun e => ?_⟩, r, h1, e8 _ _ h2⟩
          rw [← e, n.1] at hD4
          cases hD4
        · intro e
          rw [e, R.new] at hD4
          cases hD4
end

end K46
namespace K46
open PySem PySem.Spec PyProof.Rows L2 Nw
/-! with_nudge: slots 0 web, 1 targets, 2 count, 3 pairs, 4 nudges -/
abbrev s_with_nudge : Stmt := topS 43
abbrev N_with_nudge : List Str := ["web", "targets", "count", "pairs", "nudges"]
abbrev P_with_nudge : List Str := ["web", "targets"]
theorem sc_with_nudge : FnScope N_with_nudge P_with_nudge (defScope s_with_nudge) := ⟨rfl, rfl, rfl, by decide +kernel, rfl, by decide +kernel, by decide +kernel⟩
abbrev moreN (u : Wb) (r : List Int) : Wb := ⟨u.n, u.ps, u.ns ++ [r]⟩
def sp_with_nudge (K : PySem.W.Frag) : Sp := fun vs H Q E => ∃ v x d dx, vs = [v, x] ∧ Da K H d v ∧ Da K H dx x ∧ Out K H Q E (dueCall 4 d dx .none)
section
variable {P : Program} {w : World} {K : PySem.W.Frag} {mg : Str → Option Value} {base : Heap}
theorem ok_with_nudge {f : Addr} {fd : FuncData} (T : Txt K mg) (F : Fun K "with_nudge" "with_nudge" s_with_nudge f fd)
    (D_check_web : DefOk P w K mg base (L2.CX P w) 7 "check_web" P_check_web (sp_check_web K))
    (D_check_targets : DefOk P w K mg base (L2.CX P w) 5 "check_targets" P_check_targets (sp_check_targets K))
    (D_copied_nudges : DefOk P w K mg base CX0 1 "copied_nudges" P_copied_nudges (sp_copied_nudges K)) :
    FnG P w K mg base (L2.CX P w) 8 f fd P_with_nudge (sp_with_nudge K) := by
  obtain ⟨c, fB, fP, hc⟩ := T.fam
  refine okG F sc_with_nudge (fun vs H Q E h => ?_) (fun cdv A outer s H vs Q E hr hq h => ?_)
  · obtain ⟨v, x, d, dx, rfl, _⟩ := h
    rfl
  · obtain ⟨v, x, d, dx, rfl, hd, hx, qo⟩ := h
    refine ⟨_, (pss_cons (ps_expr (pe_callD D_check_web (hr.mono (by decide)) hq (passE (takes_of rfl rfl rfl rfl)) (pa_cons (pv 0) pa_nil)))
      (pss_cons (ps_expr (pe_callD D_check_targets (hr.mono (by decide)) hq (passE (takes_of rfl rfl rfl rfl)) (pa_cons (pv 0) (pa_cons (pv 1) pa_nil))))
      (pss_cons (ps_asg (pv 0) (pg_tupK (n := 3) K rfl (pgs_cons (pg_name (i := 2) sc_with_nudge.nd rfl (by first | exact .inl rfl | exact .inr rfl)) (pgs_cons (pg_name (i := 3) sc_with_nudge.nd rfl (by first | exact .inl rfl | exact .inr rfl)) (pgs_cons (pg_name (i := 4) sc_with_nudge.nd rfl (by first | exact .inl rfl | exact .inr rfl)) pgs_nil)))))
      (pss_cons (ps_if (pt_cmpR op_eq (pe_callB (call_lenK K) (by rfl) T.b_len bt_len (pa_cons (pv 4) pa_nil)) (pe_globI T.c_MOST_NUDGES) (nomark _)) (pss_one (ps_raiseBig rfl hc.big hr (takes_of rfl rfl rfl rfl) (pa_cons (pe_globI T.c_MOST_NUDGES) pa_nil))) pss_nil)
      (PSs.nox (pss_one (ps_ret (pe_tup (pa_cons (pv 2) (pa_cons (pe_callTy (call_listK K) (by rfl) T.b_list bt_list (pa_cons (pv 3) pa_nil)) (pa_cons (pe_callD D_copied_nudges (hr.mono (by decide)) hq pass0 (pa_cons (pe_op (op_catS K) (pv 4) (pe_lst (pa_cons (pv 1) pa_nil))) pa_nil)) pa_nil))))))))))), ?_⟩
    refine ⟨_, rfl, v, d, rfl, hd, fun hw C H' hC e => qo.err (dueno _ _ _ _ hw) hC e, fun hw H0 e0 => ?_⟩
    obtain ⟨u, rfl, hu⟩ := webB_inv hw
    have qe : dueCall 4 u.d dx .none = dueIf (targetsB dx u.n) "InvalidTargets" (dueIf (decide (u.ns.length ≠ 8)) "TooLarge" none) := (due4 ..).trans (dueWeb_of hu)
    rw [qe] at qo
    refine ⟨_, rfl, _, rfl, v, u, x, dx, rfl, hd.up e0, hu, hx.up e0, fun hb C H' hC e => qo.err (by rw [hb]; rfl) hC (e0.tr e), fun hb H2 e12' => ?_⟩
    have e12 := e0.tr e12'
    rw [hb] at qo
    obtain ⟨r, rfl, hr0⟩ := targetsB_inv hb
    have hda := hx
    have nC : BigC K (c 10) := hc.n 10 (by decide)
    have q8 : u.ns.length = 8 → ∀ C d H', BigC K C → Ex H H' → H' d = some (.xd [(("limit" : Str), .int 8)]) → E (.ref C) (some d) H' := fun h8 C d H' hC e hd => qo.big (by
      show dueIf (decide (u.ns.length ≠ 8)) "TooLarge" none = _
      rw [decide_eq_false (fun h => h h8)]
      rfl) hC e hd
    have q : u.ns.length < 8 → ∀ T L1 L2 xs bs H', NewW K H H' (moreN u r) T L1 L2 xs bs → Q (.ref T) H' := fun h8 T L1 L2 xs bs H' N => qo.ok (by
      show dueIf (decide (u.ns.length ≠ 8)) "TooLarge" none = _
      rw [decide_eq_true (show u.ns.length ≠ 8 by omega)]
      rfl) N.ex
    have b3 := hu.few
    obtain ⟨t, x2, x3, rfl, hS, g2, g3⟩ := Wb.at (hd.up e12)
    obtain ⟨ar, zr, rfl, hLr, hAr, hzr⟩ := hda.up e12
    obtain rfl := DaAll.ints.mp hAr
    obtain ⟨a2, ys, rfl, hL2, hA2, _⟩ := g2
    obtain ⟨a, xs, rfl, hL, hA, _⟩ := g3
    have hl := hA.len
    rw [List.length_map] at hl hzr
    refine ⟨_, rfl, t, _, rfl, hS, rfl, _, _, rfl, _, _, rfl, _, _, rfl, rfl, ?_⟩
    refine ⟨_, rfl, a, _, rfl, .inl (.inl (.inl hL)), rfl, _, rfl, ite2 (fun h8 => ?_) (fun h8 => ?_)⟩
    · refine ⟨_, rfl, fun d hdn => ?_⟩
      exact q8 (by
        have : (xs.length : Int) = 8 := by simpa using h8
        omega) (c 10) d _ nC (e12.tr (Ex.nw hdn)) upd_same
    have h8 : u.ns.length < 8 := by
      have : ¬ (xs.length : Int) = 8 := by simpa using h8
      omega
    refine ⟨_, rfl, _, rfl, a2, _, rfl, .inl (.inl (.inl hL2)), fun b hb => ?_⟩
    have e3 : Ex H2 (upd H2 b (.lst ys)) := Ex.nw hb
    have f3 : (upd H2 b (.lst ys)) b = some (.lst ys) := upd_same
    generalize upd H2 b (.lst ys) = H3 at e3 f3
    refine ⟨_, rfl, _, rfl, by show 1 ≤ sizeLine; decide, fun c1 hc1 => ?_⟩
    have e4 : Ex H3 (upd H3 c1 (.lst [.ref ar])) := Ex.nw hc1
    have f4 : (upd H3 c1 (.lst [.ref ar])) c1 = some (.lst [.ref ar]) := upd_same
    generalize upd H3 c1 (.lst [.ref ar]) = H4 at e4 f4
    refine ⟨a, c1, _, _, rfl, rfl, .inl (.inl ((e3.tr e4) _ _ hL)), .inl (.inl f4), by show xs.length + 1 ≤ 1000000; omega, fun c3 hc3 => ?_⟩
    have e5 : Ex H4 (upd H4 c3 (.lst (xs ++ [.ref ar]))) := Ex.nw hc3
    have f5 : (upd H4 c3 (.lst (xs ++ [.ref ar]))) c3 = some (.lst (xs ++ [.ref ar])) := upd_same
    generalize upd H4 c3 (.lst (xs ++ [.ref ar])) = H5 at e5 f5
    have e35 := e4.tr e5
    have e25 := e3.tr e35
    have dn : Da K H5 (dRows (u.ns ++ [r])) (.ref c3) := by
      refine ⟨c3, _, rfl, f5, ?_, by rw [List.length_map, List.length_append, List.length_singleton]; omega⟩
      rw [List.map_append]
      exact (hA.up e25).app ⟨_, _, rfl, dInts_of (e25 _ _ hLr) hzr, rfl⟩
    refine ⟨_, _, rfl, dn, fun L bs H6 R => ?_⟩
    refine ⟨by show 3 ≤ sizeLine; decide, fun Tt hT => ?_⟩
    have e7 : Ex H6 (upd H6 Tt (.tup [.int u.n, .ref b, .ref L])) := Ex.nw hT
    have f7 : (upd H6 Tt (.tup [.int u.n, .ref b, .ref L])) Tt = some (.tup [.int u.n, .ref b, .ref L]) := upd_same
    generalize upd H6 Tt (.tup [.int u.n, .ref b, .ref L]) = H7 at e7 f7
    have e05 := e12.tr e25
    have f6 := e35 _ _ f3
    refine q h8 Tt b L ys bs H7 ⟨(e05.tr R.ex).tr e7, f7, e12.fr hb, e7 _ _ (R.ex _ _ f6), hA2.up (e25.tr (R.ex.tr e7)), e05.fr R.new, e7 _ _ R.at_, R.len, ?_, R.nd, ?_⟩
    · intro j b' hb'
      obtain ⟨n, r, h1, h2⟩ := R.row j b' hb'
      refine ⟨⟨e05.fr n.1, n.2, fun e => ?_⟩, r, h1, e7 _ _ h2⟩
      rw [← e, n.1] at f6
      cases f6
    · intro e
      rw [e, R.new] at f6
      cases f6
end

/-! without_nudge: slots 0 web, 1 nudge, 2 count, 3 pairs, 4 nudges -/
abbrev s_without_nudge : Stmt := topS 44
abbrev N_without_nudge : List Str := ["web", "nudge", "count", "pairs", "nudges"]
abbrev P_without_nudge : List Str := ["web", "nudge"]
theorem sc_without_nudge : FnScope N_without_nudge P_without_nudge (defScope s_without_nudge) := ⟨rfl, rfl, rfl, by decide +kernel, rfl, by decide +kernel, by decide +kernel⟩
abbrev lessN (u : Wb) (k : Nat) : Wb := ⟨u.n, u.ps, u.ns.take k ++ u.ns.drop (k + 1)⟩
def sp_without_nudge (K : PySem.W.Frag) : Sp := fun vs H Q E => ∃ v x d dx, vs = [v, x] ∧ Da K H d v ∧ Da K H dx x ∧ Out K H Q E (dueCall 5 d dx .none)
section
variable {P : Program} {w : World} {K : PySem.W.Frag} {mg : Str → Option Value} {base : Heap}
theorem ok_without_nudge {f : Addr} {fd : FuncData} (T : Txt K mg) (F : Fun K "without_nudge" "without_nudge" s_without_nudge f fd)
    (D_check_web : DefOk P w K mg base (L2.CX P w) 7 "check_web" P_check_web (sp_check_web K))
    (D_check_nudge : DefOk P w K mg base (L2.CX P w) 3 "check_nudge" P_check_nudge (sp_check_nudge K))
    (D_copied_nudges : DefOk P w K mg base CX0 1 "copied_nudges" P_copied_nudges (sp_copied_nudges K)) :
    FnG P w K mg base (L2.CX P w) 8 f fd P_without_nudge (sp_without_nudge K) := by
  obtain ⟨c, fB, fP, hc⟩ := T.fam
  refine okG F sc_without_nudge (fun vs H Q E h => ?_) (fun cdv A outer s H vs Q E hr hq h => ?_)
  · obtain ⟨v, x, d, dx, rfl, _⟩ := h
    rfl
  · obtain ⟨v, x, d, dx, rfl, hd, hx, qo⟩ := h
    refine ⟨_, (pss_cons (ps_expr (pe_callD D_check_web (hr.mono (by decide)) hq (passE (takes_of rfl rfl rfl rfl)) (pa_cons (pv 0) pa_nil)))
      (pss_cons (ps_expr (pe_callD D_check_nudge (hr.mono (by decide)) hq (passE (takes_of rfl rfl rfl rfl)) (pa_cons (pv 0) (pa_cons (pv 1) pa_nil))))
      (pss_cons (ps_asg (pv 0) (pg_tupK (n := 3) K rfl (pgs_cons (pg_name (i := 2) sc_without_nudge.nd rfl (by first | exact .inl rfl | exact .inr rfl)) (pgs_cons (pg_name (i := 3) sc_without_nudge.nd rfl (by first | exact .inl rfl | exact .inr rfl)) (pgs_cons (pg_name (i := 4) sc_without_nudge.nd rfl (by first | exact .inl rfl | exact .inr rfl)) pgs_nil)))))
      (pss_one (ps_ret (pe_tup (pa_cons (pv 2) (pa_cons (pe_callTy (call_listK K) (by rfl) T.b_list bt_list (pa_cons (pv 3) pa_nil)) (pa_cons (pe_callD D_copied_nudges (hr.mono (by decide)) hq pass0 (pa_cons (pe_op (op_catS K) (pe_slice (sl_listK K) (pv 4) po_none (po_some (pv 1))) (pe_slice (sl_listK K) (pv 4) (po_some (pe_op op_add (pv 1) pe_int)) po_none)) pa_nil)) pa_nil))))))))), ?_⟩
    refine ⟨_, rfl, v, d, rfl, hd, fun hw C H' hC e => qo.err (dueno _ _ _ _ hw) hC e, fun hw H0 e0 => ?_⟩
    obtain ⟨u, rfl, hu⟩ := webB_inv hw
    have qe : dueCall 5 u.d dx .none = dueIf (numB dx u.ns.length) "InvalidNudge" none := (due5 ..).trans (dueWeb_of hu)
    rw [qe] at qo
    refine ⟨_, rfl, _, rfl, v, u, x, dx, rfl, hd.up e0, hu, hx.up e0, fun hb C H' hC e => qo.err (by rw [hb]; rfl) hC (e0.tr e), fun hb H1 e1' => ?_⟩
    have e1 := e0.tr e1'
    rw [hb] at qo
    obtain ⟨z, rfl, hz⟩ := numB_inv hb
    obtain rfl : x = .int z := hx
    clear hb
    have b3 := hu.few
    have q : ∀ T L1 L2 xs bs H', NewW K H H' (lessN u z.toNat) T L1 L2 xs bs → Q (.ref T) H' := fun T L1 L2 xs bs H' N => qo.ok rfl N.ex
    obtain ⟨t, x2, x3, rfl, hS, g2, g3⟩ := Wb.at (hd.up e1)
    obtain ⟨a2, ys, rfl, hL2, hA2, _⟩ := g2
    obtain ⟨a, xs, rfl, hL, hA, _⟩ := g3
    have hl := hA.len
    rw [List.length_map] at hl
    refine ⟨_, rfl, t, _, rfl, hS, rfl, _, _, rfl, _, _, rfl, _, _, rfl, rfl, ?_⟩
    refine ⟨_, rfl, _, rfl, a2, _, rfl, .inl (.inl (.inl hL2)), fun b hb => ?_⟩
    have e2 : Ex H1 (upd H1 b (.lst ys)) := Ex.nw hb
    have f2 : (upd H1 b (.lst ys)) b = some (.lst ys) := upd_same
    generalize upd H1 b (.lst ys) = H2 at e2 f2
    have hk : z = ((z.toNat : Nat) : Int) := (Int.toNat_of_nonneg hz.1).symm
    generalize z.toNat = k at hk q
    subst hk
    have hX : SqL K H2 a xs := .inl (.inl (e2 _ _ hL))
    refine ⟨_, rfl, _, rfl, _, rfl, a, xs, rfl, hX, fun c1 hc1 => ?_⟩
    rw [cut_take xs k (by omega)]
    have e3 : Ex H2 (upd H2 c1 (.lst (xs.take k))) := Ex.nw hc1
    have f3 : (upd H2 c1 (.lst (xs.take k))) c1 = some (.lst (xs.take k)) := upd_same
    generalize upd H2 c1 (.lst (xs.take k)) = H3 at e3 f3
    refine ⟨_, rfl, _, rfl, _, _, rfl, rfl, _, rfl, a, xs, rfl, e3.l hX, fun c2 hc2 => ?_⟩
    rw [show ((k : Int) + 1) = ((k + 1 : Nat) : Int) by omega, cut_drop xs (k + 1) (by omega)]
    have e4 : Ex H3 (upd H3 c2 (.lst (xs.drop (k + 1)))) := Ex.nw hc2
    have f4 : (upd H3 c2 (.lst (xs.drop (k + 1)))) c2 = some (.lst (xs.drop (k + 1))) := upd_same
    generalize upd H3 c2 (.lst (xs.drop (k + 1))) = H4 at e4 f4
    refine ⟨c1, c2, _, _, rfl, rfl, .inl (.inl (e4 _ _ f3)), .inl (.inl f4), by rw [List.length_take, List.length_drop]; omega, fun c3 hc3 => ?_⟩
    have e5 : Ex H4 (upd H4 c3 (.lst (xs.take k ++ xs.drop (k + 1)))) := Ex.nw hc3
    have f5 : (upd H4 c3 (.lst (xs.take k ++ xs.drop (k + 1)))) c3 = some (.lst (xs.take k ++ xs.drop (k + 1))) := upd_same
    generalize upd H4 c3 (.lst (xs.take k ++ xs.drop (k + 1))) = H5 at e5 f5
    have e25 := e3.tr (e4.tr e5)
    have hA5 := hA.up (e2.tr e25)
    have dn : Da K H5 (dRows (u.ns.take k ++ u.ns.drop (k + 1))) (.ref c3) := by
      refine ⟨c3, _, rfl, f5, ?_, by rw [List.length_map, List.length_append, List.length_take, List.length_drop]; omega⟩
      rw [List.map_append, List.map_take, List.map_drop]
      exact (hA5.take k).app (hA5.drop (k + 1))
    refine ⟨_, _, rfl, dn, fun L bs H6 R => ?_⟩
    refine ⟨by show 3 ≤ sizeLine; decide, fun Tt hT => ?_⟩
    have e7 : Ex H6 (upd H6 Tt (.tup [.int u.n, .ref b, .ref L])) := Ex.nw hT
    have f7 : (upd H6 Tt (.tup [.int u.n, .ref b, .ref L])) Tt = some (.tup [.int u.n, .ref b, .ref L]) := upd_same
    generalize upd H6 Tt (.tup [.int u.n, .ref b, .ref L]) = H7 at e7 f7
    have e15 := e1.tr (e2.tr e25)
    have f6 := e25 _ _ f2
    refine q Tt b L ys bs H7 ⟨(e15.tr R.ex).tr e7, f7, e1.fr hb, e7 _ _ (R.ex _ _ f6), hA2.up ((e2.tr e25).tr (R.ex.tr e7)), e15.fr R.new, e7 _ _ R.at_, R.len, ?_, R.nd, ?_⟩
    · intro j b' hb'
      obtain ⟨n, r, h1, h2⟩ := R.row j b' hb'
      refine ⟨⟨e15.fr n.1, n.2, fun e => ?_⟩, r, h1, e7 _ _ h2⟩
      rw [← e, n.1] at f6
      cases f6
    · intro e
      rw [e, R.new] at f6
      cases f6
end

/-! turned: slots 0 web, 1 count, 2 pairs, 3 nudges, 4 source, 5 target -/
abbrev s_turned : Stmt := topS 45
abbrev N_turned : List Str := ["web", "count", "pairs", "nudges", "source", "target"]
abbrev P_turned : List Str := ["web"]
theorem sc_turned : FnScope N_turned P_turned (defScope s_turned) := ⟨rfl, rfl, rfl, by decide +kernel, rfl, by decide +kernel, by decide +kernel⟩
def sp_turned (K : PySem.W.Frag) : Sp := fun vs H Q E => ∃ v d , vs = [v] ∧ Da K H d v ∧ Out K H Q E (dueCall 9 d .none .none)
section
variable {P : Program} {w : World} {K : PySem.W.Frag} {mg : Str → Option Value} {base : Heap}
theorem ok_turned {f : Addr} {fd : FuncData} (T : Txt K mg) (F : Fun K "turned" "turned" s_turned f fd)
    (D_check_web : DefOk P w K mg base (L2.CX P w) 7 "check_web" P_check_web (sp_check_web K))
    (D_copied_nudges : DefOk P w K mg base CX0 1 "copied_nudges" P_copied_nudges (sp_copied_nudges K)) :
    FnG P w K mg base (L2.CX P w) 8 f fd P_turned (sp_turned K) := by
  obtain ⟨c, fB, fP, hc⟩ := T.fam
  refine okG F sc_turned (fun vs H Q E h => ?_) (fun cdv A outer s H vs Q E hr hq h => ?_)
  · obtain ⟨v, d, rfl, _⟩ := h
    rfl
  · obtain ⟨v, d, rfl, hd, qo⟩ := h
    refine ⟨_, (pss_cons (ps_expr (pe_callD D_check_web (hr.mono (by decide)) hq (passE (takes_of rfl rfl rfl rfl)) (pa_cons (pv 0) pa_nil)))
      (pss_cons (ps_asg (pv 0) (pg_tupK (n := 3) K rfl (pgs_cons (pg_name (i := 1) sc_turned.nd rfl (by first | exact .inl rfl | exact .inr rfl)) (pgs_cons (pg_name (i := 2) sc_turned.nd rfl (by first | exact .inl rfl | exact .inr rfl)) (pgs_cons (pg_name (i := 3) sc_turned.nd rfl (by first | exact .inl rfl | exact .inr rfl)) pgs_nil)))))
      (pss_one (ps_ret (pe_tup (pa_cons (pv 1) (pa_cons (pe_callB (cr_sortedPOk K) (by rfl) T.b_sorted bt_sorted (pa_cons (pe_lc (own := [("source", 4), ("target", 5)]) rfl sc_turned.nd (pi_listK K (pv 2)) (blkOk_by (N := N_turned) (sc := defScope s_turned) (by decide +kernel)) (fun _ _ _ _ _ => (pg_tupK (n := 2) K rfl (pgs_cons (pg_name (i := 4) sc_turned.nd rfl (by first | exact .inl rfl | exact .inr rfl)) (pgs_cons (pg_name (i := 5) sc_turned.nd rfl (by first | exact .inl rfl | exact .inr rfl)) pgs_nil)))) (fun _ _ _ _ _ => pts_nil) (fun _ _ _ _ _ => (pe_tup (pa_cons (pv 5) (pa_cons (pv 4) pa_nil))))) pa_nil)) (pa_cons (pe_callD D_copied_nudges (hr.mono (by decide)) hq pass0 (pa_cons (pv 3) pa_nil)) pa_nil)))))))), ?_⟩
    refine ⟨_, rfl, v, d, rfl, hd, fun hw C H' hC e => qo.err (dueno _ _ _ _ hw) hC e, fun hw H1 e1 => ?_⟩
    obtain ⟨u, rfl, hu⟩ := webB_inv hw
    have qe : dueCall 9 u.d .none .none = none := (due9 ..).trans (dueWeb_of hu)
    rw [qe] at qo
    have b4 := hu.len
    have q : ∀ w T L1 L2 xs bs H', NewW K H H' w T L1 L2 xs bs → w.Ok → Trn u w → Q (.ref T) H' := fun w T L1 L2 xs bs H' N _ _ => qo.ok rfl N.ex
    obtain ⟨t, x2, x3, rfl, hS, g2, g3⟩ := Wb.at (hd.up e1)
    refine ⟨_, rfl, t, _, rfl, hS, rfl, _, _, rfl, _, _, rfl, _, _, rfl, rfl, ?_⟩
    obtain ⟨a2, ys, rfl, hL2, hA2, hz2⟩ := g2
    have hY : SqL K H1 a2 ys := .inl (.inl hL2)
    have hl2 := hA2.len
    rw [List.length_map] at hl2
    refine ⟨_, rfl, _, rfl, a2, rfl, ⟨_, hY⟩, fun D hD => ?_⟩
    refine lc_by ys.length (fun i H' => Ex H1 H' ∧ ∃ ac, H' D = some (.lst ac) ∧ DaAll K H' (((u.ps.take i).map fun q => (q.2, q.1)).map dPair) ac)
      ⟨Ex.nw hD, [], upd_same, rfl⟩ (fun i H' hi p => itl_go hY p.1 hi) (fun H' p => itl_stop hY p.1) ?_ ?_
    · rintro i H3 x H4 hi ⟨e3, ac, hD3, hA3⟩ y
      obtain ⟨rfl, hx⟩ := itl_yld y hY e3
      obtain ⟨p, hp, b, rfl, hSb⟩ := pairs_at hA2 hx
      have l3 := hA3.len
      rw [List.length_map, List.length_map, List.length_take] at l3
      refine ⟨b, _, rfl, e3.t hSb, rfl, _, _, rfl, _, _, rfl, rfl, rfl, ?_⟩
      refine ⟨_, rfl, _, rfl, by show 2 ≤ sizeLine; decide, fun T2 hT2 => ?_⟩
      have e6 : Ex H4 (upd H4 T2 (.tup [.int p.2, .int p.1])) := Ex.nw hT2
      have hD6 := e6 _ _ hD3
      refine ⟨ac, hD6, mil' (by omega), (e3.tr e6).wr hD, ac ++ [.ref T2], upd_same, ?_⟩
      rw [take_snoc hp, List.map_append]
      refine pairs_wr hD6 ?_
      rw [List.map_append]
      exact (hA3.up e6).app ⟨_, _, rfl, dPair_of (p := (p.2, p.1)) upd_same, rfl⟩
    · rintro H3 ⟨e3, ac, hD3, hA3⟩
      rw [← hl2, List.take_length] at hA3
      have hn : (u.ps.map fun q => (q.2, q.1)).Nodup := by
        refine (List.pairwise_map).mpr ((nodup_asc hu.asc).imp fun {a b} n e => n ?_)
        obtain ⟨a1, a2⟩ := a
        obtain ⟨b1, b2⟩ := b
        simp only [Prod.mk.injEq] at e ⊢
        exact ⟨e.2, e.1⟩
      obtain ⟨k1, k2⟩ := keys_of hA3
      refine ⟨D, ac, keyOf H3, rfl, .inl (.inl hD3), k1, fun zs p s1 s2 hp => ?_⟩
      obtain ⟨M, m1, m2, m3, m4⟩ := sortedP hA3 hn s1 s2
      have e4 : Ex H3 (upd H3 p (.lst zs)) := Ex.nw hp
      have f4 : (upd H3 p (.lst zs)) p = some (.lst zs) := upd_same
      generalize upd H3 p (.lst zs) = H4 at e4 f4
      have e14 := e3.tr e4
      refine ⟨_, rfl, x3, u.ns, rfl, g3.up e14, fun L bs H5 R => ?_⟩
      refine ⟨by show 3 ≤ sizeLine; decide, fun T hT => ?_⟩
      have e6 : Ex H5 (upd H5 T (.tup [.int u.n, .ref p, .ref L])) := Ex.nw hT
      have f6 : (upd H5 T (.tup [.int u.n, .ref p, .ref L])) T = some (.tup [.int u.n, .ref p, .ref L]) := upd_same
      generalize upd H5 T (.tup [.int u.n, .ref p, .ref L]) = H6 at e6 f6
      have tr : Trn u ⟨u.n, M, u.ns⟩ := by
        refine ⟨rfl, fun x => ?_, rfl⟩
        show x ∈ M ↔ _
        rw [m3, List.mem_map]
        constructor
        · rintro ⟨y, hy, rfl⟩
          exact hy
        · intro hx
          exact ⟨_, hx, rfl⟩
      refine q ⟨u.n, M, u.ns⟩ T p L zs bs H6 ⟨((e1.tr e14).tr R.ex).tr e6, f6, e1.fr (e3.fr hp), e6 _ _ (R.ex _ _ f4), (m1.up (e4.tr (R.ex.tr e6))), (e1.tr e14).fr R.new, e6 _ _ R.at_, R.len, ?_, R.nd, ?_⟩ (tr.ok hu m2) tr
      · intro k b hb
        obtain ⟨n, r, h1, h2⟩ := R.row k b hb
        refine ⟨⟨(e1.tr e14).fr n.1, n.2, fun e => ?_⟩, r, h1, e6 _ _ h2⟩
        rw [← e, n.1] at f4
        cases f4
      · intro e
        rw [e, R.new] at f4
        cases f4
end

/-! renumbered: slots 0 web, 1 order, 2 count, 3 pairs, 4 nudges, 5 places, 6 at, 7 quantity, 8 new_pairs, 9 source, 10 target, 11 new_nudges, 12 nudge -/
abbrev s_renumbered : Stmt := topS 46
abbrev N_renumbered : List Str := ["web", "order", "count", "pairs", "nudges", "places", "at", "quantity", "new_pairs", "source", "target", "new_nudges", "nudge"]
abbrev P_renumbered : List Str := ["web", "order"]
theorem sc_renumbered : FnScope N_renumbered P_renumbered (defScope s_renumbered) := ⟨rfl, rfl, rfl, by decide +kernel, rfl, by decide +kernel, by decide +kernel⟩
theorem range_getD {α β : Type} (g : α → β) (d : α) (r : List α) : (List.range r.length).map (fun j => g (r.getD j d)) = (r.map g) := by
  have h := filter_range d (fun _ => true) g r
  rw [filter_true, filter_true] at h
  exact h
def sp_renumbered (K : PySem.W.Frag) : Sp := fun vs H Q E => ∃ v a d da, vs = [v, a] ∧ Da K H d v ∧ Da K H da a ∧ Out K H Q E (dueCall 6 d da .none)
section
variable {P : Program} {w : World} {K : PySem.W.Frag} {mg : Str → Option Value} {base : Heap}
theorem ok_renumbered {f : Addr} {fd : FuncData} (T : Txt K mg) (F : Fun K "renumbered" "renumbered" s_renumbered f fd)
    (D_check_web : DefOk P w K mg base (L2.CX P w) 7 "check_web" P_check_web (sp_check_web K))
    (D_check_order : DefOk P w K mg base (L2.CX P w) 5 "check_order" P_check_order (sp_check_order K)) :
    FnG P w K mg base (L2.CX P w) 8 f fd P_renumbered (sp_renumbered K) := by
  obtain ⟨c, fB, fP, hc⟩ := T.fam
  refine okG F sc_renumbered (fun vs H Q E h => ?_) (fun cdv A outer s H vs Q E hr hq h => ?_)
  · obtain ⟨v, a, d, da, rfl, _⟩ := h
    rfl
  · obtain ⟨v, a, d, da, rfl, hd, ha, qo⟩ := h
    refine ⟨_, (pss_cons (ps_expr (pe_callD D_check_web (hr.mono (by decide)) hq (passE (takes_of rfl rfl rfl rfl)) (pa_cons (pv 0) pa_nil)))
      (pss_cons (ps_expr (pe_callD D_check_order (hr.mono (by decide)) hq (passE (takes_of rfl rfl rfl rfl)) (pa_cons (pv 0) (pa_cons (pv 1) pa_nil))))
      (pss_cons (ps_asg (pv 0) (pg_tupK (n := 3) K rfl (pgs_cons (pg_name (i := 2) sc_renumbered.nd rfl (by first | exact .inl rfl | exact .inr rfl)) (pgs_cons (pg_name (i := 3) sc_renumbered.nd rfl (by first | exact .inl rfl | exact .inr rfl)) (pgs_cons (pg_name (i := 4) sc_renumbered.nd rfl (by first | exact .inl rfl | exact .inr rfl)) pgs_nil)))))
      (pss_cons (ps_set (i := 5) sc_renumbered.nd rfl (by first | exact .inl rfl | exact .inr rfl) (pe_dc (own := [("at", 6), ("quantity", 7)]) rfl sc_renumbered.nd (pi_enum (by rfl) T.b_enumerate (pa_cons (pv 1) pa_nil)) (blkOk_by (N := N_renumbered) (sc := defScope s_renumbered) (by decide +kernel)) (fun _ _ _ _ _ => (pg_tupK (n := 2) K rfl (pgs_cons (pg_name (i := 6) sc_renumbered.nd rfl (by first | exact .inl rfl | exact .inr rfl)) (pgs_cons (pg_name (i := 7) sc_renumbered.nd rfl (by first | exact .inl rfl | exact .inr rfl)) pgs_nil)))) (fun _ _ _ _ _ => pts_nil) (fun _ _ _ _ _ => (pv 7)) (fun _ _ _ _ _ => (pv 6))))
      (pss_cons (ps_set (i := 8) sc_renumbered.nd rfl (by first | exact .inl rfl | exact .inr rfl) (pe_callB (cr_sortedPOk K) (by rfl) T.b_sorted bt_sorted (pa_cons (pe_lc (own := [("source", 9), ("target", 10)]) rfl sc_renumbered.nd (pi_listK K (pv 3)) (blkOk_by (N := N_renumbered) (sc := defScope s_renumbered) (by decide +kernel)) (fun _ _ _ _ _ => (pg_tupK (n := 2) K rfl (pgs_cons (pg_name (i := 9) sc_renumbered.nd rfl (by first | exact .inl rfl | exact .inr rfl)) (pgs_cons (pg_name (i := 10) sc_renumbered.nd rfl (by first | exact .inl rfl | exact .inr rfl)) pgs_nil)))) (fun _ _ _ _ _ => pts_nil) (fun _ _ _ _ _ => (pe_tup (pa_cons (pe_dgetK hr (pv 5) (pv 9) (fun _ _ => rfl)) (pa_cons (pe_dgetK hr (pv 5) (pv 10) (fun _ _ => rfl)) pa_nil))))) pa_nil)))
      (pss_cons (ps_setLc (i := 11) (own := [("nudge", 12)]) rfl sc_renumbered.nd rfl rfl (sw_true rfl rfl rfl (by decide +kernel)) (pi_listK K (pv 4)) (blkOk_by (N := N_renumbered) (sc := defScope s_renumbered) (by decide +kernel)) (fun _ _ _ _ _ => (pg_name (i := 12) sc_renumbered.nd rfl (by first | exact .inl rfl | exact .inr rfl))) (fun _ _ _ _ _ => pts_nil) (fun _ _ _ _ _ => (pe_callB (cr_sortedIk K) (by rfl) T.b_sorted bt_sorted (pa_cons (pe_lc (own := [("target", 10)]) rfl sc_renumbered.nd (pi_listK K (pv 12)) (blkOk_by (by kernel_rfl)) (fun _ _ _ _ _ => (pg_name (i := 10) sc_renumbered.nd rfl (by first | exact .inl rfl | exact .inr rfl))) (fun _ _ _ _ _ => pts_nil) (fun _ _ _ _ _ => (pe_dgetK hr (pv 5) (pv 10) (fun _ _ => rfl)))) pa_nil))))
      (pss_one (ps_ret (pe_tup (pa_cons (pv 2) (pa_cons (pv 8) (pa_cons (pv 11) pa_nil)))))))))))), ?_⟩
    refine ⟨_, rfl, v, d, rfl, hd, fun hw C H' hC e => qo.err (dueno _ _ _ _ hw) hC e, fun hw H0 e0 => ?_⟩
    obtain ⟨u, rfl, hu⟩ := webB_inv hw
    have qe : dueCall 6 u.d da .none = dueIf (ordB da u.n) "InvalidOrder" none := (due6 ..).trans (dueWeb_of hu)
    rw [qe] at qo
    refine ⟨_, rfl, _, rfl, v, u, a, da, rfl, hd.up e0, hu, ha.up e0, fun hb C H' hC e => qo.err (by rw [hb]; rfl) hC (e0.tr e), fun hb H2 e12' => ?_⟩
    have e12 := e0.tr e12'
    rw [hb] at qo
    obtain ⟨o, rfl, ho⟩ := ordB_of.mp hb
    have hda := ha
    have e1 := e0
    have e2 := e12'
    have b1 := hu.lo
    have b2 := hu.hi
    have b3 := hu.few
    have b4 := hu.len
    have bo := ho.len
    have q : ∀ w T L1 L2 xs bs H', NewW K H H' w T L1 L2 xs bs → w.Ok → Ren (pl o) u w → Q (.ref T) H' := fun w T L1 L2 xs bs H' N _ _ => qo.ok rfl N.ex
    obtain ⟨t, x2, x3, rfl, hS, g2, g3⟩ := Wb.at (hd.up e12)
    obtain ⟨ao, rfl, hO⟩ := dInts_at (hda.up e12)
    refine ⟨_, rfl, t, _, rfl, hS, rfl, _, _, rfl, _, _, rfl, _, _, rfl, rfl, ?_⟩
    obtain ⟨a2, ys, rfl, hL2, hA2, hz2⟩ := g2
    have hY : SqL K H2 a2 ys := .inl (.inl hL2)
    have hl2 := hA2.len
    rw [List.length_map] at hl2
    refine ⟨_, rfl, ao, _, rfl, hO, fun P hP => ?_⟩
    refine dc_by (o.map V.int).length (fun i H' => Ex H2 H' ∧ ∃ kvs, H' P = some (.dK kvs) ∧ PlTo o i kvs)
      ⟨Ex.nw hP, [], upd_same, by simp, fun j q hj => by omega⟩ (fun i H' hi p => ite_go hO p.1 hi) (fun H' p => ite_stop hO p.1) ?_ ?_
    · rintro i H3 x H4 hi ⟨e3, kvs, hP3, hk⟩ ⟨T1, y1, rfl, hT1, rfl, hy1⟩
      obtain ⟨z, hz, rfl⟩ := map_at (hy1 _ (e3.l hO))
      have e4 : Ex H3 (upd H3 T1 (.tup [.int (i : Nat), .int z])) := Ex.nw hT1
      have f4 : (upd H3 T1 (.tup [.int (i : Nat), .int z])) T1 = some (.tup [.int (i : Nat), .int z]) := upd_same
      generalize upd H3 T1 (.tup [.int (i : Nat), .int z]) = H5 at e4 f4
      refine ⟨T1, _, rfl, .inl (.inl f4), rfl, _, _, rfl, _, _, rfl, rfl, rfl, ?_⟩
      have hP5 := e4 _ _ hP3
      rw [List.length_map] at hi
      refine ⟨_, rfl, _, rfl, kvs, .inl z, rfl, hP5, mil' (by have := hk.1; omega), (e3.tr e4).wr hP, _, upd_same, hk.step ho.nd hz⟩
    · rintro H3 ⟨e3, kvs, hP3, hk⟩
      rw [List.length_map] at hk
      have hY3 := e3.l hY
      refine ⟨_, rfl, _, rfl, ⟨_, hY3⟩, fun D hD => ?_⟩
      refine lc_by ys.length (fun i H' => Ex H3 H' ∧ ∃ ac, H' D = some (.lst ac) ∧ DaAll K H' (((u.ps.take i).map fun q => (pl o q.1, pl o q.2)).map dPair) ac)
        ⟨Ex.nw hD, [], upd_same, rfl⟩ (fun i H' hi p => itl_go hY3 p.1 hi) (fun H' p => itl_stop hY3 p.1) ?_ ?_
      · rintro i H4 x H5 hi ⟨e4, ac, hD4, hA4⟩ y
        obtain ⟨rfl, hx⟩ := itl_yld y hY3 e4
        obtain ⟨p, hp, b, rfl, hSb⟩ := pairs_at hA2 hx
        have hpr := hu.ps p (List.mem_of_getElem? hp)
        have l3 := hA4.len
        rw [List.length_map, List.length_map, List.length_take] at l3
        refine ⟨b, _, rfl, (e3.tr e4).t hSb, rfl, _, _, rfl, _, _, rfl, rfl, rfl, ?_⟩
        have hP4 := e4 _ _ hP3
        refine ⟨_, rfl, _, rfl, P, _, rfl, by rw [← PlTo.get ho hk hpr.1]; exact DGet.k (k := .inl p.1) hP4, ?_⟩
        refine ⟨_, rfl, _, rfl, P, _, rfl, by rw [← PlTo.get ho hk hpr.2]; exact DGet.k (k := .inl p.2) hP4, ?_⟩
        refine ⟨by show 2 ≤ sizeLine; decide, fun T2 hT2 => ?_⟩
        have e6 : Ex H5 (upd H5 T2 (.tup [.int (pl o p.1), .int (pl o p.2)])) := Ex.nw hT2
        have hD6 := e6 _ _ hD4
        refine ⟨ac, hD6, mil' (by omega), (e4.tr e6).wr hD, ac ++ [.ref T2], upd_same, ?_⟩
        rw [take_snoc hp, List.map_append]
        refine pairs_wr hD6 ?_
        rw [List.map_append]
        exact (hA4.up e6).app ⟨_, _, rfl, dPair_of (p := (pl o p.1, pl o p.2)) upd_same, rfl⟩
      · rintro H4 ⟨e4, ac, hD4, hA4⟩
        rw [← hl2, List.take_length] at hA4
        obtain ⟨k1, k2⟩ := keys_of hA4
        refine ⟨D, ac, keyOf H4, rfl, .inl (.inl hD4), k1, fun zs p s1 s2 hp => ?_⟩
        obtain ⟨M, m1, m2, m3, m4⟩ := sortedP hA4 (ren_nodup hu ho) s1 s2
        have e5 : Ex H4 (upd H4 p (.lst zs)) := Ex.nw hp
        have f5 : (upd H4 p (.lst zs)) p = some (.lst zs) := upd_same
        generalize upd H4 p (.lst zs) = H5 at e5 f5
        have e25 := e3.tr (e4.tr e5)
        obtain ⟨a3, rs, rfl, hL3, hA3, hz3⟩ := g3
        have hl3 := hA3.len
        rw [List.length_map] at hl3
        have hR : SqL K H5 a3 rs := .inl (.inl (e25 _ _ hL3))
        refine ⟨_, rfl, a3, rfl, ⟨_, hR⟩, fun L hL => ?_⟩
        refine lc_by rs.length (fun i H' => ∃ (ss : List (List Int)) (bs : List Addr), NewR H5 H' ss L bs ∧ ss.length = i ∧
            ∀ (k : Nat) (s : List Int), ss[k]? = some s → ∃ r, u.ns[k]? = some r ∧ ascB ltIn s = true ∧ RowRen (pl o) r s)
          ⟨[], [], NewR.nil hL, rfl, fun k s hs => by simp at hs⟩ (fun i H' hi p => (by obtain ⟨_, _, h1, _⟩ := p; exact itl_go hR h1.ex hi)) (fun H' p => (by obtain ⟨_, _, h1, _⟩ := p; exact itl_stop hR h1.ex)) ?_ ?_
        · rintro i H6 x H7 hi ⟨ss, bs, R, hlen, hss⟩ y
          obtain ⟨rfl, hx⟩ := itl_yld y hR R.ex
          obtain ⟨dr, hdr, hxd⟩ := hA3.at' hx
          obtain ⟨r, hrr, rfl⟩ := map_at hdr
          obtain ⟨ar, rfl, hr0⟩ := dInts_at hxd
          have hr7 := (e25.tr R.ex).l hr0
          obtain ⟨r1, r2, r3⟩ := hu.ns r (List.mem_of_getElem? hrr)
          have rl := hu.row (List.mem_of_getElem? hrr)
          refine ⟨rfl, _, rfl, ar, rfl, ⟨_, hr7⟩, fun D2 hD2 => ?_⟩
          refine lc_ev (r.map V.int).length (fun _ => true) (fun j y _ => y = .int (pl o (r.getD j 0))) (by rw [List.length_map]; omega) hD2 (fun _ _ _ _ _ h => h)
            (fun j H' hj e => itl_go hr7 e hj) (fun H' e => itl_stop hr7 e) ?_ ?_
          · intro j Ha x Hb hj e _ y Q' N' hQ _
            obtain ⟨rfl, hx⟩ := itl_yld y hr7 e
            obtain ⟨z, hz, rfl⟩ := map_at hx
            refine ⟨rfl, ?_⟩
            have hPa := e _ _ (R.ex _ _ (e5 _ _ (e4 _ _ hP3)))
            refine ⟨_, rfl, _, rfl, P, _, rfl, by rw [← PlTo.get ho hk (r2 z (List.mem_of_getElem? hz))]; exact DGet.k (k := .inl z) hPa, ?_⟩
            refine hQ rfl _ _ Ex.rfl ?_
            rw [List.getD_eq_getElem?_getD, hz]
            rfl
          · intro ws Ha ea hw gv
            have ew : ws = (r.map (pl o)).map V.int := by
              rw [gv.all, List.length_map, List.map_map]
              exact range_getD (fun t => V.int (pl o t)) 0 r
            rw [ew] at hw
            refine ⟨D2, r.map (pl o), rfl, .inl (.inl hw), fun s p2 hp2 hw2 hn2 => ?_⟩
            have e9 : Ex Ha (upd Ha p2 (.lst (s.map V.int))) := Ex.nw hn2
            have f9 : (upd Ha p2 (.lst (s.map V.int))) p2 = some (.lst (s.map V.int)) := upd_same
            generalize upd Ha p2 (.lst (s.map V.int)) = H9 at e9 f9
            have hL9 := e9 _ _ (ea _ _ R.at_)
            refine ⟨_, hL9, mil' (by rw [List.length_map, R.len]; omega), ss ++ [s], bs ++ [p2], R.snoc (ea.tr e9) (ea.fr hn2) f9, by rw [List.length_append, hlen]; rfl, ?_⟩
            intro k s' hs'
            by_cases hk' : k < ss.length
            · rw [List.getElem?_append_left hk'] at hs'
              exact hss k s' hs'
            · have hk2 : k = ss.length := by
                obtain ⟨z, _⟩ := List.getElem?_eq_some_iff.mp hs'
                rw [List.length_append, List.length_singleton] at z
                omega
              subst hk2
              rw [List.getElem?_concat_length] at hs'
              cases hs'
              obtain ⟨g1, g2, _⟩ := row_ren r2 r3 ho hp2 hw2
              exact ⟨r, by rw [hlen]; exact hrr, g1, g2⟩
        · rintro H6 ⟨ss, bs, R, hlen, hss⟩
          refine ⟨_, rfl, _, rfl, _, rfl, by show 3 ≤ sizeLine; decide, fun T hT => ?_⟩
          have e6 : Ex H6 (upd H6 T (.tup [.int u.n, .ref p, .ref L])) := Ex.nw hT
          have f6 : (upd H6 T (.tup [.int u.n, .ref p, .ref L])) T = some (.tup [.int u.n, .ref p, .ref L]) := upd_same
          generalize upd H6 T (.tup [.int u.n, .ref p, .ref L]) = H8 at e6 f6
          have tr : Ren (pl o) u ⟨u.n, M, ss⟩ := ren_of m3 (by omega) fun k s hs => by
            obtain ⟨r, h1, _, h2⟩ := hss k s hs
            exact ⟨r, h1, h2⟩
          have e05 := e12.tr e25
          refine q ⟨u.n, M, ss⟩ T p L zs bs H8 ⟨(e05.tr R.ex).tr e6, f6, e12.fr (e3.fr (e4.fr hp)), e6 _ _ (R.ex _ _ f5), (m1.up (e5.tr (R.ex.tr e6))), e05.fr R.new, e6 _ _ R.at_, R.len, ?_, R.nd, ?_⟩ (tr.ok (n := u.n) hu ho m2 ?_) tr
          · intro k b hb
            obtain ⟨n, r, h1, h2⟩ := R.row k b hb
            refine ⟨⟨e05.fr n.1, n.2, fun e => ?_⟩, r, h1, e6 _ _ h2⟩
            rw [← e, n.1] at f5
            cases f5
          · intro e
            rw [e, R.new] at f5
            cases f5
          · intro r hr'
            obtain ⟨k, hk'⟩ := List.mem_iff_getElem?.mp hr'
            exact (hss k r hk').choose_spec.2.1
end

/-! joined: slots 0 web, 1 second, 2 links, 3 count, 4 pairs, 5 nudges, 6 linking, 7 source, 8 target, 9 moved_pairs, 10 moved_nudges, 11 nudge -/
abbrev s_joined : Stmt := topS 47
abbrev N_joined : List Str := ["web", "second", "links", "count", "pairs", "nudges", "linking", "source", "target", "moved_pairs", "moved_nudges", "nudge"]
abbrev P_joined : List Str := ["web", "second", "links"]
theorem sc_joined : FnScope N_joined P_joined (defScope s_joined) := ⟨rfl, rfl, rfl, by decide +kernel, rfl, by decide +kernel, by decide +kernel⟩
def sp_joined (K : PySem.W.Frag) : Sp := fun vs H Q E => ∃ v1 v2 l d dx dl, vs = [v1, v2, l] ∧ Da K H d v1 ∧ Da K H dx v2 ∧ Da K H dl l ∧ Out K H Q E (dueCall 7 d dx dl)
section
variable {P : Program} {w : World} {K : PySem.W.Frag} {mg : Str → Option Value} {base : Heap}
theorem ok_joined {f : Addr} {fd : FuncData} (T : Txt K mg) (F : Fun K "joined" "joined" s_joined f fd)
    (D_check_web : DefOk P w K mg base (L2.CX P w) 7 "check_web" P_check_web (sp_check_web K))
    (D_check_links : DefOk P w K mg base (L2.CX P w) 5 "check_links" P_check_links (sp_check_links K))
    (D_copied_nudges : DefOk P w K mg base CX0 1 "copied_nudges" P_copied_nudges (sp_copied_nudges K)) :
    FnG P w K mg base (L2.CX P w) 8 f fd P_joined (sp_joined K) := by
  obtain ⟨c, fB, fP, hc⟩ := T.fam
  refine okG F sc_joined (fun vs H Q E h => ?_) (fun cdv A outer s H vs Q E hr hq h => ?_)
  · obtain ⟨v1, v2, l, d, dx, dl, rfl, _⟩ := h
    rfl
  · obtain ⟨v1, v2, l, d, dx, dl, rfl, hd, hd2, hl, qo⟩ := h
    refine ⟨_, (pss_cons (ps_expr (pe_callD D_check_web (hr.mono (by decide)) hq (passE (takes_of rfl rfl rfl rfl)) (pa_cons (pv 0) pa_nil)))
      (pss_cons (ps_expr (pe_callD D_check_web (hr.mono (by decide)) hq (passE (takes_of rfl rfl rfl rfl)) (pa_cons (pv 1) pa_nil)))
      (pss_cons (ps_expr (pe_callD D_check_links (hr.mono (by decide)) hq (passE (takes_of rfl rfl rfl rfl)) (pa_cons (pv 0) (pa_cons (pv 1) (pa_cons (pv 2) pa_nil)))))
      (pss_cons (ps_asg (pv 0) (pg_tupK (n := 3) K rfl (pgs_cons (pg_name (i := 3) sc_joined.nd rfl (by first | exact .inl rfl | exact .inr rfl)) (pgs_cons (pg_name (i := 4) sc_joined.nd rfl (by first | exact .inl rfl | exact .inr rfl)) (pgs_cons (pg_name (i := 5) sc_joined.nd rfl (by first | exact .inl rfl | exact .inr rfl)) pgs_nil)))))
      (pss_cons (ps_if (pt_cmpR op_gt (pe_op op_add (pv 3) (pe_ix (ix_seqK K) (pv 1) pe_int (fun _ _ => rfl))) (pe_globI T.c_MOST_QUANTITIES) (nomark _)) (pss_one (ps_raiseBig rfl hc.big hr (takes_of rfl rfl rfl rfl) (pa_cons (pe_globI T.c_MOST_QUANTITIES) pa_nil))) pss_nil)
      (pss_cons (ps_if (pt_cmpR op_gt (pe_op op_add (pe_callB (call_lenK K) (by rfl) T.b_len bt_len (pa_cons (pv 5) pa_nil)) (pe_callB (call_lenK K) (by rfl) T.b_len bt_len (pa_cons (pe_ix (ix_seqK K) (pv 1) pe_int (fun _ _ => rfl)) pa_nil))) (pe_globI T.c_MOST_NUDGES) (nomark _)) (pss_one (ps_raiseBig rfl hc.big hr (takes_of rfl rfl rfl rfl) (pa_cons (pe_globI T.c_MOST_NUDGES) pa_nil))) pss_nil)
      (PSs.nox (pss_cons (ps_setLc (i := 6) (own := [("source", 7), ("target", 8)]) rfl sc_joined.nd rfl rfl (sw_true rfl rfl rfl (by decide +kernel)) (pi_listK K (pv 2)) (blkOk_by (N := N_joined) (sc := defScope s_joined) (by decide +kernel)) (fun _ _ _ _ _ => (pg_tupK (n := 2) K rfl (pgs_cons (pg_name (i := 7) sc_joined.nd rfl (by first | exact .inl rfl | exact .inr rfl)) (pgs_cons (pg_name (i := 8) sc_joined.nd rfl (by first | exact .inl rfl | exact .inr rfl)) pgs_nil)))) (fun _ _ _ _ _ => pts_nil) (fun _ _ _ _ _ => (pe_tup (pa_cons (pv 7) (pa_cons (pe_op op_add (pv 3) (pv 8)) pa_nil)))))
      (pss_cons (ps_setLc (i := 9) (own := [("source", 7), ("target", 8)]) rfl sc_joined.nd rfl rfl (sw_true rfl rfl rfl (by decide +kernel)) (pi_listK K (pe_ix (ix_seqK K) (pv 1) pe_int (fun _ _ => rfl))) (blkOk_by (N := N_joined) (sc := defScope s_joined) (by decide +kernel)) (fun _ _ _ _ _ => (pg_tupK (n := 2) K rfl (pgs_cons (pg_name (i := 7) sc_joined.nd rfl (by first | exact .inl rfl | exact .inr rfl)) (pgs_cons (pg_name (i := 8) sc_joined.nd rfl (by first | exact .inl rfl | exact .inr rfl)) pgs_nil)))) (fun _ _ _ _ _ => pts_nil) (fun _ _ _ _ _ => (pe_tup (pa_cons (pe_op op_add (pv 3) (pv 7)) (pa_cons (pe_op op_add (pv 3) (pv 8)) pa_nil)))))
      (pss_cons (ps_setLc (i := 10) (own := [("nudge", 11)]) rfl sc_joined.nd rfl rfl (sw_true rfl rfl rfl (by decide +kernel)) (pi_listK K (pe_ix (ix_seqK K) (pv 1) pe_int (fun _ _ => rfl))) (blkOk_by (N := N_joined) (sc := defScope s_joined) (by decide +kernel)) (fun _ _ _ _ _ => (pg_name (i := 11) sc_joined.nd rfl (by first | exact .inl rfl | exact .inr rfl))) (fun _ _ _ _ _ => pts_nil) (fun _ _ _ _ _ => (pe_lc (own := [("target", 8)]) rfl sc_joined.nd (pi_listK K (pv 11)) (blkOk_by (by kernel_rfl)) (fun _ _ _ _ _ => (pg_name (i := 8) sc_joined.nd rfl (by first | exact .inl rfl | exact .inr rfl))) (fun _ _ _ _ _ => pts_nil) (fun _ _ _ _ _ => (pe_op op_add (pv 3) (pv 8))))))
      (pss_one (ps_ret (pe_tup (pa_cons (pe_op op_add (pv 3) (pe_ix (ix_seqK K) (pv 1) pe_int (fun _ _ => rfl))) (pa_cons (pe_callB (cr_sortedPOk K) (by rfl) T.b_sorted bt_sorted (pa_cons (pe_op (op_catS K) (pe_op (op_catS K) (pv 4) (pv 6)) (pv 9)) pa_nil)) (pa_cons (pe_op (op_catS K) (pe_callD D_copied_nudges (hr.mono (by decide)) hq pass0 (pa_cons (pv 5) pa_nil)) (pv 10)) pa_nil)))))))))))))))), ?_⟩
    refine ⟨_, rfl, v1, d, rfl, hd, fun hw C H' hC e => qo.err (dueno _ _ _ _ hw) hC e, fun hw H1 e1 => ?_⟩
    obtain ⟨u, rfl, hu⟩ := webB_inv hw
    have qe : dueCall 7 u.d dx dl = dueWeb dx fun v => dueIf (tuplesB dl u.n v.n) "InvalidLinks" (dueIf (decide (u.n + v.n ≤ 20)) "TooLarge" (dueIf (decide (u.ns.length + v.ns.length ≤ 8)) "TooLarge" none)) := (due7 ..).trans (dueWeb_of hu)
    rw [qe] at qo
    refine ⟨_, rfl, v2, dx, rfl, hd2.up e1, fun hw C H' hC e => qo.err (dueWeb_no hw) hC (e1.tr e), fun hw2 H2 e2 => ?_⟩
    obtain ⟨v, rfl, hv⟩ := webB_inv hw2
    rw [dueWeb_of hv] at qo
    have e12 := e1.tr e2
    refine ⟨_, rfl, _, rfl, _, rfl, v1, v2, u, v, l, dl, rfl, hd.up e12, hd2.up e12, hl.up e12, fun hb C H' hC e => qo.err (by rw [hb]; rfl) hC (e12.tr e), fun hb H3 e3 => ?_⟩
    rw [hb] at qo
    obtain ⟨L, rfl, hL1, hL2⟩ := tuplesB_inv hb
    have b1 := hu.lo
    have b2 := hu.hi
    have b3 := hu.few
    have b4 := hu.len
    have c1 := hv.lo
    have c2 := hv.hi
    have c3 := hv.few
    have c4 := hv.len
    have hL : LnOk u v L := ⟨hL1, hL2, pairs_400 (fun p hp => by have := hL1 p hp; omega) hL2⟩
    have c5 := hL.few
    have nC : BigC K (c 10) := hc.n 10 (by decide)
    have qE : u.n + v.n > 20 → ∀ C d H', BigC K C → Ex H H' → H' d = some (.xd [(("limit" : Str), .int 20)]) → E (.ref C) (some d) H' := fun h C d H' hC e hd => qo.big (by
      show dueIf (decide (u.n + v.n ≤ 20)) "TooLarge" _ = _
      rw [decide_eq_false (by omega)]
      rfl) hC e hd
    have qE8 : u.n + v.n ≤ 20 → u.ns.length + v.ns.length > 8 → ∀ C d H', BigC K C → Ex H H' → H' d = some (.xd [(("limit" : Str), .int 8)]) → E (.ref C) (some d) H' := fun h h8 C d H' hC e hd => qo.big (by
      show dueIf (decide (u.n + v.n ≤ 20)) "TooLarge" (dueIf (decide (u.ns.length + v.ns.length ≤ 8)) "TooLarge" none) = _
      rw [decide_eq_true h, decide_eq_false (by omega)]
      rfl) hC e hd
    have q : u.n + v.n ≤ 20 → u.ns.length + v.ns.length ≤ 8 → ∀ w T L1 L2 xs bs H', NewW K H H' w T L1 L2 xs bs → w.Ok → Jn u v L w → Q (.ref T) H' := fun h h8 w T L1 L2 xs bs H' N _ _ => qo.ok (by
      show dueIf (decide (u.n + v.n ≤ 20)) "TooLarge" (dueIf (decide (u.ns.length + v.ns.length ≤ 8)) "TooLarge" none) = _
      rw [decide_eq_true h, decide_eq_true h8]
      rfl) N.ex
    have e13 := e12.tr e3
    obtain ⟨t, x2, x3, rfl, hS, g2, g3⟩ := Wb.at (hd.up e13)
    obtain ⟨t2, y2, y3, rfl, hS2, k2, k3⟩ := Wb.at (hd2.up e13)
    obtain ⟨a2, ps, rfl, hP, hA, _⟩ := g2
    obtain ⟨b2', ps2, rfl, hP2, hA2, _⟩ := k2
    obtain ⟨a3, rs, rfl, hR, hB, _⟩ := g3
    obtain ⟨b3', rs2, rfl, hR2, hB2, _⟩ := k3
    obtain ⟨al, ls, rfl, hLl, hLA, _⟩ := hl.up e13
    have l1 := hA.len
    have l2 := hA2.len
    have l3 := hB.len
    have l4 := hB2.len
    have l5 := hLA.len
    rw [List.length_map] at l1 l2 l3 l4 l5
    refine ⟨_, rfl, t, _, rfl, hS, rfl, _, _, rfl, _, _, rfl, _, _, rfl, rfl, ?_⟩
    refine ⟨_, rfl, _, rfl, .inr (.inl ⟨t2, _, 0, _, rfl, rfl, hS2, rfl, ?_⟩)⟩
    refine ⟨_, _, rfl, rfl, _, _, rfl, rfl, _, rfl, ite2 (fun h20 => ?_) (fun h20 => ?_)⟩
    · refine ⟨_, rfl, fun d hdn => ?_⟩
      exact qE (by simpa using h20) (c 10) d _ nC (e13.tr (Ex.nw hdn)) upd_same
    have h20 : u.n + v.n ≤ 20 := by simpa using h20
    refine ⟨_, rfl, a3, _, rfl, .inl (.inl (.inl hR)), ?_⟩
    refine ⟨_, rfl, .inr (.inl ⟨t2, _, 2, _, rfl, rfl, hS2, rfl, ?_⟩)⟩
    refine ⟨b3', _, rfl, .inl (.inl (.inl hR2)), ?_⟩
    refine ⟨_, _, rfl, rfl, _, _, rfl, rfl, _, rfl, ite2 (fun h8 => ?_) (fun h8 => ?_)⟩
    · refine ⟨_, rfl, fun d hdn => ?_⟩
      exact qE8 h20 (by have := of_decide_eq_true h8; omega) (c 10) d _ nC (e13.tr (Ex.nw hdn)) upd_same
    have h8 : u.ns.length + v.ns.length ≤ 8 := by
      have : ¬ (8 : Int) < (rs.length : Int) + (rs2.length : Int) := by simpa using h8
      omega
    -- linking
    have hLs : SqL K H3 al ls := .inl (.inl hLl)
    refine ⟨_, rfl, al, rfl, ⟨_, hLs⟩, fun D hD => ?_⟩
    refine lc_by ls.length (fun i H' => Ex H3 H' ∧ ∃ ac, H' D = some (.lst ac) ∧ DaAll K H' (((L.take i).map fun q => (q.1, q.2 + u.n)).map dPair) ac)
      ⟨Ex.nw hD, [], upd_same, rfl⟩ (fun i H' hi p => itl_go hLs p.1 hi) (fun H' p => itl_stop hLs p.1) ?_ ?_
    · rintro i H4 x H5 hi ⟨e4, ac, hD4, hA4⟩ y
      obtain ⟨rfl, hx⟩ := itl_yld y hLs e4
      obtain ⟨p, hp, b, rfl, hSb⟩ := pairs_at hLA hx
      have l9 := hA4.len
      rw [List.length_map, List.length_map, List.length_take] at l9
      refine ⟨b, _, rfl, e4.t hSb, rfl, _, _, rfl, _, _, rfl, rfl, rfl, ?_⟩
      refine ⟨_, rfl, _, rfl, _, rfl, _, _, rfl, rfl, by show 2 ≤ sizeLine; decide, fun T2 hT2 => ?_⟩
      have e6 : Ex H5 (upd H5 T2 (.tup [.int p.1, .int (u.n + p.2)])) := Ex.nw hT2
      have hD6 := e6 _ _ hD4
      refine ⟨ac, hD6, mil' (by omega), (e4.tr e6).wr hD, ac ++ [.ref T2], upd_same, ?_⟩
      rw [take_snoc hp, List.map_append]
      refine pairs_wr hD6 ?_
      rw [List.map_append]
      exact (hA4.up e6).app ⟨_, _, rfl, dPair_of (p := (p.1, p.2 + u.n)) (by rw [Int.add_comm p.2 u.n]; exact upd_same), rfl⟩
    rintro H4 ⟨e4, ac, hD4, hA4⟩
    rw [← l5, List.take_length] at hA4
    -- moved pairs
    have hM : SqL K H4 b2' ps2 := .inl (.inl (e4 _ _ hP2))
    refine ⟨_, rfl, .inr (.inl ⟨t2, _, 1, _, rfl, rfl, e4.t hS2, rfl, ?_⟩)⟩
    refine ⟨b2', rfl, ⟨_, hM⟩, fun D2 hD2 => ?_⟩
    refine lc_by ps2.length (fun i H' => Ex H4 H' ∧ ∃ ac, H' D2 = some (.lst ac) ∧ DaAll K H' (((v.ps.take i).map fun q => (q.1 + u.n, q.2 + u.n)).map dPair) ac)
      ⟨Ex.nw hD2, [], upd_same, rfl⟩ (fun i H' hi p => itl_go hM p.1 hi) (fun H' p => itl_stop hM p.1) ?_ ?_
    · rintro i H5 x H6 hi ⟨e5, ac, hD5, hA5⟩ y
      obtain ⟨rfl, hx⟩ := itl_yld y hM e5
      obtain ⟨p, hp, b, rfl, hSb⟩ := pairs_at hA2 hx
      have l9 := hA5.len
      rw [List.length_map, List.length_map, List.length_take] at l9
      refine ⟨b, _, rfl, (e4.tr e5).t hSb, rfl, _, _, rfl, _, _, rfl, rfl, rfl, ?_⟩
      refine ⟨_, rfl, _, rfl, _, _, rfl, rfl, _, rfl, _, rfl, _, _, rfl, rfl, by show 2 ≤ sizeLine; decide, fun T2 hT2 => ?_⟩
      have e6 : Ex H6 (upd H6 T2 (.tup [.int (u.n + p.1), .int (u.n + p.2)])) := Ex.nw hT2
      have hD6 := e6 _ _ hD5
      refine ⟨ac, hD6, mil' (by omega), (e5.tr e6).wr hD2, ac ++ [.ref T2], upd_same, ?_⟩
      rw [take_snoc hp, List.map_append]
      refine pairs_wr hD6 ?_
      rw [List.map_append]
      exact (hA5.up e6).app ⟨_, _, rfl, dPair_of (p := (p.1 + u.n, p.2 + u.n)) (by rw [Int.add_comm p.2 u.n, Int.add_comm p.1 u.n]; exact upd_same), rfl⟩
    rintro H5 ⟨e5, ac2, hD5, hA5⟩
    rw [← l2, List.take_length] at hA5
    -- moved nudges
    have e35 := e4.tr e5
    have hN : SqL K H5 b3' rs2 := .inl (.inl (e35 _ _ hR2))
    refine ⟨_, rfl, .inr (.inl ⟨t2, _, 2, _, rfl, rfl, e35.t hS2, rfl, ?_⟩)⟩
    refine ⟨b3', rfl, ⟨_, hN⟩, fun D3 hD3 => ?_⟩
    refine lc_by rs2.length (fun i H' => ∃ bs : List Addr, NewR H5 H' ((v.ns.take i).map (upRow u.n)) D3 bs)
      ⟨[], NewR.nil hD3⟩ (fun i H' hi p => (by obtain ⟨_, h1⟩ := p; exact itl_go hN h1.ex hi)) (fun H' p => (by obtain ⟨_, h1⟩ := p; exact itl_stop hN h1.ex)) ?_ ?_
    · rintro i H6 x H7 hi ⟨bs, R⟩ y
      obtain ⟨rfl, hx⟩ := itl_yld y hN R.ex
      obtain ⟨dr, hdr, hxd⟩ := hB2.at' hx
      obtain ⟨r, hrr, rfl⟩ := map_at hdr
      obtain ⟨ar, rfl, hr0⟩ := dInts_at hxd
      have hr7 := (e35.tr R.ex).l hr0
      have rl := hv.row (List.mem_of_getElem? hrr)
      refine ⟨rfl, _, rfl, ar, rfl, ⟨_, hr7⟩, fun D4 hD4 => ?_⟩
      refine lc_ev (r.map V.int).length (fun _ => true) (fun j y _ => y = .int (r.getD j 0 + u.n)) (by rw [List.length_map]; omega) hD4 (fun _ _ _ _ _ h => h)
        (fun j H' hj e => itl_go hr7 e hj) (fun H' e => itl_stop hr7 e) ?_ ?_
      · intro j Ha x Hb hj e _ y Q' N' hQ _
        obtain ⟨rfl, hx⟩ := itl_yld y hr7 e
        obtain ⟨z, hz, rfl⟩ := map_at hx
        refine ⟨rfl, ?_⟩
        refine ⟨_, rfl, _, rfl, _, _, rfl, rfl, hQ rfl _ _ Ex.rfl ?_⟩
        rw [Int.add_comm, List.getD_eq_getElem?_getD, hz]
        rfl
      · intro ws Ha ea hw gv
        have ew : ws = (upRow u.n r).map V.int := by
          rw [gv.all, List.length_map, List.map_map]
          exact rangeD_map (fun t => V.int (t + u.n)) 0 r
        rw [ew] at hw
        have hbl := R.len
        rw [List.length_map, List.length_take] at hbl
        refine ⟨_, ea _ _ R.at_, mil' (by rw [List.length_map]; omega), bs ++ [D4], ?_⟩
        rw [take_snoc hrr, List.map_append]
        exact R.snoc ea hD4 hw
    rintro H6 ⟨bs, R⟩
    rw [← l4, List.take_length] at R
    have e36 := e35.tr R.ex
    -- the answer
    refine ⟨_, rfl, _, rfl, .inr (.inl ⟨t2, _, 0, _, rfl, rfl, e36.t hS2, rfl, ?_⟩)⟩
    refine ⟨_, _, rfl, rfl, ?_⟩
    have lA := hA4.len
    have lB := hA5.len
    rw [List.length_map, List.length_map] at lA lB
    refine ⟨_, rfl, _, rfl, a2, D, _, _, rfl, rfl, .inl (.inl (e36 _ _ hP)), .inl (.inl ((e5.tr R.ex) _ _ hD4)), by omega, fun p1 hp1 => ?_⟩
    have e7 : Ex H6 (upd H6 p1 (.lst (ps ++ ac))) := Ex.nw hp1
    have f7 : (upd H6 p1 (.lst (ps ++ ac))) p1 = some (.lst (ps ++ ac)) := upd_same
    generalize upd H6 p1 (.lst (ps ++ ac)) = H7 at e7 f7
    refine ⟨_, rfl, p1, D2, _, _, rfl, rfl, .inl (.inl f7), .inl (.inl ((R.ex.tr e7) _ _ hD5)), by rw [List.length_append]; omega, fun p2 hp2 => ?_⟩
    have e8 : Ex H7 (upd H7 p2 (.lst (ps ++ ac ++ ac2))) := Ex.nw hp2
    have f8 : (upd H7 p2 (.lst (ps ++ ac ++ ac2))) p2 = some (.lst (ps ++ ac ++ ac2)) := upd_same
    generalize upd H7 p2 (.lst (ps ++ ac ++ ac2)) = H8 at e8 f8
    have e68 := e7.tr e8
    have hAll : DaAll K H8 ((u.ps ++ (L.map fun q => (q.1, q.2 + u.n)) ++ (v.ps.map fun q => (q.1 + u.n, q.2 + u.n))).map dPair) (ps ++ ac ++ ac2) := by
      rw [List.map_append, List.map_append]
      exact ((hA.up (e36.tr e68)).app (hA4.up ((e5.tr R.ex).tr e68))).app (hA5.up (R.ex.tr e68))
    have hnd := jn_nodup (A := L.map fun q => (q.1, q.2 + u.n)) (B := v.ps.map fun q => (q.1 + u.n, q.2 + u.n)) hu hv hL (fun p => by
      rw [List.mem_map]
      exact ⟨fun ⟨q, h1, h2⟩ => ⟨q, h1, h2.symm⟩, fun ⟨q, h1, h2⟩ => ⟨q, h1, h2.symm⟩⟩) (fun p => by
      rw [List.mem_map]
      exact ⟨fun ⟨q, h1, h2⟩ => ⟨q, h1, h2.symm⟩, fun ⟨q, h1, h2⟩ => ⟨q, h1, h2.symm⟩⟩) (nodup_link hL.asc) (nodup_move hv.asc)
    obtain ⟨g1, g2⟩ := keys_of hAll
    refine ⟨p2, _, keyOf H8, rfl, .inl (.inl f8), g1, fun zs p3 s1 s2 hp3 => ?_⟩
    obtain ⟨M, m1, m2, m3, m4⟩ := sortedP hAll hnd s1 s2
    have e9 : Ex H8 (upd H8 p3 (.lst zs)) := Ex.nw hp3
    have f9 : (upd H8 p3 (.lst zs)) p3 = some (.lst zs) := upd_same
    generalize upd H8 p3 (.lst zs) = H9 at e9 f9
    have e69 := e68.tr e9
    have e39 := e36.tr e69
    have hdn : Da K H9 (dRows u.ns) (.ref a3) := (show Da K H3 (dRows u.ns) (.ref a3) from ⟨a3, rs, rfl, hR, hB, by rw [List.length_map]; omega⟩).up e39
    refine ⟨_, rfl, _, u.ns, rfl, hdn, fun L9 bs9 H10 R9 => ?_⟩
    have e610 := e69.tr R9.ex
    refine ⟨_, rfl, L9, D3, _, _, rfl, rfl, .inl (.inl R9.at_), .inl (.inl (e610 _ _ R.at_)), by rw [List.length_map, List.length_map, R9.len, R.len, List.length_map]; omega, fun p4 hp4 => ?_⟩
    have e11 : Ex H10 (upd H10 p4 (.lst (bs9.map V.ref ++ bs.map V.ref))) := Ex.nw hp4
    have f11 : (upd H10 p4 (.lst (bs9.map V.ref ++ bs.map V.ref))) p4 = some (.lst ((bs9 ++ bs).map V.ref)) := by
      rw [upd_same, List.map_append]
    generalize upd H10 p4 (.lst (bs9.map V.ref ++ bs.map V.ref)) = H11 at e11 f11
    refine ⟨by show 3 ≤ sizeLine; decide, fun Tt hTt => ?_⟩
    have e12' : Ex H11 (upd H11 Tt (.tup [.int (u.n + v.n), .ref p3, .ref p4])) := Ex.nw hTt
    have f12 : (upd H11 Tt (.tup [.int (u.n + v.n), .ref p3, .ref p4])) Tt = some (.tup [.int (u.n + v.n), .ref p3, .ref p4]) := upd_same
    generalize upd H11 Tt (.tup [.int (u.n + v.n), .ref p3, .ref p4]) = H12 at e12' f12
    have jn : Jn u v L ⟨u.n + v.n, M, u.ns ++ v.ns.map (upRow u.n)⟩ := jn_of m3 fun p => by
      rw [List.mem_append, List.mem_append, or_assoc]
    have e1112 := e11.tr e12'
    have e03 : Ex H H5 := e13.tr e35
    refine q h20 h8 _ Tt p3 p4 zs (bs9 ++ bs) H12 ⟨(e13.tr e39).tr (R9.ex.tr e1112), f12, (e13.tr (e36.tr e68)).fr hp3, (R9.ex.tr e1112) _ _ f9, m1.up (e9.tr (R9.ex.tr e1112)), (e13.tr (e39.tr R9.ex)).fr hp4, e12' _ _ f11, ?_, ?_, ?_, ?_⟩ (jn.ok hu hv hL h20 h8 m2) jn
    · rw [List.length_append, List.length_append, R9.len, R.len]
    · intro k b hb
      by_cases hk : k < bs9.length
      · rw [List.getElem?_append_left hk] at hb
        obtain ⟨n, r, h1, h2⟩ := R9.row k b hb
        refine ⟨⟨(e13.tr e39).fr n.1, fun e => ?_, fun e => ?_⟩, r, ?_, e1112 _ _ h2⟩
        · have h3 := h2
          rw [e, hp4] at h3
          cases h3
        · rw [← e, n.1] at f9
          cases f9
        · show (u.ns ++ _)[k]? = _
          rw [List.getElem?_append_left (by rw [← R9.len]; exact hk)]
          exact h1
      · rw [List.getElem?_append_right (by omega)] at hb
        obtain ⟨n, r, h1, h2⟩ := R.row _ b hb
        refine ⟨⟨e03.fr n.1, fun e => ?_, fun e => ?_⟩, r, ?_, (e610.tr e1112) _ _ h2⟩
        · have h3 := e610 _ _ h2
          rw [e, hp4] at h3
          cases h3
        · have h3 := e68 _ _ h2
          rw [e, hp3] at h3
          cases h3
        · show (u.ns ++ _)[k]? = _
          rw [List.getElem?_append_right (by rw [← R9.len]; omega), ← R9.len]
          exact h1
    · rw [List.nodup_append]
      refine ⟨R9.nd, R.nd, fun a ha b hb e => ?_⟩
      subst e
      obtain ⟨k, hk⟩ := List.mem_iff_getElem?.mp ha
      obtain ⟨j, hj⟩ := List.mem_iff_getElem?.mp hb
      obtain ⟨n, _⟩ := R9.row k a hk
      obtain ⟨_, r, _, h2⟩ := R.row j a hj
      have h3 := e69 _ _ h2
      rw [n.1] at h3
      cases h3
    · intro e
      have h3 := R9.ex _ _ f9
      rw [e, hp4] at h3
      cases h3
end

end K46
namespace K46
open PySem PySem.Spec PyProof.Rows L2 Nw
/-! _law_kind: slots 0 _law_e, 1 _law_kinds -/
abbrev s_kind : Stmt := topS 53
abbrev N_kind : List Str := ["_law_e", "_law_kinds"]
abbrev P_kind : List Str := ["_law_e"]
theorem sc_kind : FnScope N_kind P_kind (defScope s_kind) := ⟨rfl, rfl, rfl, by decide +kernel, rfl, by decide +kernel, by decide +kernel⟩
def kindsB (i : Nat) : List Bool := [decide (i = 1 ∨ 1 = 0), decide (i = 2 ∨ 2 = 0), decide (i = 3 ∨ 3 = 0), decide (i = 4 ∨ 4 = 0), decide (i = 5 ∨ 5 = 0), decide (i = 6 ∨ 6 = 0), decide (i = 7 ∨ 7 = 0), decide (i = 9 ∨ 9 = 0), decide (i = 8 ∨ 8 = 0), decide (i = 10 ∨ 10 = 0)]
/-- the kind's number, by the class's place -/
def kno : Nat → Int
  | 1 => 0
  | 2 => 1
  | 3 => 2
  | 4 => 3
  | 5 => 4
  | 6 => 5
  | 7 => 6
  | 9 => 7
  | 8 => 8
  | 10 => 9
  | _ => 0
def sp_kind (K : PySem.W.Frag) : Sp := fun vs H Q _ => ∃ (a D : Addr) (i : Nat), vs = [.ref a] ∧ (1 ≤ i ∧ i ≤ 10) ∧ ErrOf K (errNm i) D ∧ ErrAt H a D ∧ ∀ H', Ex H H' → Q (.int (kno i)) H'
section
variable {P : Program} {w : World} {K : PySem.W.Frag} {mg : Str → Option Value} {base : Heap}
theorem ok_kind {f : Addr} {fd : FuncData} (T : Txt K mg) (F : Fun K "_law_kind" "_law_kind" s_kind f fd) :
    FnG P w K mg base CX0 1 f fd P_kind (sp_kind K) := by
  refine okG0 F sc_kind (fun vs H Q E h => ?_) (fun cdv A outer s H vs Q E hr hq h => ?_)
  · obtain ⟨a, D, i, rfl, _⟩ := h
    rfl
  · obtain ⟨a, D, i, rfl, hi0, hD, ha, q⟩ := h
    obtain ⟨c, fB, fP, hc⟩ := T.fam
    have hi : i < 11 := by omega
    obtain rfl : D = c i := err_uniq hD (hc.n i hi)
    refine ⟨_, (pss_cons (ps_set (i := 1) sc_kind.nd rfl (by first | exact .inl rfl | exact .inr rfl) (pe_lst (pa_cons (pe_callB (call_isV K) (by rfl) T.b_isinstance bt_isinstance (pa_cons (pv 0) (pa_cons (pe_glob (v := .ref (c 1)) rfl hc.g_InvalidWeb rfl) pa_nil))) (pa_cons (pe_callB (call_isV K) (by rfl) T.b_isinstance bt_isinstance (pa_cons (pv 0) (pa_cons (pe_glob (v := .ref (c 2)) rfl hc.g_InvalidSource rfl) pa_nil))) (pa_cons (pe_callB (call_isV K) (by rfl) T.b_isinstance bt_isinstance (pa_cons (pv 0) (pa_cons (pe_glob (v := .ref (c 3)) rfl hc.g_InvalidQuantity rfl) pa_nil))) pa_nil)))))
      (pss_cons (ps_set (i := 1) sc_kind.nd rfl (by first | exact .inl rfl | exact .inr rfl) (pe_op (op_catS K) (pv 1) (pe_lst (pa_cons (pe_callB (call_isV K) (by rfl) T.b_isinstance bt_isinstance (pa_cons (pv 0) (pa_cons (pe_glob (v := .ref (c 4)) rfl hc.g_InvalidTargets rfl) pa_nil))) (pa_cons (pe_callB (call_isV K) (by rfl) T.b_isinstance bt_isinstance (pa_cons (pv 0) (pa_cons (pe_glob (v := .ref (c 5)) rfl hc.g_InvalidNudge rfl) pa_nil))) (pa_cons (pe_callB (call_isV K) (by rfl) T.b_isinstance bt_isinstance (pa_cons (pv 0) (pa_cons (pe_glob (v := .ref (c 6)) rfl hc.g_InvalidOrder rfl) pa_nil))) pa_nil))))))
      (pss_cons (ps_set (i := 1) sc_kind.nd rfl (by first | exact .inl rfl | exact .inr rfl) (pe_op (op_catS K) (pv 1) (pe_lst (pa_cons (pe_callB (call_isV K) (by rfl) T.b_isinstance bt_isinstance (pa_cons (pv 0) (pa_cons (pe_glob (v := .ref (c 7)) rfl hc.g_InvalidLinks rfl) pa_nil))) (pa_cons (pe_callB (call_isV K) (by rfl) T.b_isinstance bt_isinstance (pa_cons (pv 0) (pa_cons (pe_glob (v := .ref (c 9)) rfl hc.g_LineThere rfl) pa_nil))) (pa_cons (pe_callB (call_isV K) (by rfl) T.b_isinstance bt_isinstance (pa_cons (pv 0) (pa_cons (pe_glob (v := .ref (c 8)) rfl hc.g_NoLine rfl) pa_nil))) pa_nil))))))
      (pss_cons (ps_expr (pe_bm PySem.F.plainAttrs_list PySem.F.slot_list_append PySem.F.type_list_append mt_append (pv 1) (pa_cons (pe_callB (call_isV K) (by rfl) T.b_isinstance bt_isinstance (pa_cons (pv 0) (pa_cons (pe_glob (v := .ref (c 10)) rfl hc.g_TooLarge rfl) pa_nil))) pa_nil)))
      (pss_one (ps_ret (pe_ifExp (PW.pt (pw_and (pt_cmpR op_eq (pe_bm PySem.F.plainAttrs_list PySem.F.slot_list_count PySem.F.type_list_count (mt_countB K) (pv 1) (pa_cons pe_bl pa_nil)) pe_int (nomark _)) (pw_and1 (pt_val (pe_callB (call_isV K) (by rfl) T.b_isinstance bt_isinstance (pa_cons (pv 0) (pa_cons (pe_bty T.b_ValueError bt_ValueError) pa_nil))))))) (pe_bm PySem.F.plainAttrs_list PySem.F.slot_list_index PySem.F.type_list_index (mt_indexK K) (pv 1) (pa_cons pe_bl pa_nil)) pe_str))))))), ?_⟩
    refine ⟨_, rfl, a, c i, .ref (c 1), .ref (c 1), _, rfl, ha, hc.e i hi, fun u hu => hu, hc.s i 1 hi (by decide), ?_⟩
    refine ⟨_, rfl, a, c i, .ref (c 2), .ref (c 2), _, rfl, ha, hc.e i hi, fun u hu => hu, hc.s i 2 hi (by decide), ?_⟩
    refine ⟨_, rfl, a, c i, .ref (c 3), .ref (c 3), _, rfl, ha, hc.e i hi, fun u hu => hu, hc.s i 3 hi (by decide), ?_⟩
    refine ⟨by show 3 ≤ sizeLine; decide, fun o1 n1 => ?_⟩
    have E1 : Ex H (upd H o1 (.lst [.bl (decide (i = 1 ∨ 1 = 0)), .bl (decide (i = 2 ∨ 2 = 0)), .bl (decide (i = 3 ∨ 3 = 0))])) := Ex.nw n1
    have F1 : (upd H o1 (.lst [.bl (decide (i = 1 ∨ 1 = 0)), .bl (decide (i = 2 ∨ 2 = 0)), .bl (decide (i = 3 ∨ 3 = 0))])) o1 = some (.lst [.bl (decide (i = 1 ∨ 1 = 0)), .bl (decide (i = 2 ∨ 2 = 0)), .bl (decide (i = 3 ∨ 3 = 0))]) := upd_same
    have A1 := ha.up E1
    generalize upd H o1 (.lst [.bl (decide (i = 1 ∨ 1 = 0)), .bl (decide (i = 2 ∨ 2 = 0)), .bl (decide (i = 3 ∨ 3 = 0))]) = G1 at E1 F1 A1
    refine ⟨_, rfl, ?_⟩
    refine ⟨_, rfl, a, c i, .ref (c 4), .ref (c 4), _, rfl, A1, hc.e i hi, fun u hu => hu, hc.s i 4 hi (by decide), ?_⟩
    refine ⟨_, rfl, a, c i, .ref (c 5), .ref (c 5), _, rfl, A1, hc.e i hi, fun u hu => hu, hc.s i 5 hi (by decide), ?_⟩
    refine ⟨_, rfl, a, c i, .ref (c 6), .ref (c 6), _, rfl, A1, hc.e i hi, fun u hu => hu, hc.s i 6 hi (by decide), ?_⟩
    refine ⟨by show 3 ≤ sizeLine; decide, fun o2 n2 => ?_⟩
    have E2 : Ex G1 (upd G1 o2 (.lst [.bl (decide (i = 4 ∨ 4 = 0)), .bl (decide (i = 5 ∨ 5 = 0)), .bl (decide (i = 6 ∨ 6 = 0))])) := Ex.nw n2
    have F2 : (upd G1 o2 (.lst [.bl (decide (i = 4 ∨ 4 = 0)), .bl (decide (i = 5 ∨ 5 = 0)), .bl (decide (i = 6 ∨ 6 = 0))])) o2 = some (.lst [.bl (decide (i = 4 ∨ 4 = 0)), .bl (decide (i = 5 ∨ 5 = 0)), .bl (decide (i = 6 ∨ 6 = 0))]) := upd_same
    have A2 := A1.up E2
    generalize upd G1 o2 (.lst [.bl (decide (i = 4 ∨ 4 = 0)), .bl (decide (i = 5 ∨ 5 = 0)), .bl (decide (i = 6 ∨ 6 = 0))]) = G2 at E2 F2 A2
    refine ⟨o1, o2, _, _, rfl, rfl, .inl (.inl (E2 _ _ F1)), .inl (.inl F2), by show 3 + 3 ≤ 1000000; decide, fun o3 n3 => ?_⟩
    rw [show ([.bl (decide (i = 1 ∨ 1 = 0)), .bl (decide (i = 2 ∨ 2 = 0)), .bl (decide (i = 3 ∨ 3 = 0))] ++ [.bl (decide (i = 4 ∨ 4 = 0)), .bl (decide (i = 5 ∨ 5 = 0)), .bl (decide (i = 6 ∨ 6 = 0))] : List V) = [.bl (decide (i = 1 ∨ 1 = 0)), .bl (decide (i = 2 ∨ 2 = 0)), .bl (decide (i = 3 ∨ 3 = 0)), .bl (decide (i = 4 ∨ 4 = 0)), .bl (decide (i = 5 ∨ 5 = 0)), .bl (decide (i = 6 ∨ 6 = 0))] from rfl]
    have E3 : Ex G2 (upd G2 o3 (.lst [.bl (decide (i = 1 ∨ 1 = 0)), .bl (decide (i = 2 ∨ 2 = 0)), .bl (decide (i = 3 ∨ 3 = 0)), .bl (decide (i = 4 ∨ 4 = 0)), .bl (decide (i = 5 ∨ 5 = 0)), .bl (decide (i = 6 ∨ 6 = 0))])) := Ex.nw n3
    have F3 : (upd G2 o3 (.lst [.bl (decide (i = 1 ∨ 1 = 0)), .bl (decide (i = 2 ∨ 2 = 0)), .bl (decide (i = 3 ∨ 3 = 0)), .bl (decide (i = 4 ∨ 4 = 0)), .bl (decide (i = 5 ∨ 5 = 0)), .bl (decide (i = 6 ∨ 6 = 0))])) o3 = some (.lst [.bl (decide (i = 1 ∨ 1 = 0)), .bl (decide (i = 2 ∨ 2 = 0)), .bl (decide (i = 3 ∨ 3 = 0)), .bl (decide (i = 4 ∨ 4 = 0)), .bl (decide (i = 5 ∨ 5 = 0)), .bl (decide (i = 6 ∨ 6 = 0))]) := upd_same
    have A3 := A2.up E3
    generalize upd G2 o3 (.lst [.bl (decide (i = 1 ∨ 1 = 0)), .bl (decide (i = 2 ∨ 2 = 0)), .bl (decide (i = 3 ∨ 3 = 0)), .bl (decide (i = 4 ∨ 4 = 0)), .bl (decide (i = 5 ∨ 5 = 0)), .bl (decide (i = 6 ∨ 6 = 0))]) = G3 at E3 F3 A3
    refine ⟨_, rfl, ?_⟩
    refine ⟨_, rfl, a, c i, .ref (c 7), .ref (c 7), _, rfl, A3, hc.e i hi, fun u hu => hu, hc.s i 7 hi (by decide), ?_⟩
    refine ⟨_, rfl, a, c i, .ref (c 9), .ref (c 9), _, rfl, A3, hc.e i hi, fun u hu => hu, hc.s i 9 hi (by decide), ?_⟩
    refine ⟨_, rfl, a, c i, .ref (c 8), .ref (c 8), _, rfl, A3, hc.e i hi, fun u hu => hu, hc.s i 8 hi (by decide), ?_⟩
    refine ⟨by show 3 ≤ sizeLine; decide, fun o4 n4 => ?_⟩
    have E4 : Ex G3 (upd G3 o4 (.lst [.bl (decide (i = 7 ∨ 7 = 0)), .bl (decide (i = 9 ∨ 9 = 0)), .bl (decide (i = 8 ∨ 8 = 0))])) := Ex.nw n4
    have F4 : (upd G3 o4 (.lst [.bl (decide (i = 7 ∨ 7 = 0)), .bl (decide (i = 9 ∨ 9 = 0)), .bl (decide (i = 8 ∨ 8 = 0))])) o4 = some (.lst [.bl (decide (i = 7 ∨ 7 = 0)), .bl (decide (i = 9 ∨ 9 = 0)), .bl (decide (i = 8 ∨ 8 = 0))]) := upd_same
    have A4 := A3.up E4
    generalize upd G3 o4 (.lst [.bl (decide (i = 7 ∨ 7 = 0)), .bl (decide (i = 9 ∨ 9 = 0)), .bl (decide (i = 8 ∨ 8 = 0))]) = G4 at E4 F4 A4
    refine ⟨o3, o4, _, _, rfl, rfl, .inl (.inl (E4 _ _ F3)), .inl (.inl F4), by show 6 + 3 ≤ 1000000; decide, fun o5 n5 => ?_⟩
    rw [show ([.bl (decide (i = 1 ∨ 1 = 0)), .bl (decide (i = 2 ∨ 2 = 0)), .bl (decide (i = 3 ∨ 3 = 0)), .bl (decide (i = 4 ∨ 4 = 0)), .bl (decide (i = 5 ∨ 5 = 0)), .bl (decide (i = 6 ∨ 6 = 0))] ++ [.bl (decide (i = 7 ∨ 7 = 0)), .bl (decide (i = 9 ∨ 9 = 0)), .bl (decide (i = 8 ∨ 8 = 0))] : List V) = [.bl (decide (i = 1 ∨ 1 = 0)), .bl (decide (i = 2 ∨ 2 = 0)), .bl (decide (i = 3 ∨ 3 = 0)), .bl (decide (i = 4 ∨ 4 = 0)), .bl (decide (i = 5 ∨ 5 = 0)), .bl (decide (i = 6 ∨ 6 = 0)), .bl (decide (i = 7 ∨ 7 = 0)), .bl (decide (i = 9 ∨ 9 = 0)), .bl (decide (i = 8 ∨ 8 = 0))] from rfl]
    have E5 : Ex G4 (upd G4 o5 (.lst [.bl (decide (i = 1 ∨ 1 = 0)), .bl (decide (i = 2 ∨ 2 = 0)), .bl (decide (i = 3 ∨ 3 = 0)), .bl (decide (i = 4 ∨ 4 = 0)), .bl (decide (i = 5 ∨ 5 = 0)), .bl (decide (i = 6 ∨ 6 = 0)), .bl (decide (i = 7 ∨ 7 = 0)), .bl (decide (i = 9 ∨ 9 = 0)), .bl (decide (i = 8 ∨ 8 = 0))])) := Ex.nw n5
    have F5 : (upd G4 o5 (.lst [.bl (decide (i = 1 ∨ 1 = 0)), .bl (decide (i = 2 ∨ 2 = 0)), .bl (decide (i = 3 ∨ 3 = 0)), .bl (decide (i = 4 ∨ 4 = 0)), .bl (decide (i = 5 ∨ 5 = 0)), .bl (decide (i = 6 ∨ 6 = 0)), .bl (decide (i = 7 ∨ 7 = 0)), .bl (decide (i = 9 ∨ 9 = 0)), .bl (decide (i = 8 ∨ 8 = 0))])) o5 = some (.lst [.bl (decide (i = 1 ∨ 1 = 0)), .bl (decide (i = 2 ∨ 2 = 0)), .bl (decide (i = 3 ∨ 3 = 0)), .bl (decide (i = 4 ∨ 4 = 0)), .bl (decide (i = 5 ∨ 5 = 0)), .bl (decide (i = 6 ∨ 6 = 0)), .bl (decide (i = 7 ∨ 7 = 0)), .bl (decide (i = 9 ∨ 9 = 0)), .bl (decide (i = 8 ∨ 8 = 0))]) := upd_same
    have A5 := A4.up E5
    generalize upd G4 o5 (.lst [.bl (decide (i = 1 ∨ 1 = 0)), .bl (decide (i = 2 ∨ 2 = 0)), .bl (decide (i = 3 ∨ 3 = 0)), .bl (decide (i = 4 ∨ 4 = 0)), .bl (decide (i = 5 ∨ 5 = 0)), .bl (decide (i = 6 ∨ 6 = 0)), .bl (decide (i = 7 ∨ 7 = 0)), .bl (decide (i = 9 ∨ 9 = 0)), .bl (decide (i = 8 ∨ 8 = 0))]) = G5 at E5 F5 A5
    refine ⟨_, rfl, .inl ⟨rfl, _, .inl (.inl F5)⟩, ?_⟩
    refine ⟨_, rfl, a, c i, .ref (c 10), .ref (c 10), _, rfl, A5, hc.e i hi, fun u hu => hu, hc.s i 10 hi (by decide), ?_⟩
    refine ⟨o5, _, _, rfl, rfl, F5, by show 9 < sizeLine; decide, ?_⟩
    rw [show ([.bl (decide (i = 1 ∨ 1 = 0)), .bl (decide (i = 2 ∨ 2 = 0)), .bl (decide (i = 3 ∨ 3 = 0)), .bl (decide (i = 4 ∨ 4 = 0)), .bl (decide (i = 5 ∨ 5 = 0)), .bl (decide (i = 6 ∨ 6 = 0)), .bl (decide (i = 7 ∨ 7 = 0)), .bl (decide (i = 9 ∨ 9 = 0)), .bl (decide (i = 8 ∨ 8 = 0))] ++ [.bl (decide (i = 10 ∨ 10 = 0))] : List V) = (kindsB i).map V.bl from rfl]
    have e0 : Ex H G5 := (E1.tr (E2.tr (E3.tr (E4.tr E5))))
    have hno : H o5 = none := by
      cases e : H o5 with
      | none => rfl
      | some z =>
        have q1 := ((E1.tr (E2.tr (E3.tr E4)))) _ _ e
        rw [n5] at q1
        cases q1
    have e1 : Ex H (upd G5 o5 (.lst ((kindsB i).map V.bl))) := fun b z h => by
      rw [upd_ne (fun e => by rw [e, hno] at h; cases h)]
      exact e0 b z h
    have hf : (upd G5 o5 (.lst ((kindsB i).map V.bl))) o5 = some (.lst ((kindsB i).map V.bl)) := upd_same
    generalize upd G5 o5 (.lst ((kindsB i).map V.bl)) = G at e1 hf
    have hcn : Spec.countIn (.bool true) ((kindsB i).map PyData.bool) = 1 := by
      rcases (show i = 1 ∨ i = 2 ∨ i = 3 ∨ i = 4 ∨ i = 5 ∨ i = 6 ∨ i = 7 ∨ i = 8 ∨ i = 9 ∨ i = 10 by omega) with rfl | rfl | rfl | rfl | rfl | rfl | rfl | rfl | rfl | rfl <;> rfl
    obtain ⟨j, hj1, hj2, hj3⟩ : ∃ j : Nat, (j : Int) = kno i ∧ (kindsB i)[j]? = some true ∧ ∀ m, m < j → (kindsB i)[m]? = some false := by
      rcases (show i = 1 ∨ i = 2 ∨ i = 3 ∨ i = 4 ∨ i = 5 ∨ i = 6 ∨ i = 7 ∨ i = 8 ∨ i = 9 ∨ i = 10 by omega) with rfl | rfl | rfl | rfl | rfl | rfl | rfl | rfl | rfl | rfl
      · exact ⟨0, rfl, rfl, by decide⟩
      · exact ⟨1, rfl, rfl, by decide⟩
      · exact ⟨2, rfl, rfl, by decide⟩
      · exact ⟨3, rfl, rfl, by decide⟩
      · exact ⟨4, rfl, rfl, by decide⟩
      · exact ⟨5, rfl, rfl, by decide⟩
      · exact ⟨6, rfl, rfl, by decide⟩
      · exact ⟨8, rfl, rfl, by decide⟩
      · exact ⟨7, rfl, rfl, by decide⟩
      · exact ⟨9, rfl, rfl, by decide⟩
    refine ⟨_, rfl, .inl ⟨rfl, _, .inl (.inl hf)⟩, o5, kindsB i, true, rfl, rfl, .inl (.inl hf), ?_⟩
    rw [hcn]
    refine ⟨rfl, true, rfl, ite2 (fun _ => ?_) (fun h => absurd rfl h)⟩
    refine ⟨_, rfl, a, c i, .ty "ValueError", .type "ValueError", _, rfl, ha.up e1, hc.e i hi, fun u hu => hu, hc.v i hi, true, rfl, ite2 (fun _ => ?_) (fun h => absurd rfl h)⟩
    refine ⟨_, rfl, .inl ⟨rfl, _, .inl (.inl hf)⟩, o5, _, .bl true, j, .bl true, rfl, rfl, .inl (.inl hf), rfl, ?_, by rw [List.getElem?_map, hj2]; rfl, rfl, idx_bools hj3, ?_⟩
    · rw [List.all_map, List.all_eq_true]
      intro b _
      rfl
    · rw [hj1]
      exact q _ e1
end

/-! _law_call: slots 0 _law_way, 1 _law_things, 2 _law_web_here, 3 _law_one, 4 _law_other -/
abbrev s_call : Stmt := topS 54
abbrev N_call : List Str := ["_law_way", "_law_things", "_law_web_here", "_law_one", "_law_other"]
abbrev P_call : List Str := ["_law_way", "_law_things"]
theorem sc_call : FnScope N_call P_call (defScope s_call) := ⟨rfl, rfl, rfl, by decide +kernel, rfl, by decide +kernel, by decide +kernel⟩
def sp_call (K : PySem.W.Frag) : Sp := fun vs H Q E => ∃ (way : Nat) (l : Addr) (a b e : V) (d dx dy : PyData), vs = [.int way, .ref l] ∧ way < 10 ∧ H l = some (.lst [a, b, e]) ∧ Da K H d a ∧ Da K H dx b ∧ Da K H dy e ∧ Out K H Q E (dueCall way d dx dy)
theorem dropQ {K : PySem.W.Frag} {H : Hp} {Q : VK} {E : XK} {o : Option Str} (h : Out K H Q E o) : Out K H (fun _ H' => Q .non H') E o := by
  cases o with
  | none => exact fun v H' e => h _ H' e
  | some x => exact h
section
variable {P : Program} {w : World} {K : PySem.W.Frag} {mg : Str → Option Value} {base : Heap}
theorem ok_call {f : Addr} {fd : FuncData} (T : Txt K mg) (F : Fun K "_law_call" "_law_call" s_call f fd)
    (D_targets_of : DefOk P w K mg base (L2.CX P w) 8 "targets_of" P_targets_of (sp_targets_of K))
    (D_sources_of : DefOk P w K mg base (L2.CX P w) 8 "sources_of" P_sources_of (sp_sources_of K))
    (D_lines_of : DefOk P w K mg base (L2.CX P w) 8 "lines_of" P_lines_of (sp_lines_of K))
    (D_with_pair : DefOk P w K mg base (L2.CX P w) 8 "with_pair" P_with_pair (sp_with_pair K))
    (D_without_pair : DefOk P w K mg base (L2.CX P w) 8 "without_pair" P_without_pair (sp_without_pair K))
    (D_with_nudge : DefOk P w K mg base (L2.CX P w) 8 "with_nudge" P_with_nudge (sp_with_nudge K))
    (D_without_nudge : DefOk P w K mg base (L2.CX P w) 8 "without_nudge" P_without_nudge (sp_without_nudge K))
    (D_turned : DefOk P w K mg base (L2.CX P w) 8 "turned" P_turned (sp_turned K))
    (D_renumbered : DefOk P w K mg base (L2.CX P w) 8 "renumbered" P_renumbered (sp_renumbered K))
    (D_joined : DefOk P w K mg base (L2.CX P w) 8 "joined" P_joined (sp_joined K)) :
    FnG P w K mg base (L2.CX P w) 9 f fd P_call (sp_call K) := by
  refine okG F sc_call (fun vs H Q E h => ?_) (fun cdv A outer s H vs Q E hr hq h => ?_)
  · obtain ⟨way, l, a, b, e, d, dx, dy, rfl, _⟩ := h
    rfl
  · obtain ⟨way, l, a, b, e, d, dx, dy, rfl, hway, hS, hd, hx, hy, q⟩ := h
    refine ⟨_, (pss_cons (ps_asg (pv 1) (pg_lstK (n := 3) K rfl (pgs_cons (pg_name (i := 2) sc_call.nd rfl (by first | exact .inl rfl | exact .inr rfl)) (pgs_cons (pg_name (i := 3) sc_call.nd rfl (by first | exact .inl rfl | exact .inr rfl)) (pgs_cons (pg_name (i := 4) sc_call.nd rfl (by first | exact .inl rfl | exact .inr rfl)) pgs_nil)))))
      (pss_one (ps_if (pt_cmpR op_eq (pv 0) pe_int (nomark _)) (pss_one (ps_expr (pe_callD D_targets_of (hr.mono (by decide)) hq (passE (takes_of rfl rfl rfl rfl)) (pa_cons (pv 2) (pa_cons (pv 3) pa_nil))))) (pss_one (ps_if (pt_cmpR op_eq (pv 0) pe_int (nomark _)) (pss_one (ps_expr (pe_callD D_sources_of (hr.mono (by decide)) hq (passE (takes_of rfl rfl rfl rfl)) (pa_cons (pv 2) (pa_cons (pv 3) pa_nil))))) (pss_one (ps_if (pt_cmpR op_eq (pv 0) pe_int (nomark _)) (pss_one (ps_expr (pe_callD D_with_pair (hr.mono (by decide)) hq (passE (takes_of rfl rfl rfl rfl)) (pa_cons (pv 2) (pa_cons (pv 3) (pa_cons (pv 4) pa_nil)))))) (pss_one (ps_if (pt_cmpR op_eq (pv 0) pe_int (nomark _)) (pss_one (ps_expr (pe_callD D_without_pair (hr.mono (by decide)) hq (passE (takes_of rfl rfl rfl rfl)) (pa_cons (pv 2) (pa_cons (pv 3) (pa_cons (pv 4) pa_nil)))))) (pss_one (ps_if (pt_cmpR op_eq (pv 0) pe_int (nomark _)) (pss_one (ps_expr (pe_callD D_with_nudge (hr.mono (by decide)) hq (passE (takes_of rfl rfl rfl rfl)) (pa_cons (pv 2) (pa_cons (pv 3) pa_nil))))) (pss_one (ps_if (pt_cmpR op_eq (pv 0) pe_int (nomark _)) (pss_one (ps_expr (pe_callD D_without_nudge (hr.mono (by decide)) hq (passE (takes_of rfl rfl rfl rfl)) (pa_cons (pv 2) (pa_cons (pv 3) pa_nil))))) (pss_one (ps_if (pt_cmpR op_eq (pv 0) pe_int (nomark _)) (pss_one (ps_expr (pe_callD D_renumbered (hr.mono (by decide)) hq (passE (takes_of rfl rfl rfl rfl)) (pa_cons (pv 2) (pa_cons (pv 3) pa_nil))))) (pss_one (ps_if (pt_cmpR op_eq (pv 0) pe_int (nomark _)) (pss_one (ps_expr (pe_callD D_joined (hr.mono (by decide)) hq (passE (takes_of rfl rfl rfl rfl)) (pa_cons (pv 2) (pa_cons (pv 3) (pa_cons (pv 4) pa_nil)))))) (pss_one (ps_if (pt_cmpR op_eq (pv 0) pe_int (nomark _)) (pss_one (ps_expr (pe_callD D_lines_of (hr.mono (by decide)) hq (passE (takes_of rfl rfl rfl rfl)) (pa_cons (pv 2) pa_nil)))) (pss_one (ps_expr (pe_callD D_turned (hr.mono (by decide)) hq (passE (takes_of rfl rfl rfl rfl)) (pa_cons (pv 2) pa_nil))))))))))))))))))))))), ?_⟩
    refine ⟨_, rfl, l, _, rfl, .inl (.inl hS), rfl, _, _, rfl, _, _, rfl, _, _, rfl, rfl, ?_⟩
    refine ⟨_, rfl, rfl, _, rfl, ite2 (fun h => ?_) (fun h => ?_)⟩
    · obtain rfl : way = 0 := by
        have := V.int.inj (of_decide_eq_true h)
        omega
      exact ⟨_, rfl, _, rfl, a, b, d, dx, rfl, hd, hx, dropQ q⟩
    have w0 : way ≠ 0 := fun z => by
      subst z
      exact h (decide_eq_true rfl)
    refine ⟨_, rfl, rfl, _, rfl, ite2 (fun h => ?_) (fun h => ?_)⟩
    · obtain rfl : way = 1 := by
        have := V.int.inj (of_decide_eq_true h)
        omega
      exact ⟨_, rfl, _, rfl, a, b, d, dx, rfl, hd, hx, dropQ q⟩
    have w1 : way ≠ 1 := fun z => by
      subst z
      exact h (decide_eq_true rfl)
    refine ⟨_, rfl, rfl, _, rfl, ite2 (fun h => ?_) (fun h => ?_)⟩
    · obtain rfl : way = 2 := by
        have := V.int.inj (of_decide_eq_true h)
        omega
      exact ⟨_, rfl, _, rfl, _, rfl, a, b, e, d, dx, dy, rfl, hd, hx, hy, dropQ q⟩
    have w2 : way ≠ 2 := fun z => by
      subst z
      exact h (decide_eq_true rfl)
    refine ⟨_, rfl, rfl, _, rfl, ite2 (fun h => ?_) (fun h => ?_)⟩
    · obtain rfl : way = 3 := by
        have := V.int.inj (of_decide_eq_true h)
        omega
      exact ⟨_, rfl, _, rfl, _, rfl, a, b, e, d, dx, dy, rfl, hd, hx, hy, dropQ q⟩
    have w3 : way ≠ 3 := fun z => by
      subst z
      exact h (decide_eq_true rfl)
    refine ⟨_, rfl, rfl, _, rfl, ite2 (fun h => ?_) (fun h => ?_)⟩
    · obtain rfl : way = 4 := by
        have := V.int.inj (of_decide_eq_true h)
        omega
      exact ⟨_, rfl, _, rfl, a, b, d, dx, rfl, hd, hx, dropQ q⟩
    have w4 : way ≠ 4 := fun z => by
      subst z
      exact h (decide_eq_true rfl)
    refine ⟨_, rfl, rfl, _, rfl, ite2 (fun h => ?_) (fun h => ?_)⟩
    · obtain rfl : way = 5 := by
        have := V.int.inj (of_decide_eq_true h)
        omega
      exact ⟨_, rfl, _, rfl, a, b, d, dx, rfl, hd, hx, dropQ q⟩
    have w5 : way ≠ 5 := fun z => by
      subst z
      exact h (decide_eq_true rfl)
    refine ⟨_, rfl, rfl, _, rfl, ite2 (fun h => ?_) (fun h => ?_)⟩
    · obtain rfl : way = 6 := by
        have := V.int.inj (of_decide_eq_true h)
        omega
      exact ⟨_, rfl, _, rfl, a, b, d, dx, rfl, hd, hx, dropQ q⟩
    have w6 : way ≠ 6 := fun z => by
      subst z
      exact h (decide_eq_true rfl)
    refine ⟨_, rfl, rfl, _, rfl, ite2 (fun h => ?_) (fun h => ?_)⟩
    · obtain rfl : way = 7 := by
        have := V.int.inj (of_decide_eq_true h)
        omega
      exact ⟨_, rfl, _, rfl, _, rfl, a, b, e, d, dx, dy, rfl, hd, hx, hy, dropQ q⟩
    have w7 : way ≠ 7 := fun z => by
      subst z
      exact h (decide_eq_true rfl)
    refine ⟨_, rfl, rfl, _, rfl, ite2 (fun h => ?_) (fun h => ?_)⟩
    · obtain rfl : way = 8 := by
        have := V.int.inj (of_decide_eq_true h)
        omega
      exact ⟨_, rfl, a, d, rfl, hd, dropQ q⟩
    have w8 : way ≠ 8 := fun z => by
      subst z
      exact h (decide_eq_true rfl)
    obtain rfl : way = 9 := by omega
    exact ⟨_, rfl, a, d, rfl, hd, dropQ q⟩
end

end K46
namespace K46
open PySem PySem.Spec PyProof.Rows L2 Nw
/-! _law_told: slots 0 _law_way, 1 _law_things, 2 _law_before, 3 _law_caught, 4 _law_e -/
abbrev s_told : Stmt := topS 55
abbrev N_told : List Str := ["_law_way", "_law_things", "_law_before", "_law_caught", "_law_e"]
abbrev P_told : List Str := ["_law_way", "_law_things"]
theorem sc_told : FnScope N_told P_told (defScope s_told) := ⟨rfl, rfl, rfl, by decide +kernel, rfl, by decide +kernel, by decide +kernel⟩
def idxE (x : Str) : Nat := (List.range 11).find? (fun i => decide (errNm i = x)) |>.getD 0
def toldV : Option Str → V
  | none => .non
  | some x => .int (kno (idxE x))
theorem idxE_nm : ∀ i : Fin 11, idxE (errNm i.val) = i.val := by decide +kernel
def NmOk (o : Option Str) : Prop := ∀ x, o = some x → ∃ i, (1 ≤ i ∧ i ≤ 10) ∧ x = errNm i
theorem nm_none : NmOk none := fun x h => nomatch h
theorem nm_if {b : Bool} {x : Str} {o : Option Str} (hx : ∃ i, (1 ≤ i ∧ i ≤ 10) ∧ x = errNm i) (h : NmOk o) : NmOk (dueIf b x o) := by
  unfold dueIf
  split
  · exact h
  · intro y e
    obtain rfl := Option.some.inj e
    exact hx
theorem nm_web {d : PyData} {k : Wb → Option Str} (h : ∀ u, NmOk (k u)) : NmOk (dueWeb d k) := by
  unfold dueWeb
  split
  · exact h _
  · intro y e
    obtain rfl := Option.some.inj e
    exact ⟨1, by decide, rfl⟩
theorem due_nm (way : Nat) (d x y : PyData) : NmOk (dueCall way d x y) := by
  unfold dueCall
  split
  · exact nm_web fun u => nm_if ⟨2, by decide, rfl⟩ nm_none
  · exact nm_web fun u => nm_if ⟨3, by decide, rfl⟩ nm_none
  · exact nm_web fun u => nm_if ⟨3, by decide, rfl⟩ (nm_if ⟨3, by decide, rfl⟩ (nm_if ⟨9, by decide, rfl⟩ nm_none))
  · exact nm_web fun u => nm_if ⟨3, by decide, rfl⟩ (nm_if ⟨3, by decide, rfl⟩ (nm_if ⟨8, by decide, rfl⟩ nm_none))
  · exact nm_web fun u => nm_if ⟨4, by decide, rfl⟩ (nm_if ⟨10, by decide, rfl⟩ nm_none)
  · exact nm_web fun u => nm_if ⟨5, by decide, rfl⟩ nm_none
  · exact nm_web fun u => nm_if ⟨6, by decide, rfl⟩ nm_none
  · exact nm_web fun u => nm_web fun v => nm_if ⟨7, by decide, rfl⟩ (nm_if ⟨10, by decide, rfl⟩ (nm_if ⟨10, by decide, rfl⟩ nm_none))
  · exact nm_web fun u => nm_none
def sp_told (K : PySem.W.Frag) : Sp := fun vs H Q _ => ∃ (way : Nat) (l : Addr) (a b e : V) (d dx dy : PyData), vs = [.int way, .ref l] ∧ way < 10 ∧ H l = some (.lst [a, b, e]) ∧ Da K H d a ∧ Da K H dx b ∧ Da K H dy e ∧
  Sh 41 40000 40 d ∧ Sh 41 40000 40 dx ∧ Sh 41 40000 40 dy ∧ ∀ H', Ex H H' → Q (toldV (dueCall way d dx dy)) H'
section
variable {P : Program} {w : World} {K : PySem.W.Frag} {mg : Str → Option Value} {base : Heap}
theorem ok_told {f : Addr} {fd : FuncData} (T : Txt K mg) (F : Fun K "_law_told" "_law_told" s_told f fd)
    (SM : SysAt base)
    (D_kind : DefOk P w K mg base CX0 1 "_law_kind" P_kind (sp_kind K))
    (D_call : DefOk P w K mg base (L2.CX P w) 9 "_law_call" P_call (sp_call K)) :
    FnG P w K mg base CX0 10 f fd P_told (sp_told K) := by
  obtain ⟨c, fB, fP, hc⟩ := T.fam
  refine okG0 F sc_told (fun vs H Q E h => ?_) (fun cdv A outer s H vs Q E hr hq h => ?_)
  · obtain ⟨way, l, a, b, e, d, dx, dy, rfl, _⟩ := h
    rfl
  · obtain ⟨way, l, a, b, e, d, dx, dy, rfl, hway, hS, hd, hx, hy, s1, s2, s3, q⟩ := h
    have sh : Sh 41 (1 + 40000 * 3) 41 (.list [d, dx, dy]) := Sh.list (fun x hx => by
      rcases List.mem_cons.mp hx with rfl | hx
      · exact s1
      · rcases List.mem_cons.mp hx with rfl | hx
        · exact s2
        · obtain rfl := List.mem_singleton.mp hx
          exact s3) (Nat.le_refl _)
    have dl : ∀ {H' : Hp}, Ex H H' → Da K H' (.list [d, dx, dy]) (.ref l) := fun e => ⟨l, _, rfl, e _ _ hS, ⟨_, _, rfl, hd.up e, _, _, rfl, hx.up e, _, _, rfl, hy.up e, rfl⟩, by show 3 ≤ 100000; decide⟩
    refine ⟨_, (pss_cons (ps_par (i := 2) (j := 3) (by rfl) sc_told.nd rfl rfl (by decide) rfl rfl (pa_cons (pe_callB (call_reprS K hq hr SM) (by rfl) T.b_repr bt_repr (pa_cons (pv 1) pa_nil)) (pa_cons pe_non pa_nil)) (by rfl))
      (pss_cons (ps_try_kp (i := 4) (Wout := fun _ _ _ _ => False) rfl rfl rfl sc_told.nd rfl rfl ⟨rfl, by decide, Or.inl hc.g_WebError⟩ takes0 (fun W pn xe tk _ => (pss_one (ps_expr (pe_callDS D_call (hr.mono (by decide)) hq (fun σ => passAt tk σ) (pa_cons (pv 0) (pa_cons (pv 1) pa_nil)))))) (fun a oe cls d pn hz hf => (pss_one (ps_set (i := 3) sc_told.nd rfl (by first | exact .inl rfl | exact .inr rfl) (pv 4)))))
      (pss_cons (ps_if (pt_cmpR op_ne (pe_callB (call_reprS K hq hr SM) (by rfl) T.b_repr bt_repr (pa_cons (pv 1) pa_nil)) (pv 2) (nomark _)) (pss_one (ps_ret pe_str)) pss_nil)
      (pss_one (ps_ret (pe_ifExp (pt_cmpR op_isN (pv 3) pe_non (nomark _)) pe_non (pe_callD D_kind (hr.mono (by decide)) hq pass0 (pa_cons (pv 3) pa_nil)))))))), ?_⟩
    refine ⟨_, rfl, _, _, rfl, dl Ex.rfl, sh.s, sh.fit (by decide) (by decide), by have := sh.k; omega, ?_⟩
    refine ⟨_, _, rfl, ?_⟩
    refine ⟨_, rfl, _, rfl, way, l, a, b, e, d, dx, dy, rfl, hway, hS, hd, hx, hy, ?_⟩
    cases hdc : dueCall way d dx dy with
    | none =>
      rw [hdc] at q
      intro v H1 e1
      refine ⟨_, rfl, _, _, rfl, dl e1, sh.s, sh.fit (by decide) (by decide), by have := sh.k; omega, ?_⟩
      refine ⟨_, rfl, rfl, false, by simp, ite2 (fun h => Bool.noConfusion h) (fun _ => ?_)⟩
      refine ⟨_, rfl, rfl, _, rfl, ?_⟩
      exact q _ e1
    | some x =>
      rw [hdc] at q
      obtain ⟨i, hi, rfl⟩ := due_nm _ _ _ _ _ hdc
      intro C dd H1 hC e1 hdd
      obtain rfl : C = c i := err_uniq hC (hc.n i (by omega))
      refine ⟨true, hc.m i (by omega), fun _ a0 na => ?_, fun z => Bool.noConfusion z⟩
      refine ⟨_, rfl, ?_⟩
      have e2 : Ex H1 (upd H1 a0 (ExK (.ref (c i)) dd a0)) := Ex.nw na
      have f2 : (upd H1 a0 (ExK (.ref (c i)) dd a0)) a0 = some (ExK (.ref (c i)) dd a0) := upd_same
      show (_ : Prop)
      refine ⟨_, rfl, _, _, rfl, dl (e1.tr e2), sh.s, sh.fit (by decide) (by decide), by have := sh.k; omega, ?_⟩
      refine ⟨_, rfl, rfl, false, by simp, ite2 (fun h => Bool.noConfusion h) (fun _ => ?_)⟩
      refine ⟨_, rfl, rfl, false, rfl, ?_⟩
      refine ⟨_, rfl, a0, c i, i, rfl, hi, hc.n i (by omega), .inr ⟨dd, f2, fun dx hd => ?_⟩, fun H3 e3 => ?_⟩
      · obtain ⟨fs, h⟩ := hdd dx hd
        exact ⟨fs, e2 _ _ h⟩
      · have := q _ (e1.tr (e2.tr e3))
        rw [toldV, idxE_nm ⟨i, by omega⟩] at this
        exact this
end

end K46
namespace K46
open PySem PySem.Spec PyProof.Rows L2 Nw
/-! _law_numbers: slots 0 _law_bound -/
abbrev s_numbers : Stmt := topS 56
abbrev N_numbers : List Str := ["_law_bound"]
abbrev P_numbers : List Str := ["_law_bound"]
theorem sc_numbers : FnScope N_numbers P_numbers (defScope s_numbers) := ⟨rfl, rfl, rfl, by decide +kernel, rfl, by decide +kernel, by decide +kernel⟩
def BadL (K : PySem.W.Frag) (H : Hp) (p : PyData → Prop) : List V → Prop
  | [] => True
  | v :: vs => (∃ d, Da K H d v ∧ Sh 41 40000 40 d ∧ p d) ∧ BadL K H p vs
theorem BadL.at {K : PySem.W.Frag} {H : Hp} {p : PyData → Prop} : ∀ {vs : List V} {i : Nat} {x : V}, BadL K H p vs → vs[i]? = some x → ∃ d, Da K H d x ∧ Sh 41 40000 40 d ∧ p d
  | [], _, _, _, h => by cases h
  | v :: vs, 0, x, g, h => by
    obtain rfl := Option.some.inj h
    exact g.1
  | v :: vs, i + 1, x, g, h => BadL.at (vs := vs) (i := i) g.2 h
theorem BadL.imp {K : PySem.W.Frag} {H : Hp} {p r : PyData → Prop} (f : ∀ d, p d → r d) : ∀ {vs : List V}, BadL K H p vs → BadL K H r vs
  | [], _ => trivial
  | v :: vs, g => by
    obtain ⟨d, h1, h2, h3⟩ := g.1
    exact ⟨⟨d, h1, h2, f d h3⟩, BadL.imp f g.2⟩
/-- the heap without the two lists that change -/
abbrev rm2 (H : Hp) (p q : Addr) : Hp := rm (rm H p) q
theorem rm2_ex {H H' : Hp} {p q : Addr} (e : Ex H H') : Ex (rm2 H p q) (rm2 H' p q) := (Ex.rm (Ex.rm e))
theorem rm2_some {H : Hp} {p q o : Addr} {x : HO} (np : ¬ (o = p)) (nq : ¬ (o = q)) (h : H o = some x) : rm2 H p q o = some x := by
  rw [rm2, rm_ne nq, rm_ne np]
  exact h
theorem sh_i9 {i : Int} (h : i.natAbs < 10000000000000000000000000000000000000000) : Sh 41 40000 40 (.int i) := (Sh.int (k := 40) (by decide) (small40 h).1 (small40 h).2).wide (by omega) (by omega)
def sp_numbers (K : PySem.W.Frag) : Sp := fun vs H Q _ => ∃ (m : Int) (p q : Addr) (hp hq : HO), vs = [.int m] ∧ H p = some hp ∧ H q = some hq ∧ (0 ≤ m ∧ m ≤ 40) ∧ ∀ R ys H', Ex H H' → rm2 H' p q R = some (.lst ys) → ys.length = 11 → BadL K (rm2 H' p q) (fun d => numB d m = false) ys → Q (.ref R) H'
section
variable {P : Program} {w : World} {K : PySem.W.Frag} {mg : Str → Option Value} {base : Heap}
theorem ok_numbers {f : Addr} {fd : FuncData} (T : Txt K mg) (F : Fun K "_law_numbers" "_law_numbers" s_numbers f fd) :
    FnG P w K mg base CX0 1 f fd P_numbers (sp_numbers K) := by
  refine okG0 F sc_numbers (fun vs H Q E h => ?_) (fun cdv A outer s H vs Q E hr hq h => ?_)
  · obtain ⟨m, _, _, _, _, rfl, _⟩ := h
    rfl
  · obtain ⟨m, p, q, _, _, rfl, hp, hq0, hm, qq⟩ := h
    refine ⟨_, (pss_one (ps_ret (pe_lst (pa_cons pe_non (pa_cons (pe_un un_neg pe_int) (pa_cons (pv 0) (pa_cons pe_bl (pa_cons pe_str (pa_cons (pe_lst (pa_cons pe_int pa_nil)) (pa_cons (pe_tup (pa_cons pe_int pa_nil)) (pa_cons (pe_op op_powW pe_int pe_int) (pa_cons pe_dnewK (pa_cons pe_bl (pa_cons (pe_op op_add (pv 0) pe_int) pa_nil)))))))))))))), ?_⟩
    refine ⟨1, rfl, _, rfl, by show 1 ≤ sizeLine; decide, fun o1 n1 => ?_⟩
    have E1 : Ex H (upd H o1 (.lst [(.int 0)])) := Ex.nw n1
    have F1 : (upd H o1 (.lst [(.int 0)])) o1 = some (.lst [(.int 0)]) := upd_same
    generalize upd H o1 (.lst [(.int 0)]) = G1 at E1 F1
    have N1 : ¬ (o1 = p) := fun e => by rw [e, Ex.rfl _ _ hp] at n1; cases n1
    have M1 : ¬ (o1 = q) := fun e => by rw [e, Ex.rfl _ _ hq0] at n1; cases n1
    have F1' := (rm2_some N1 M1 F1)
    refine ⟨by show 1 ≤ sizeLine; decide, fun o2 n2 => ?_⟩
    have E2 : Ex G1 (upd G1 o2 (.tup [(.int 0)])) := Ex.nw n2
    have F2 : (upd G1 o2 (.tup [(.int 0)])) o2 = some (.tup [(.int 0)]) := upd_same
    generalize upd G1 o2 (.tup [(.int 0)]) = G2 at E2 F2
    have N2 : ¬ (o2 = p) := fun e => by rw [e, E1 _ _ hp] at n2; cases n2
    have M2 : ¬ (o2 = q) := fun e => by rw [e, E1 _ _ hq0] at n2; cases n2
    have F2' := (rm2_some N2 M2 F2)
    refine ⟨_, _, rfl, rfl, ⟨by decide, by decide, by decide⟩, fun o3 n3 => ?_⟩
    have E3 : Ex G2 (upd G2 o3 (.dK [])) := Ex.nw n3
    have F3 : (upd G2 o3 (.dK [])) o3 = some (.dK []) := upd_same
    generalize upd G2 o3 (.dK []) = G3 at E3 F3
    have N3 : ¬ (o3 = p) := fun e => by rw [e, (E1.tr E2) _ _ hp] at n3; cases n3
    have M3 : ¬ (o3 = q) := fun e => by rw [e, (E1.tr E2) _ _ hq0] at n3; cases n3
    have F3' := (rm2_some N3 M3 F3)
    refine ⟨_, rfl, _, _, rfl, rfl, by show 11 ≤ sizeLine; decide, fun o4 n4 => ?_⟩
    have E4 : Ex G3 (upd G3 o4 (.lst [.non, (.int (-1)), (.int m), (.bl true), (.str "0"), (.ref o1), (.ref o2), (.int (10 ^ Int.toNat 29)), (.ref o3), (.bl false), (.int (m + 1))])) := Ex.nw n4
    have F4 : (upd G3 o4 (.lst [.non, (.int (-1)), (.int m), (.bl true), (.str "0"), (.ref o1), (.ref o2), (.int (10 ^ Int.toNat 29)), (.ref o3), (.bl false), (.int (m + 1))])) o4 = some (.lst [.non, (.int (-1)), (.int m), (.bl true), (.str "0"), (.ref o1), (.ref o2), (.int (10 ^ Int.toNat 29)), (.ref o3), (.bl false), (.int (m + 1))]) := upd_same
    generalize upd G3 o4 (.lst [.non, (.int (-1)), (.int m), (.bl true), (.str "0"), (.ref o1), (.ref o2), (.int (10 ^ Int.toNat 29)), (.ref o3), (.bl false), (.int (m + 1))]) = G4 at E4 F4
    have N4 : ¬ (o4 = p) := fun e => by rw [e, (E1.tr (E2.tr E3)) _ _ hp] at n4; cases n4
    have M4 : ¬ (o4 = q) := fun e => by rw [e, (E1.tr (E2.tr E3)) _ _ hq0] at n4; cases n4
    have F4' := (rm2_some N4 M4 F4)
    have z29 : (10 : Int) ^ Int.toNat 29 = 100000000000000000000000000000 := by decide
    have p0 : ∃ d, Da K (rm2 G4 p q) d .non ∧ Sh 41 40000 40 d ∧ numB d m = false := ⟨.none, rfl, (shB_sh (by decide +kernel)), rfl⟩
    have p1 : ∃ d, Da K (rm2 G4 p q) d (.int (-1)) ∧ Sh 41 40000 40 d ∧ numB d m = false := ⟨(.int (-1)), rfl, (shB_sh (by decide +kernel)), by simp [numB]⟩
    have p2 : ∃ d, Da K (rm2 G4 p q) d (.int m) ∧ Sh 41 40000 40 d ∧ numB d m = false := ⟨(.int m), rfl, (sh_i9 (by omega)), by simp [numB]⟩
    have p3 : ∃ d, Da K (rm2 G4 p q) d (.bl true) ∧ Sh 41 40000 40 d ∧ numB d m = false := ⟨(.bool true), rfl, (shB_sh (by decide +kernel)), rfl⟩
    have p4 : ∃ d, Da K (rm2 G4 p q) d (.str "0") ∧ Sh 41 40000 40 d ∧ numB d m = false := ⟨(.str "0"), rfl, (shB_sh (by decide +kernel)), rfl⟩
    have p5 : ∃ d, Da K (rm2 G4 p q) d (.ref o1) ∧ Sh 41 40000 40 d ∧ numB d m = false := ⟨(.list [(.int 0)]), ⟨o1, _, rfl, (rm2_ex (p := p) (q := q) (E2.tr (E3.tr E4))) _ _ F1', ⟨_, _, rfl, rfl, rfl⟩, by show 1 ≤ 100000; decide⟩, (shB_sh (by decide +kernel)), rfl⟩
    have p6 : ∃ d, Da K (rm2 G4 p q) d (.ref o2) ∧ Sh 41 40000 40 d ∧ numB d m = false := ⟨(.tuple [(.int 0)]), ⟨o2, _, rfl, (rm2_ex (p := p) (q := q) (E3.tr E4)) _ _ F2', ⟨_, _, rfl, rfl, rfl⟩⟩, (shB_sh (by decide +kernel)), rfl⟩
    have p7 : ∃ d, Da K (rm2 G4 p q) d (.int (10 ^ Int.toNat 29)) ∧ Sh 41 40000 40 d ∧ numB d m = false := ⟨(.int (10 ^ Int.toNat 29)), rfl, (sh_i9 (by decide)), by rw [z29]; simp [numB]; omega⟩
    have p8 : ∃ d, Da K (rm2 G4 p q) d (.ref o3) ∧ Sh 41 40000 40 d ∧ numB d m = false := ⟨(.dict []), ⟨o3, [], rfl, (rm2_ex (p := p) (q := q) E4) _ _ F3', rfl, rfl⟩, (shB_sh (by decide +kernel)), rfl⟩
    have p9 : ∃ d, Da K (rm2 G4 p q) d (.bl false) ∧ Sh 41 40000 40 d ∧ numB d m = false := ⟨(.bool false), rfl, (shB_sh (by decide +kernel)), rfl⟩
    have p10 : ∃ d, Da K (rm2 G4 p q) d (.int (m + 1)) ∧ Sh 41 40000 40 d ∧ numB d m = false := ⟨(.int (m + 1)), rfl, (sh_i9 (by omega)), by simp [numB]; omega⟩
    exact qq _ _ _ (E1.tr (E2.tr (E3.tr E4))) F4' rfl ⟨p0, p1, p2, p3, p4, p5, p6, p7, p8, p9, p10, trivial⟩
end

end K46
namespace K46
open PySem PySem.Spec PyProof.Rows L2 Nw
/-! _law_bad: slots 0 _law_name, 1 _law_web_here, 2 _law_count_here, 3 _law_size, 4 _law_some, 5 _law_every -/
abbrev s_bad : Stmt := topS 57
abbrev N_bad : List Str := ["_law_name", "_law_web_here", "_law_count_here", "_law_size", "_law_some", "_law_every"]
abbrev P_bad : List Str := ["_law_name", "_law_web_here"]
theorem sc_bad : FnScope N_bad P_bad (defScope s_bad) := ⟨rfl, rfl, rfl, by decide +kernel, rfl, by decide +kernel, by decide +kernel⟩
theorem tupSh {n k : Nat} {xs : List PyData} (h : Sh 41 n k (.list xs)) : Sh 41 n k (.tuple xs) := ⟨by have := h.s; simpa only [PyData.showable] using this, by have := h.l; simpa only [lf] using this, by have := h.n; simpa only [nodes] using this, by have := h.k; simpa only [PyData.depth] using this⟩
theorem lstSh {n k : Nat} {xs : List PyData} (h : Sh 41 n k (.tuple xs)) : Sh 41 n k (.list xs) := ⟨by have := h.s; simpa only [PyData.showable] using this, by have := h.l; simpa only [lf] using this, by have := h.n; simpa only [nodes] using this, by have := h.k; simpa only [PyData.depth] using this⟩
theorem twoSh {n k : Nat} {a b e : PyData} (h : Sh 41 n k (.tuple [a, b, e])) : Sh 41 n k (.tuple [a, b]) := by
  obtain ⟨h1, h2, h3, h4⟩ := h
  simp only [PyData.showable, PyData.showableAll, lf, lfAll, nodes, nodesAll, PyData.depth, PyData.depthAll, Bool.and_eq_true, Bool.and_true] at h1 h2 h3 h4
  refine ⟨?_, ?_, ?_, ?_⟩
  · simp only [PyData.showable, PyData.showableAll, Bool.and_eq_true, Bool.and_true]; exact ⟨h1.1, h1.2.1⟩
  · simp only [lf, lfAll, Bool.and_eq_true, Bool.and_true]; exact ⟨h2.1, h2.2.1⟩
  · simp only [nodes, nodesAll]; omega
  · simp only [PyData.depth, PyData.depthAll]; omega
theorem shN {i : Int} (h : i.natAbs < 10000000000000000000000000000000000000000) : Sh 41 40000 40 (.list [.int i]) := (Sh.list (n := 1) (k := 0) (m := 1) (fun x hx => by obtain rfl := List.mem_singleton.mp hx; exact Sh.int (k := 40) (by decide) (small40 h).1 (small40 h).2) (Nat.le_refl _)).wide (by omega) (by omega)
theorem shN2 {i : Int} (h : i.natAbs < 10000000000000000000000000000000000000000) : Sh 41 40000 40 (.list [.tuple [.int i, .int 0]]) := (Sh.list (n := 3) (k := 1) (m := 1) (fun x hx => by
  obtain rfl := List.mem_singleton.mp hx
  exact Sh.tuple (n := 1) (k := 0) (m := 2) (fun x hx => by
    rcases List.mem_cons.mp hx with rfl | hx
    · exact Sh.int (k := 40) (by decide) (small40 h).1 (small40 h).2
    · obtain rfl := List.mem_singleton.mp hx
      exact Sh.int (k := 40) (by decide) (small40 (by decide)).1 (small40 (by decide)).2) (Nat.le_refl _)) (Nat.le_refl _)).wide (by omega) (by omega)
theorem sh_evm {r : List Int} (h : ∀ x ∈ r, 0 ≤ x ∧ x < 64) (hl : r.length ≤ 30) : Sh 41 40000 40 (.list (r.map PyData.int ++ [.none])) := (Sh.list (n := 1) (k := 1) (m := 31) (fun x hx => by
  rcases List.mem_append.mp hx with hx | hx
  · obtain ⟨i, hi, rfl⟩ := List.mem_map.mp hx
    exact (Sh.int (k := 40) (by decide) (small40 (by have := h i hi; omega)).1 (small40 (by have := h i hi; omega)).2).wide (by omega) (by omega)
  · obtain rfl := List.mem_singleton.mp hx
    exact ⟨rfl, rfl, Nat.le_refl _, Nat.le_succ _⟩) (by rw [List.length_append, List.length_map]; show r.length + 1 ≤ 31; omega)).wide (by omega) (by omega)
def nmT (t : Nat) : Str := (["web", "source", "quantity", "targets", "nudge", "order", "links"] : List Str).getD t ""
/-- a value that doesn't fit what the t-th name names -/
def BadT (u : Wb) : Nat → PyData → Prop
  | 0, d => webB d = false
  | 1, d => numB d (u.n + u.ns.length) = false
  | 2, d => numB d u.n = false
  | 3, d => targetsB d u.n = false
  | 4, d => numB d u.ns.length = false
  | 5, d => ordB d u.n = false
  | _, d => tuplesB d u.n u.n = false
theorem ordB_no {d : PyData} {n : Int} (h : ∀ o, d ≠ dInts o) : ordB d n = false := by
  cases e : ordB d n with
  | false => rfl
  | true =>
    obtain ⟨o, h1, _⟩ := ordB_of.mp e
    exact absurd h1 (h o)
theorem ordB_ints {o : List Int} {n : Int} (h : ¬ IsOrd n o) : ordB (dInts o) n = false := by
  cases e : ordB (dInts o) n with
  | false => rfl
  | true =>
    obtain ⟨o', h1, h2⟩ := ordB_of.mp e
    obtain rfl := dInts_inj h1
    exact absurd h2 h
theorem targets_twice {r : List Int} {n : Int} (h : 0 ∈ r) : targetsB (dInts (r ++ [0])) n = false := by
  cases e : targetsB (dInts (r ++ [0])) n with
  | false => rfl
  | true =>
    obtain ⟨r', h1, _, _, h4⟩ := targetsB_inv e
    obtain rfl := dInts_inj h1
    have hp := pwI_asc h4
    have := (List.pairwise_append.mp hp).2.2 0 h 0 (by simp)
    simp [ltIn] at this
theorem zero_iota {n : Int} (h : 1 ≤ n) : 0 ∈ iota n := mem_iota.mpr ⟨by omega, by omega⟩
theorem cut_drop1 (xs : List V) (h : 1 ≤ xs.length) : cutV xs (some 1) none = xs.drop 1 := cut_drop xs 1 h
theorem iota_len (n : Int) : (iota n).length = n.toNat := by
  unfold iota
  rw [List.length_map, List.length_range]
theorem cut_ints (r : List Int) (lo hi : Option Int) : ∃ s : List Int, cutV (r.map V.int) lo hi = s.map V.int ∧ s.length ≤ r.length ∧ ∀ x ∈ s, x ∈ r := by
  unfold cutV
  refine ⟨_, by first | rw [← List.map_take, ← List.map_drop] | rw [← List.map_drop, ← List.map_take], ?_, fun x hx => ?_⟩
  · first
      | (rw [List.length_drop, List.length_take]; have := List.length_map (as := r) V.int; omega)
      | (rw [List.length_take, List.length_drop]; have := List.length_map (as := r) V.int; omega)
  · first
      | exact List.mem_of_mem_take (List.mem_of_mem_drop hx)
      | exact List.mem_of_mem_drop (List.mem_of_mem_take hx)
theorem sh_ints9 {r : List Int} (h : ∀ x ∈ r, 0 ≤ x ∧ x < 64) (hl : r.length ≤ 30) : Sh 41 40000 40 (dInts r) :=
  (Sh.ints (k := 40) (m := 30) (by decide) (fun x hx => (small40 (by have := h x hx; omega)).1) (fun x hx => (small40 (by have := h x hx; omega)).2) hl).wide (by omega) (by omega)
def sp_bad (K : PySem.W.Frag) : Sp := fun vs H Q _ => ∃ (t : Nat) (v : V) (u : Wb) (p q : Addr) (hp hq : HO), vs = [.str (nmT t), v] ∧ t < 7 ∧ H p = some hp ∧ H q = some hq ∧ Da K (rm2 H p q) (Wb.d u) v ∧ u.Ok ∧
  ∀ R ys H', Ex H H' → rm2 H' p q R = some (.lst ys) → (1 ≤ ys.length ∧ ys.length ≤ 20) → BadL K (rm2 H' p q) (BadT u t) ys → Q (.ref R) H'
section
variable {P : Program} {w : World} {K : PySem.W.Frag} {mg : Str → Option Value} {base : Heap}
theorem ok_bad {f : Addr} {fd : FuncData} (T : Txt K mg) (F : Fun K "_law_bad" "_law_bad" s_bad f fd)
    (D_numbers : DefOk P w K mg base CX0 1 "_law_numbers" P_numbers (sp_numbers K)) :
    FnG P w K mg base CX0 2 f fd P_bad (sp_bad K) := by
  refine okG0 F sc_bad (fun vs H Q E h => ?_) (fun cdv A outer s H vs Q E hr hq h => ?_)
  · obtain ⟨t, v, u, _, _, _, _, rfl, _⟩ := h
    rfl
  · obtain ⟨t, v, u, p, q, _, _, rfl, ht, hp, hq0, hd2, hu, qq⟩ := h
    have hd := hd2.up (rm_ex.tr rm_ex)
    have b1 := hu.lo
    have b2 := hu.hi
    have b3 := hu.few
    obtain ⟨tt, x2, x3, rfl, hS', g2', g3'⟩ := Wb.at hd2
    have out : Ex (rm2 H p q) H := rm_ex.tr rm_ex
    have hS := out.t hS'
    have g2 := g2'.up out
    have g3 := g3'.up out
    obtain ⟨a, xs, rfl, hL0, hA, hz⟩ := id g3
    have hl := hA.len
    rw [List.length_map] at hl
    refine ⟨_, (pss_cons (ps_par (i := 2) (j := 3) (by rfl) sc_bad.nd rfl rfl (by decide) rfl rfl (pa_cons (pe_ix (ix_tupK K) (pv 1) pe_int (fun _ _ => rfl)) (pa_cons (pe_callB (call_lenK K) (by rfl) T.b_len bt_len (pa_cons (pe_ix (ix_tupK K) (pv 1) pe_int (fun _ _ => rfl)) pa_nil)) pa_nil)) (by rfl))
      (pss_cons (ps_if (pt_cmpR op_eq (pv 0) pe_str (nomark _)) (pss_cons (ps_set (i := 4) sc_bad.nd rfl (by first | exact .inl rfl | exact .inr rfl) (pe_lst (pa_cons pe_non (pa_cons pe_int (pa_cons (pe_lst pa_nil) (pa_cons (pe_tup pa_nil) (pa_cons (pe_callTy (call_listK K) (by rfl) T.b_list bt_list (pa_cons (pv 1) pa_nil)) (pa_cons (pe_slice (sl_tupK K) (pv 1) po_none (po_some pe_int)) (pa_cons (pe_tup (pa_cons pe_int (pa_cons (pe_lst pa_nil) (pa_cons (pe_lst pa_nil) pa_nil)))) (pa_cons (pe_tup (pa_cons pe_int (pa_cons (pe_lst pa_nil) (pa_cons (pe_lst pa_nil) pa_nil)))) (pa_cons (pe_tup (pa_cons pe_int (pa_cons (pe_lst (pa_cons (pe_tup (pa_cons pe_int (pa_cons pe_int pa_nil))) pa_nil)) (pa_cons (pe_lst pa_nil) pa_nil)))) pa_nil)))))))))))
      (pss_one (ps_ret (pe_op (op_catS K) (pv 4) (pe_lst (pa_cons (pe_tup (pa_cons pe_bl (pa_cons (pe_lst pa_nil) (pa_cons (pe_lst pa_nil) pa_nil)))) (pa_cons (pe_tup (pa_cons pe_int (pa_cons (pe_lst pa_nil) (pa_cons (pe_lst (pa_cons (pe_lst pa_nil) pa_nil)) pa_nil)))) (pa_cons (pe_tup (pa_cons pe_int (pa_cons (pe_lst pa_nil) (pa_cons (pe_op op_rep (pe_lst (pa_cons (pe_lst (pa_cons pe_int pa_nil)) pa_nil)) pe_int) pa_nil)))) (pa_cons pe_str (pa_cons pe_dnewK pa_nil)))))))))) pss_nil)
      (pss_cons (ps_if (pt_cmpR op_eq (pv 0) pe_str (nomark _)) (pss_one (ps_ret (pe_callD D_numbers (hr.mono (by decide)) hq pass0 (pa_cons (pe_op op_add (pv 2) (pv 3)) pa_nil)))) pss_nil)
      (pss_cons (ps_if (pt_cmpR op_eq (pv 0) pe_str (nomark _)) (pss_one (ps_ret (pe_callD D_numbers (hr.mono (by decide)) hq pass0 (pa_cons (pv 2) pa_nil)))) pss_nil)
      (pss_cons (ps_if (pt_cmpR op_eq (pv 0) pe_str (nomark _)) (pss_one (ps_ret (pe_callD D_numbers (hr.mono (by decide)) hq pass0 (pa_cons (pv 3) pa_nil)))) pss_nil)
      (pss_cons (ps_set (i := 5) sc_bad.nd rfl (by first | exact .inl rfl | exact .inr rfl) (pe_listRg rfl (by rfl) T.b_list (prg_1 (by rfl) T.b_range (pv 2))))
      (pss_cons (ps_if (pt_cmpR op_eq (pv 0) pe_str (nomark _)) (pss_one (ps_ret (pe_lst (pa_cons pe_non (pa_cons (pe_lst pa_nil) (pa_cons (pe_tup (pa_cons pe_int pa_nil)) (pa_cons (pe_lst (pa_cons pe_int (pa_cons pe_int pa_nil))) (pa_cons (pe_lst (pa_cons (pv 2) pa_nil)) (pa_cons (pe_lst (pa_cons (pe_un un_neg pe_int) pa_nil)) (pa_cons (pe_lst (pa_cons pe_bl pa_nil)) (pa_cons (pe_lst (pa_cons pe_str pa_nil)) (pa_cons pe_int (pa_cons pe_dnewK (pa_cons (pe_lst (pa_cons pe_non pa_nil)) (pa_cons (pe_op (op_catS K) (pe_revL (pv 5)) (pe_lst (pa_cons pe_int pa_nil))) (pa_cons (pe_lst (pa_cons (pe_lst (pa_cons pe_int pa_nil)) pa_nil)) pa_nil)))))))))))))))) pss_nil)
      (pss_cons (ps_if (pt_cmpR op_eq (pv 0) pe_str (nomark _)) (pss_one (ps_ret (pe_lst (pa_cons pe_non (pa_cons (pe_lst pa_nil) (pa_cons (pe_callTy (call_tupleK K) (by rfl) T.b_tuple bt_tuple (pa_cons (pv 5) pa_nil)) (pa_cons (pe_op (op_catS K) (pv 5) (pe_lst (pa_cons pe_int pa_nil))) (pa_cons (pe_slice (sl_listK K) (pv 5) (po_some pe_int) po_none) (pa_cons (pe_op (op_catS K) (pe_lst (pa_cons (pv 2) pa_nil)) (pe_slice (sl_listK K) (pv 5) (po_some pe_int) po_none)) (pa_cons pe_str (pa_cons pe_int (pa_cons (pe_op (op_catS K) (pe_slice (sl_listK K) (pv 5) po_none (po_some (pe_un un_neg pe_int))) (pe_lst (pa_cons pe_non pa_nil))) pa_nil)))))))))))) pss_nil)
      (pss_one (ps_ret (pe_lst (pa_cons pe_non (pa_cons (pe_tup pa_nil) (pa_cons (pe_lst (pa_cons (pe_tup (pa_cons pe_int (pa_cons pe_int pa_nil))) (pa_cons (pe_tup (pa_cons pe_int (pa_cons pe_int pa_nil))) pa_nil))) (pa_cons (pe_lst (pa_cons (pe_lst (pa_cons pe_int (pa_cons pe_int pa_nil))) pa_nil)) (pa_cons (pe_lst (pa_cons (pe_tup (pa_cons pe_int pa_nil)) pa_nil)) (pa_cons (pe_lst (pa_cons (pe_tup (pa_cons pe_int (pa_cons pe_int pa_nil))) pa_nil)) (pa_cons (pe_lst (pa_cons (pe_tup (pa_cons (pv 2) (pa_cons pe_int pa_nil))) pa_nil)) (pa_cons (pe_lst (pa_cons (pe_tup (pa_cons pe_bl (pa_cons pe_int pa_nil))) pa_nil)) (pa_cons pe_str (pa_cons pe_dnewK (pa_cons (pe_lst (pa_cons pe_non pa_nil)) pa_nil)))))))))))))))))))))), ?_⟩
    refine ⟨_, rfl, tt, _, 0, _, rfl, rfl, hS, rfl, _, rfl, tt, _, 2, _, rfl, rfl, hS, rfl, a, _, rfl, .inl (.inl (.inl hL0)), _, _, rfl, ?_⟩
    rw [← hl]
    rcases (show t = 0 ∨ t = 1 ∨ t = 2 ∨ t = 3 ∨ t = 4 ∨ t = 5 ∨ t = 6 by omega) with rfl | rfl | rfl | rfl | rfl | rfl | rfl
    · refine ⟨_, rfl, rfl, true, congrArg V.bl (by decide +kernel), ite2 (fun _ => ?_) (fun h => absurd rfl h)⟩
      refine ⟨Nat.zero_le _, fun o1 n1 => ?_⟩
      have E1 : Ex H (upd H o1 (.lst [])) := Ex.nw n1
      have F1 : (upd H o1 (.lst [])) o1 = some (.lst []) := upd_same
      generalize upd H o1 (.lst []) = G1 at E1 F1
      have N1 : ¬ (o1 = p) := fun e => by rw [e, Ex.rfl _ _ hp] at n1; cases n1
      have M1 : ¬ (o1 = q) := fun e => by rw [e, Ex.rfl _ _ hq0] at n1; cases n1
      have F1' := (rm2_some N1 M1 F1)
      refine ⟨Nat.zero_le _, fun o2 n2 => ?_⟩
      have E2 : Ex G1 (upd G1 o2 (.tup [])) := Ex.nw n2
      have F2 : (upd G1 o2 (.tup [])) o2 = some (.tup []) := upd_same
      generalize upd G1 o2 (.tup []) = G2 at E2 F2
      have N2 : ¬ (o2 = p) := fun e => by rw [e, E1 _ _ hp] at n2; cases n2
      have M2 : ¬ (o2 = q) := fun e => by rw [e, E1 _ _ hq0] at n2; cases n2
      have F2' := (rm2_some N2 M2 F2)
      refine ⟨_, rfl, tt, _, rfl, .inr ((E1.tr E2).t hS), fun o3 n3 => ?_⟩
      have E3 : Ex G2 (upd G2 o3 (.lst [.int u.n, x2, .ref a])) := Ex.nw n3
      have F3 : (upd G2 o3 (.lst [.int u.n, x2, .ref a])) o3 = some (.lst [.int u.n, x2, .ref a]) := upd_same
      generalize upd G2 o3 (.lst [.int u.n, x2, .ref a]) = G3 at E3 F3
      have N3 : ¬ (o3 = p) := fun e => by rw [e, (E1.tr E2) _ _ hp] at n3; cases n3
      have M3 : ¬ (o3 = q) := fun e => by rw [e, (E1.tr E2) _ _ hq0] at n3; cases n3
      have F3' := (rm2_some N3 M3 F3)
      refine ⟨_, rfl, _, rfl, tt, _, rfl, ((E1.tr (E2.tr E3)).t hS), (fun h => absurd h.2 (show ¬ ((2 : Nat) = 3) from by decide)), fun o4 n4 => ?_⟩
      rw [show cutV [V.int u.n, x2, V.ref a] none (some 2) = [.int u.n, x2] from rfl]
      have E4 : Ex G3 (upd G3 o4 (.tup [.int u.n, x2])) := Ex.nw n4
      have F4 : (upd G3 o4 (.tup [.int u.n, x2])) o4 = some (.tup [.int u.n, x2]) := upd_same
      generalize upd G3 o4 (.tup [.int u.n, x2]) = G4 at E4 F4
      have N4 : ¬ (o4 = p) := fun e => by rw [e, (E1.tr (E2.tr E3)) _ _ hp] at n4; cases n4
      have M4 : ¬ (o4 = q) := fun e => by rw [e, (E1.tr (E2.tr E3)) _ _ hq0] at n4; cases n4
      have F4' := (rm2_some N4 M4 F4)
      refine ⟨Nat.zero_le _, fun o5 n5 => ?_⟩
      have E5 : Ex G4 (upd G4 o5 (.lst [])) := Ex.nw n5
      have F5 : (upd G4 o5 (.lst [])) o5 = some (.lst []) := upd_same
      generalize upd G4 o5 (.lst []) = G5 at E5 F5
      have N5 : ¬ (o5 = p) := fun e => by rw [e, (E1.tr (E2.tr (E3.tr E4))) _ _ hp] at n5; cases n5
      have M5 : ¬ (o5 = q) := fun e => by rw [e, (E1.tr (E2.tr (E3.tr E4))) _ _ hq0] at n5; cases n5
      have F5' := (rm2_some N5 M5 F5)
      refine ⟨Nat.zero_le _, fun o6 n6 => ?_⟩
      have E6 : Ex G5 (upd G5 o6 (.lst [])) := Ex.nw n6
      have F6 : (upd G5 o6 (.lst [])) o6 = some (.lst []) := upd_same
      generalize upd G5 o6 (.lst []) = G6 at E6 F6
      have N6 : ¬ (o6 = p) := fun e => by rw [e, (E1.tr (E2.tr (E3.tr (E4.tr E5)))) _ _ hp] at n6; cases n6
      have M6 : ¬ (o6 = q) := fun e => by rw [e, (E1.tr (E2.tr (E3.tr (E4.tr E5)))) _ _ hq0] at n6; cases n6
      have F6' := (rm2_some N6 M6 F6)
      refine ⟨by show 3 ≤ sizeLine; decide, fun o7 n7 => ?_⟩
      have E7 : Ex G6 (upd G6 o7 (.tup [(.int 0), (.ref o5), (.ref o6)])) := Ex.nw n7
      have F7 : (upd G6 o7 (.tup [(.int 0), (.ref o5), (.ref o6)])) o7 = some (.tup [(.int 0), (.ref o5), (.ref o6)]) := upd_same
      generalize upd G6 o7 (.tup [(.int 0), (.ref o5), (.ref o6)]) = G7 at E7 F7
      have N7 : ¬ (o7 = p) := fun e => by rw [e, (E1.tr (E2.tr (E3.tr (E4.tr (E5.tr E6))))) _ _ hp] at n7; cases n7
      have M7 : ¬ (o7 = q) := fun e => by rw [e, (E1.tr (E2.tr (E3.tr (E4.tr (E5.tr E6))))) _ _ hq0] at n7; cases n7
      have F7' := (rm2_some N7 M7 F7)
      refine ⟨Nat.zero_le _, fun o8 n8 => ?_⟩
      have E8 : Ex G7 (upd G7 o8 (.lst [])) := Ex.nw n8
      have F8 : (upd G7 o8 (.lst [])) o8 = some (.lst []) := upd_same
      generalize upd G7 o8 (.lst []) = G8 at E8 F8
      have N8 : ¬ (o8 = p) := fun e => by rw [e, (E1.tr (E2.tr (E3.tr (E4.tr (E5.tr (E6.tr E7)))))) _ _ hp] at n8; cases n8
      have M8 : ¬ (o8 = q) := fun e => by rw [e, (E1.tr (E2.tr (E3.tr (E4.tr (E5.tr (E6.tr E7)))))) _ _ hq0] at n8; cases n8
      have F8' := (rm2_some N8 M8 F8)
      refine ⟨Nat.zero_le _, fun o9 n9 => ?_⟩
      have E9 : Ex G8 (upd G8 o9 (.lst [])) := Ex.nw n9
      have F9 : (upd G8 o9 (.lst [])) o9 = some (.lst []) := upd_same
      generalize upd G8 o9 (.lst []) = G9 at E9 F9
      have N9 : ¬ (o9 = p) := fun e => by rw [e, (E1.tr (E2.tr (E3.tr (E4.tr (E5.tr (E6.tr (E7.tr E8))))))) _ _ hp] at n9; cases n9
      have M9 : ¬ (o9 = q) := fun e => by rw [e, (E1.tr (E2.tr (E3.tr (E4.tr (E5.tr (E6.tr (E7.tr E8))))))) _ _ hq0] at n9; cases n9
      have F9' := (rm2_some N9 M9 F9)
      refine ⟨by show 3 ≤ sizeLine; decide, fun o10 n10 => ?_⟩
      have E10 : Ex G9 (upd G9 o10 (.tup [(.int 21), (.ref o8), (.ref o9)])) := Ex.nw n10
      have F10 : (upd G9 o10 (.tup [(.int 21), (.ref o8), (.ref o9)])) o10 = some (.tup [(.int 21), (.ref o8), (.ref o9)]) := upd_same
      generalize upd G9 o10 (.tup [(.int 21), (.ref o8), (.ref o9)]) = G10 at E10 F10
      have N10 : ¬ (o10 = p) := fun e => by rw [e, (E1.tr (E2.tr (E3.tr (E4.tr (E5.tr (E6.tr (E7.tr (E8.tr E9)))))))) _ _ hp] at n10; cases n10
      have M10 : ¬ (o10 = q) := fun e => by rw [e, (E1.tr (E2.tr (E3.tr (E4.tr (E5.tr (E6.tr (E7.tr (E8.tr E9)))))))) _ _ hq0] at n10; cases n10
      have F10' := (rm2_some N10 M10 F10)
      refine ⟨by show 2 ≤ sizeLine; decide, fun o11 n11 => ?_⟩
      have E11 : Ex G10 (upd G10 o11 (.tup [(.int 0), (.int 1)])) := Ex.nw n11
      have F11 : (upd G10 o11 (.tup [(.int 0), (.int 1)])) o11 = some (.tup [(.int 0), (.int 1)]) := upd_same
      generalize upd G10 o11 (.tup [(.int 0), (.int 1)]) = G11 at E11 F11
      have N11 : ¬ (o11 = p) := fun e => by rw [e, (E1.tr (E2.tr (E3.tr (E4.tr (E5.tr (E6.tr (E7.tr (E8.tr (E9.tr E10))))))))) _ _ hp] at n11; cases n11
      have M11 : ¬ (o11 = q) := fun e => by rw [e, (E1.tr (E2.tr (E3.tr (E4.tr (E5.tr (E6.tr (E7.tr (E8.tr (E9.tr E10))))))))) _ _ hq0] at n11; cases n11
      have F11' := (rm2_some N11 M11 F11)
      refine ⟨by show 1 ≤ sizeLine; decide, fun o12 n12 => ?_⟩
      have E12 : Ex G11 (upd G11 o12 (.lst [(.ref o11)])) := Ex.nw n12
      have F12 : (upd G11 o12 (.lst [(.ref o11)])) o12 = some (.lst [(.ref o11)]) := upd_same
      generalize upd G11 o12 (.lst [(.ref o11)]) = G12 at E12 F12
      have N12 : ¬ (o12 = p) := fun e => by rw [e, (E1.tr (E2.tr (E3.tr (E4.tr (E5.tr (E6.tr (E7.tr (E8.tr (E9.tr (E10.tr E11)))))))))) _ _ hp] at n12; cases n12
      have M12 : ¬ (o12 = q) := fun e => by rw [e, (E1.tr (E2.tr (E3.tr (E4.tr (E5.tr (E6.tr (E7.tr (E8.tr (E9.tr (E10.tr E11)))))))))) _ _ hq0] at n12; cases n12
      have F12' := (rm2_some N12 M12 F12)
      refine ⟨Nat.zero_le _, fun o13 n13 => ?_⟩
      have E13 : Ex G12 (upd G12 o13 (.lst [])) := Ex.nw n13
      have F13 : (upd G12 o13 (.lst [])) o13 = some (.lst []) := upd_same
      generalize upd G12 o13 (.lst []) = G13 at E13 F13
      have N13 : ¬ (o13 = p) := fun e => by rw [e, (E1.tr (E2.tr (E3.tr (E4.tr (E5.tr (E6.tr (E7.tr (E8.tr (E9.tr (E10.tr (E11.tr E12))))))))))) _ _ hp] at n13; cases n13
      have M13 : ¬ (o13 = q) := fun e => by rw [e, (E1.tr (E2.tr (E3.tr (E4.tr (E5.tr (E6.tr (E7.tr (E8.tr (E9.tr (E10.tr (E11.tr E12))))))))))) _ _ hq0] at n13; cases n13
      have F13' := (rm2_some N13 M13 F13)
      refine ⟨by show 3 ≤ sizeLine; decide, fun o14 n14 => ?_⟩
      have E14 : Ex G13 (upd G13 o14 (.tup [(.int 1), (.ref o12), (.ref o13)])) := Ex.nw n14
      have F14 : (upd G13 o14 (.tup [(.int 1), (.ref o12), (.ref o13)])) o14 = some (.tup [(.int 1), (.ref o12), (.ref o13)]) := upd_same
      generalize upd G13 o14 (.tup [(.int 1), (.ref o12), (.ref o13)]) = G14 at E14 F14
      have N14 : ¬ (o14 = p) := fun e => by rw [e, (E1.tr (E2.tr (E3.tr (E4.tr (E5.tr (E6.tr (E7.tr (E8.tr (E9.tr (E10.tr (E11.tr (E12.tr E13)))))))))))) _ _ hp] at n14; cases n14
      have M14 : ¬ (o14 = q) := fun e => by rw [e, (E1.tr (E2.tr (E3.tr (E4.tr (E5.tr (E6.tr (E7.tr (E8.tr (E9.tr (E10.tr (E11.tr (E12.tr E13)))))))))))) _ _ hq0] at n14; cases n14
      have F14' := (rm2_some N14 M14 F14)
      refine ⟨by show 9 ≤ sizeLine; decide, fun o15 n15 => ?_⟩
      have E15 : Ex G14 (upd G14 o15 (.lst [.non, (.int 1), (.ref o1), (.ref o2), (.ref o3), (.ref o4), (.ref o7), (.ref o10), (.ref o14)])) := Ex.nw n15
      have F15 : (upd G14 o15 (.lst [.non, (.int 1), (.ref o1), (.ref o2), (.ref o3), (.ref o4), (.ref o7), (.ref o10), (.ref o14)])) o15 = some (.lst [.non, (.int 1), (.ref o1), (.ref o2), (.ref o3), (.ref o4), (.ref o7), (.ref o10), (.ref o14)]) := upd_same
      generalize upd G14 o15 (.lst [.non, (.int 1), (.ref o1), (.ref o2), (.ref o3), (.ref o4), (.ref o7), (.ref o10), (.ref o14)]) = G15 at E15 F15
      have N15 : ¬ (o15 = p) := fun e => by rw [e, (E1.tr (E2.tr (E3.tr (E4.tr (E5.tr (E6.tr (E7.tr (E8.tr (E9.tr (E10.tr (E11.tr (E12.tr (E13.tr E14))))))))))))) _ _ hp] at n15; cases n15
      have M15 : ¬ (o15 = q) := fun e => by rw [e, (E1.tr (E2.tr (E3.tr (E4.tr (E5.tr (E6.tr (E7.tr (E8.tr (E9.tr (E10.tr (E11.tr (E12.tr (E13.tr E14))))))))))))) _ _ hq0] at n15; cases n15
      have F15' := (rm2_some N15 M15 F15)
      refine ⟨_, rfl, ?_⟩
      refine ⟨Nat.zero_le _, fun o16 n16 => ?_⟩
      have E16 : Ex G15 (upd G15 o16 (.lst [])) := Ex.nw n16
      have F16 : (upd G15 o16 (.lst [])) o16 = some (.lst []) := upd_same
      generalize upd G15 o16 (.lst []) = G16 at E16 F16
      have N16 : ¬ (o16 = p) := fun e => by rw [e, (E1.tr (E2.tr (E3.tr (E4.tr (E5.tr (E6.tr (E7.tr (E8.tr (E9.tr (E10.tr (E11.tr (E12.tr (E13.tr (E14.tr E15)))))))))))))) _ _ hp] at n16; cases n16
      have M16 : ¬ (o16 = q) := fun e => by rw [e, (E1.tr (E2.tr (E3.tr (E4.tr (E5.tr (E6.tr (E7.tr (E8.tr (E9.tr (E10.tr (E11.tr (E12.tr (E13.tr (E14.tr E15)))))))))))))) _ _ hq0] at n16; cases n16
      have F16' := (rm2_some N16 M16 F16)
      refine ⟨Nat.zero_le _, fun o17 n17 => ?_⟩
      have E17 : Ex G16 (upd G16 o17 (.lst [])) := Ex.nw n17
      have F17 : (upd G16 o17 (.lst [])) o17 = some (.lst []) := upd_same
      generalize upd G16 o17 (.lst []) = G17 at E17 F17
      have N17 : ¬ (o17 = p) := fun e => by rw [e, (E1.tr (E2.tr (E3.tr (E4.tr (E5.tr (E6.tr (E7.tr (E8.tr (E9.tr (E10.tr (E11.tr (E12.tr (E13.tr (E14.tr (E15.tr E16))))))))))))))) _ _ hp] at n17; cases n17
      have M17 : ¬ (o17 = q) := fun e => by rw [e, (E1.tr (E2.tr (E3.tr (E4.tr (E5.tr (E6.tr (E7.tr (E8.tr (E9.tr (E10.tr (E11.tr (E12.tr (E13.tr (E14.tr (E15.tr E16))))))))))))))) _ _ hq0] at n17; cases n17
      have F17' := (rm2_some N17 M17 F17)
      refine ⟨by show 3 ≤ sizeLine; decide, fun o18 n18 => ?_⟩
      have E18 : Ex G17 (upd G17 o18 (.tup [(.bl true), (.ref o16), (.ref o17)])) := Ex.nw n18
      have F18 : (upd G17 o18 (.tup [(.bl true), (.ref o16), (.ref o17)])) o18 = some (.tup [(.bl true), (.ref o16), (.ref o17)]) := upd_same
      generalize upd G17 o18 (.tup [(.bl true), (.ref o16), (.ref o17)]) = G18 at E18 F18
      have N18 : ¬ (o18 = p) := fun e => by rw [e, (E1.tr (E2.tr (E3.tr (E4.tr (E5.tr (E6.tr (E7.tr (E8.tr (E9.tr (E10.tr (E11.tr (E12.tr (E13.tr (E14.tr (E15.tr (E16.tr E17)))))))))))))))) _ _ hp] at n18; cases n18
      have M18 : ¬ (o18 = q) := fun e => by rw [e, (E1.tr (E2.tr (E3.tr (E4.tr (E5.tr (E6.tr (E7.tr (E8.tr (E9.tr (E10.tr (E11.tr (E12.tr (E13.tr (E14.tr (E15.tr (E16.tr E17)))))))))))))))) _ _ hq0] at n18; cases n18
      have F18' := (rm2_some N18 M18 F18)
      refine ⟨Nat.zero_le _, fun o19 n19 => ?_⟩
      have E19 : Ex G18 (upd G18 o19 (.lst [])) := Ex.nw n19
      have F19 : (upd G18 o19 (.lst [])) o19 = some (.lst []) := upd_same
      generalize upd G18 o19 (.lst []) = G19 at E19 F19
      have N19 : ¬ (o19 = p) := fun e => by rw [e, (E1.tr (E2.tr (E3.tr (E4.tr (E5.tr (E6.tr (E7.tr (E8.tr (E9.tr (E10.tr (E11.tr (E12.tr (E13.tr (E14.tr (E15.tr (E16.tr (E17.tr E18))))))))))))))))) _ _ hp] at n19; cases n19
      have M19 : ¬ (o19 = q) := fun e => by rw [e, (E1.tr (E2.tr (E3.tr (E4.tr (E5.tr (E6.tr (E7.tr (E8.tr (E9.tr (E10.tr (E11.tr (E12.tr (E13.tr (E14.tr (E15.tr (E16.tr (E17.tr E18))))))))))))))))) _ _ hq0] at n19; cases n19
      have F19' := (rm2_some N19 M19 F19)
      refine ⟨Nat.zero_le _, fun o20 n20 => ?_⟩
      have E20 : Ex G19 (upd G19 o20 (.lst [])) := Ex.nw n20
      have F20 : (upd G19 o20 (.lst [])) o20 = some (.lst []) := upd_same
      generalize upd G19 o20 (.lst []) = G20 at E20 F20
      have N20 : ¬ (o20 = p) := fun e => by rw [e, (E1.tr (E2.tr (E3.tr (E4.tr (E5.tr (E6.tr (E7.tr (E8.tr (E9.tr (E10.tr (E11.tr (E12.tr (E13.tr (E14.tr (E15.tr (E16.tr (E17.tr (E18.tr E19)))))))))))))))))) _ _ hp] at n20; cases n20
      have M20 : ¬ (o20 = q) := fun e => by rw [e, (E1.tr (E2.tr (E3.tr (E4.tr (E5.tr (E6.tr (E7.tr (E8.tr (E9.tr (E10.tr (E11.tr (E12.tr (E13.tr (E14.tr (E15.tr (E16.tr (E17.tr (E18.tr E19)))))))))))))))))) _ _ hq0] at n20; cases n20
      have F20' := (rm2_some N20 M20 F20)
      refine ⟨by show 1 ≤ sizeLine; decide, fun o21 n21 => ?_⟩
      have E21 : Ex G20 (upd G20 o21 (.lst [(.ref o20)])) := Ex.nw n21
      have F21 : (upd G20 o21 (.lst [(.ref o20)])) o21 = some (.lst [(.ref o20)]) := upd_same
      generalize upd G20 o21 (.lst [(.ref o20)]) = G21 at E21 F21
      have N21 : ¬ (o21 = p) := fun e => by rw [e, (E1.tr (E2.tr (E3.tr (E4.tr (E5.tr (E6.tr (E7.tr (E8.tr (E9.tr (E10.tr (E11.tr (E12.tr (E13.tr (E14.tr (E15.tr (E16.tr (E17.tr (E18.tr (E19.tr E20))))))))))))))))))) _ _ hp] at n21; cases n21
      have M21 : ¬ (o21 = q) := fun e => by rw [e, (E1.tr (E2.tr (E3.tr (E4.tr (E5.tr (E6.tr (E7.tr (E8.tr (E9.tr (E10.tr (E11.tr (E12.tr (E13.tr (E14.tr (E15.tr (E16.tr (E17.tr (E18.tr (E19.tr E20))))))))))))))))))) _ _ hq0] at n21; cases n21
      have F21' := (rm2_some N21 M21 F21)
      refine ⟨by show 3 ≤ sizeLine; decide, fun o22 n22 => ?_⟩
      have E22 : Ex G21 (upd G21 o22 (.tup [(.int 1), (.ref o19), (.ref o21)])) := Ex.nw n22
      have F22 : (upd G21 o22 (.tup [(.int 1), (.ref o19), (.ref o21)])) o22 = some (.tup [(.int 1), (.ref o19), (.ref o21)]) := upd_same
      generalize upd G21 o22 (.tup [(.int 1), (.ref o19), (.ref o21)]) = G22 at E22 F22
      have N22 : ¬ (o22 = p) := fun e => by rw [e, (E1.tr (E2.tr (E3.tr (E4.tr (E5.tr (E6.tr (E7.tr (E8.tr (E9.tr (E10.tr (E11.tr (E12.tr (E13.tr (E14.tr (E15.tr (E16.tr (E17.tr (E18.tr (E19.tr (E20.tr E21)))))))))))))))))))) _ _ hp] at n22; cases n22
      have M22 : ¬ (o22 = q) := fun e => by rw [e, (E1.tr (E2.tr (E3.tr (E4.tr (E5.tr (E6.tr (E7.tr (E8.tr (E9.tr (E10.tr (E11.tr (E12.tr (E13.tr (E14.tr (E15.tr (E16.tr (E17.tr (E18.tr (E19.tr (E20.tr E21)))))))))))))))))))) _ _ hq0] at n22; cases n22
      have F22' := (rm2_some N22 M22 F22)
      refine ⟨Nat.zero_le _, fun o23 n23 => ?_⟩
      have E23 : Ex G22 (upd G22 o23 (.lst [])) := Ex.nw n23
      have F23 : (upd G22 o23 (.lst [])) o23 = some (.lst []) := upd_same
      generalize upd G22 o23 (.lst []) = G23 at E23 F23
      have N23 : ¬ (o23 = p) := fun e => by rw [e, (E1.tr (E2.tr (E3.tr (E4.tr (E5.tr (E6.tr (E7.tr (E8.tr (E9.tr (E10.tr (E11.tr (E12.tr (E13.tr (E14.tr (E15.tr (E16.tr (E17.tr (E18.tr (E19.tr (E20.tr (E21.tr E22))))))))))))))))))))) _ _ hp] at n23; cases n23
      have M23 : ¬ (o23 = q) := fun e => by rw [e, (E1.tr (E2.tr (E3.tr (E4.tr (E5.tr (E6.tr (E7.tr (E8.tr (E9.tr (E10.tr (E11.tr (E12.tr (E13.tr (E14.tr (E15.tr (E16.tr (E17.tr (E18.tr (E19.tr (E20.tr (E21.tr E22))))))))))))))))))))) _ _ hq0] at n23; cases n23
      have F23' := (rm2_some N23 M23 F23)
      refine ⟨by show 1 ≤ sizeLine; decide, fun o24 n24 => ?_⟩
      have E24 : Ex G23 (upd G23 o24 (.lst [(.int 0)])) := Ex.nw n24
      have F24 : (upd G23 o24 (.lst [(.int 0)])) o24 = some (.lst [(.int 0)]) := upd_same
      generalize upd G23 o24 (.lst [(.int 0)]) = G24 at E24 F24
      have N24 : ¬ (o24 = p) := fun e => by rw [e, (E1.tr (E2.tr (E3.tr (E4.tr (E5.tr (E6.tr (E7.tr (E8.tr (E9.tr (E10.tr (E11.tr (E12.tr (E13.tr (E14.tr (E15.tr (E16.tr (E17.tr (E18.tr (E19.tr (E20.tr (E21.tr (E22.tr E23)))))))))))))))))))))) _ _ hp] at n24; cases n24
      have M24 : ¬ (o24 = q) := fun e => by rw [e, (E1.tr (E2.tr (E3.tr (E4.tr (E5.tr (E6.tr (E7.tr (E8.tr (E9.tr (E10.tr (E11.tr (E12.tr (E13.tr (E14.tr (E15.tr (E16.tr (E17.tr (E18.tr (E19.tr (E20.tr (E21.tr (E22.tr E23)))))))))))))))))))))) _ _ hq0] at n24; cases n24
      have F24' := (rm2_some N24 M24 F24)
      refine ⟨by show 1 ≤ sizeLine; decide, fun o25 n25 => ?_⟩
      have E25 : Ex G24 (upd G24 o25 (.lst [(.ref o24)])) := Ex.nw n25
      have F25 : (upd G24 o25 (.lst [(.ref o24)])) o25 = some (.lst [(.ref o24)]) := upd_same
      generalize upd G24 o25 (.lst [(.ref o24)]) = G25 at E25 F25
      have N25 : ¬ (o25 = p) := fun e => by rw [e, (E1.tr (E2.tr (E3.tr (E4.tr (E5.tr (E6.tr (E7.tr (E8.tr (E9.tr (E10.tr (E11.tr (E12.tr (E13.tr (E14.tr (E15.tr (E16.tr (E17.tr (E18.tr (E19.tr (E20.tr (E21.tr (E22.tr (E23.tr E24))))))))))))))))))))))) _ _ hp] at n25; cases n25
      have M25 : ¬ (o25 = q) := fun e => by rw [e, (E1.tr (E2.tr (E3.tr (E4.tr (E5.tr (E6.tr (E7.tr (E8.tr (E9.tr (E10.tr (E11.tr (E12.tr (E13.tr (E14.tr (E15.tr (E16.tr (E17.tr (E18.tr (E19.tr (E20.tr (E21.tr (E22.tr (E23.tr E24))))))))))))))))))))))) _ _ hq0] at n25; cases n25
      have F25' := (rm2_some N25 M25 F25)
      refine ⟨o25, 9, _, rfl, rfl, Ex.rfl _ _ F25, by decide, by decide, mil (by show 1 * 9 ≤ 1000000; decide), fun o26 n26 => ?_⟩
      rw [show ((List.replicate (9 : Int).toNat ([(.ref o24)] : List V)).flatten) = [(.ref o24), (.ref o24), (.ref o24), (.ref o24), (.ref o24), (.ref o24), (.ref o24), (.ref o24), (.ref o24)] from rfl]
      have E26 : Ex G25 (upd G25 o26 (.lst [(.ref o24), (.ref o24), (.ref o24), (.ref o24), (.ref o24), (.ref o24), (.ref o24), (.ref o24), (.ref o24)])) := Ex.nw n26
      have F26 : (upd G25 o26 (.lst [(.ref o24), (.ref o24), (.ref o24), (.ref o24), (.ref o24), (.ref o24), (.ref o24), (.ref o24), (.ref o24)])) o26 = some (.lst [(.ref o24), (.ref o24), (.ref o24), (.ref o24), (.ref o24), (.ref o24), (.ref o24), (.ref o24), (.ref o24)]) := upd_same
      generalize upd G25 o26 (.lst [(.ref o24), (.ref o24), (.ref o24), (.ref o24), (.ref o24), (.ref o24), (.ref o24), (.ref o24), (.ref o24)]) = G26 at E26 F26
      have N26 : ¬ (o26 = p) := fun e => by rw [e, (E1.tr (E2.tr (E3.tr (E4.tr (E5.tr (E6.tr (E7.tr (E8.tr (E9.tr (E10.tr (E11.tr (E12.tr (E13.tr (E14.tr (E15.tr (E16.tr (E17.tr (E18.tr (E19.tr (E20.tr (E21.tr (E22.tr (E23.tr (E24.tr E25)))))))))))))))))))))))) _ _ hp] at n26; cases n26
      have M26 : ¬ (o26 = q) := fun e => by rw [e, (E1.tr (E2.tr (E3.tr (E4.tr (E5.tr (E6.tr (E7.tr (E8.tr (E9.tr (E10.tr (E11.tr (E12.tr (E13.tr (E14.tr (E15.tr (E16.tr (E17.tr (E18.tr (E19.tr (E20.tr (E21.tr (E22.tr (E23.tr (E24.tr E25)))))))))))))))))))))))) _ _ hq0] at n26; cases n26
      have F26' := (rm2_some N26 M26 F26)
      refine ⟨by show 3 ≤ sizeLine; decide, fun o27 n27 => ?_⟩
      have E27 : Ex G26 (upd G26 o27 (.tup [(.int 1), (.ref o23), (.ref o26)])) := Ex.nw n27
      have F27 : (upd G26 o27 (.tup [(.int 1), (.ref o23), (.ref o26)])) o27 = some (.tup [(.int 1), (.ref o23), (.ref o26)]) := upd_same
      generalize upd G26 o27 (.tup [(.int 1), (.ref o23), (.ref o26)]) = G27 at E27 F27
      have N27 : ¬ (o27 = p) := fun e => by rw [e, (E1.tr (E2.tr (E3.tr (E4.tr (E5.tr (E6.tr (E7.tr (E8.tr (E9.tr (E10.tr (E11.tr (E12.tr (E13.tr (E14.tr (E15.tr (E16.tr (E17.tr (E18.tr (E19.tr (E20.tr (E21.tr (E22.tr (E23.tr (E24.tr (E25.tr E26))))))))))))))))))))))))) _ _ hp] at n27; cases n27
      have M27 : ¬ (o27 = q) := fun e => by rw [e, (E1.tr (E2.tr (E3.tr (E4.tr (E5.tr (E6.tr (E7.tr (E8.tr (E9.tr (E10.tr (E11.tr (E12.tr (E13.tr (E14.tr (E15.tr (E16.tr (E17.tr (E18.tr (E19.tr (E20.tr (E21.tr (E22.tr (E23.tr (E24.tr (E25.tr E26))))))))))))))))))))))))) _ _ hq0] at n27; cases n27
      have F27' := (rm2_some N27 M27 F27)
      refine fun o28 n28 => ?_
      have E28 : Ex G27 (upd G27 o28 (.dK [])) := Ex.nw n28
      have F28 : (upd G27 o28 (.dK [])) o28 = some (.dK []) := upd_same
      generalize upd G27 o28 (.dK []) = G28 at E28 F28
      have N28 : ¬ (o28 = p) := fun e => by rw [e, (E1.tr (E2.tr (E3.tr (E4.tr (E5.tr (E6.tr (E7.tr (E8.tr (E9.tr (E10.tr (E11.tr (E12.tr (E13.tr (E14.tr (E15.tr (E16.tr (E17.tr (E18.tr (E19.tr (E20.tr (E21.tr (E22.tr (E23.tr (E24.tr (E25.tr (E26.tr E27)))))))))))))))))))))))))) _ _ hp] at n28; cases n28
      have M28 : ¬ (o28 = q) := fun e => by rw [e, (E1.tr (E2.tr (E3.tr (E4.tr (E5.tr (E6.tr (E7.tr (E8.tr (E9.tr (E10.tr (E11.tr (E12.tr (E13.tr (E14.tr (E15.tr (E16.tr (E17.tr (E18.tr (E19.tr (E20.tr (E21.tr (E22.tr (E23.tr (E24.tr (E25.tr (E26.tr E27)))))))))))))))))))))))))) _ _ hq0] at n28; cases n28
      have F28' := (rm2_some N28 M28 F28)
      refine ⟨by show 5 ≤ sizeLine; decide, fun o29 n29 => ?_⟩
      have E29 : Ex G28 (upd G28 o29 (.lst [(.ref o18), (.ref o22), (.ref o27), (.str "1; -; -"), (.ref o28)])) := Ex.nw n29
      have F29 : (upd G28 o29 (.lst [(.ref o18), (.ref o22), (.ref o27), (.str "1; -; -"), (.ref o28)])) o29 = some (.lst [(.ref o18), (.ref o22), (.ref o27), (.str "1; -; -"), (.ref o28)]) := upd_same
      generalize upd G28 o29 (.lst [(.ref o18), (.ref o22), (.ref o27), (.str "1; -; -"), (.ref o28)]) = G29 at E29 F29
      have N29 : ¬ (o29 = p) := fun e => by rw [e, (E1.tr (E2.tr (E3.tr (E4.tr (E5.tr (E6.tr (E7.tr (E8.tr (E9.tr (E10.tr (E11.tr (E12.tr (E13.tr (E14.tr (E15.tr (E16.tr (E17.tr (E18.tr (E19.tr (E20.tr (E21.tr (E22.tr (E23.tr (E24.tr (E25.tr (E26.tr (E27.tr E28))))))))))))))))))))))))))) _ _ hp] at n29; cases n29
      have M29 : ¬ (o29 = q) := fun e => by rw [e, (E1.tr (E2.tr (E3.tr (E4.tr (E5.tr (E6.tr (E7.tr (E8.tr (E9.tr (E10.tr (E11.tr (E12.tr (E13.tr (E14.tr (E15.tr (E16.tr (E17.tr (E18.tr (E19.tr (E20.tr (E21.tr (E22.tr (E23.tr (E24.tr (E25.tr (E26.tr (E27.tr E28))))))))))))))))))))))))))) _ _ hq0] at n29; cases n29
      have F29' := (rm2_some N29 M29 F29)
      refine ⟨o15, o29, _, _, rfl, rfl, (.inl (.inl ((E16.tr (E17.tr (E18.tr (E19.tr (E20.tr (E21.tr (E22.tr (E23.tr (E24.tr (E25.tr (E26.tr (E27.tr (E28.tr E29))))))))))))) _ _ F15))), (.inl (.inl (Ex.rfl _ _ F29))), by show 9 + 5 ≤ 1000000; decide, fun o30 n30 => ?_⟩
      rw [show ([.non, (.int 1), (.ref o1), (.ref o2), (.ref o3), (.ref o4), (.ref o7), (.ref o10), (.ref o14)] ++ [(.ref o18), (.ref o22), (.ref o27), (.str "1; -; -"), (.ref o28)] : List V) = [.non, (.int 1), (.ref o1), (.ref o2), (.ref o3), (.ref o4), (.ref o7), (.ref o10), (.ref o14), (.ref o18), (.ref o22), (.ref o27), (.str "1; -; -"), (.ref o28)] from rfl]
      have E30 : Ex G29 (upd G29 o30 (.lst [.non, (.int 1), (.ref o1), (.ref o2), (.ref o3), (.ref o4), (.ref o7), (.ref o10), (.ref o14), (.ref o18), (.ref o22), (.ref o27), (.str "1; -; -"), (.ref o28)])) := Ex.nw n30
      have F30 : (upd G29 o30 (.lst [.non, (.int 1), (.ref o1), (.ref o2), (.ref o3), (.ref o4), (.ref o7), (.ref o10), (.ref o14), (.ref o18), (.ref o22), (.ref o27), (.str "1; -; -"), (.ref o28)])) o30 = some (.lst [.non, (.int 1), (.ref o1), (.ref o2), (.ref o3), (.ref o4), (.ref o7), (.ref o10), (.ref o14), (.ref o18), (.ref o22), (.ref o27), (.str "1; -; -"), (.ref o28)]) := upd_same
      generalize upd G29 o30 (.lst [.non, (.int 1), (.ref o1), (.ref o2), (.ref o3), (.ref o4), (.ref o7), (.ref o10), (.ref o14), (.ref o18), (.ref o22), (.ref o27), (.str "1; -; -"), (.ref o28)]) = G30 at E30 F30
      have N30 : ¬ (o30 = p) := fun e => by rw [e, (E1.tr (E2.tr (E3.tr (E4.tr (E5.tr (E6.tr (E7.tr (E8.tr (E9.tr (E10.tr (E11.tr (E12.tr (E13.tr (E14.tr (E15.tr (E16.tr (E17.tr (E18.tr (E19.tr (E20.tr (E21.tr (E22.tr (E23.tr (E24.tr (E25.tr (E26.tr (E27.tr (E28.tr E29)))))))))))))))))))))))))))) _ _ hp] at n30; cases n30
      have M30 : ¬ (o30 = q) := fun e => by rw [e, (E1.tr (E2.tr (E3.tr (E4.tr (E5.tr (E6.tr (E7.tr (E8.tr (E9.tr (E10.tr (E11.tr (E12.tr (E13.tr (E14.tr (E15.tr (E16.tr (E17.tr (E18.tr (E19.tr (E20.tr (E21.tr (E22.tr (E23.tr (E24.tr (E25.tr (E26.tr (E27.tr (E28.tr E29)))))))))))))))))))))))))))) _ _ hq0] at n30; cases n30
      have F30' := (rm2_some N30 M30 F30)
      have p0 : ∃ d, Da K (rm2 G30 p q) d .non ∧ Sh 41 40000 40 d ∧ BadT u 0 d := ⟨.none, rfl, (shB_sh (by decide +kernel)), by show webB _ = false; decide +kernel⟩
      have p1 : ∃ d, Da K (rm2 G30 p q) d (.int 1) ∧ Sh 41 40000 40 d ∧ BadT u 0 d := ⟨(.int 1), rfl, (shB_sh (by decide +kernel)), by show webB _ = false; decide +kernel⟩
      have p2 : ∃ d, Da K (rm2 G30 p q) d (.ref o1) ∧ Sh 41 40000 40 d ∧ BadT u 0 d := ⟨(.list []), ⟨o1, _, rfl, (rm2_ex (p := p) (q := q) (E2.tr (E3.tr (E4.tr (E5.tr (E6.tr (E7.tr (E8.tr (E9.tr (E10.tr (E11.tr (E12.tr (E13.tr (E14.tr (E15.tr (E16.tr (E17.tr (E18.tr (E19.tr (E20.tr (E21.tr (E22.tr (E23.tr (E24.tr (E25.tr (E26.tr (E27.tr (E28.tr (E29.tr E30))))))))))))))))))))))))))))) _ _ F1', rfl, by show 0 ≤ 100000; decide⟩, (shB_sh (by decide +kernel)), by show webB _ = false; decide +kernel⟩
      have p3 : ∃ d, Da K (rm2 G30 p q) d (.ref o2) ∧ Sh 41 40000 40 d ∧ BadT u 0 d := ⟨(.tuple []), ⟨o2, _, rfl, (rm2_ex (p := p) (q := q) (E3.tr (E4.tr (E5.tr (E6.tr (E7.tr (E8.tr (E9.tr (E10.tr (E11.tr (E12.tr (E13.tr (E14.tr (E15.tr (E16.tr (E17.tr (E18.tr (E19.tr (E20.tr (E21.tr (E22.tr (E23.tr (E24.tr (E25.tr (E26.tr (E27.tr (E28.tr (E29.tr E30)))))))))))))))))))))))))))) _ _ F2', rfl⟩, (shB_sh (by decide +kernel)), by show webB _ = false; decide +kernel⟩
      have p4 : ∃ d, Da K (rm2 G30 p q) d (.ref o3) ∧ Sh 41 40000 40 d ∧ BadT u 0 d := ⟨(.list [.int u.n, dPairs u.ps, dRows u.ns]), ⟨o3, _, rfl, (rm2_ex (p := p) (q := q) (E4.tr (E5.tr (E6.tr (E7.tr (E8.tr (E9.tr (E10.tr (E11.tr (E12.tr (E13.tr (E14.tr (E15.tr (E16.tr (E17.tr (E18.tr (E19.tr (E20.tr (E21.tr (E22.tr (E23.tr (E24.tr (E25.tr (E26.tr (E27.tr (E28.tr (E29.tr E30))))))))))))))))))))))))))) _ _ F3', ⟨_, _, rfl, rfl, _, _, rfl, g2'.up (rm2_ex (p := p) (q := q) (E1.tr (E2.tr (E3.tr (E4.tr (E5.tr (E6.tr (E7.tr (E8.tr (E9.tr (E10.tr (E11.tr (E12.tr (E13.tr (E14.tr (E15.tr (E16.tr (E17.tr (E18.tr (E19.tr (E20.tr (E21.tr (E22.tr (E23.tr (E24.tr (E25.tr (E26.tr (E27.tr (E28.tr (E29.tr E30)))))))))))))))))))))))))))))), _, _, rfl, g3'.up (rm2_ex (p := p) (q := q) (E1.tr (E2.tr (E3.tr (E4.tr (E5.tr (E6.tr (E7.tr (E8.tr (E9.tr (E10.tr (E11.tr (E12.tr (E13.tr (E14.tr (E15.tr (E16.tr (E17.tr (E18.tr (E19.tr (E20.tr (E21.tr (E22.tr (E23.tr (E24.tr (E25.tr (E26.tr (E27.tr (E28.tr (E29.tr E30)))))))))))))))))))))))))))))), rfl⟩, by show 3 ≤ 100000; decide⟩, (lstSh (hu.sh.wide (by omega) (by omega))), rfl⟩
      have p5 : ∃ d, Da K (rm2 G30 p q) d (.ref o4) ∧ Sh 41 40000 40 d ∧ BadT u 0 d := ⟨(.tuple [.int u.n, dPairs u.ps]), ⟨o4, _, rfl, (rm2_ex (p := p) (q := q) (E5.tr (E6.tr (E7.tr (E8.tr (E9.tr (E10.tr (E11.tr (E12.tr (E13.tr (E14.tr (E15.tr (E16.tr (E17.tr (E18.tr (E19.tr (E20.tr (E21.tr (E22.tr (E23.tr (E24.tr (E25.tr (E26.tr (E27.tr (E28.tr (E29.tr E30)))))))))))))))))))))))))) _ _ F4', ⟨_, _, rfl, rfl, _, _, rfl, g2'.up (rm2_ex (p := p) (q := q) (E1.tr (E2.tr (E3.tr (E4.tr (E5.tr (E6.tr (E7.tr (E8.tr (E9.tr (E10.tr (E11.tr (E12.tr (E13.tr (E14.tr (E15.tr (E16.tr (E17.tr (E18.tr (E19.tr (E20.tr (E21.tr (E22.tr (E23.tr (E24.tr (E25.tr (E26.tr (E27.tr (E28.tr (E29.tr E30)))))))))))))))))))))))))))))), rfl⟩⟩, (twoSh (hu.sh.wide (by omega) (by omega))), rfl⟩
      have p6 : ∃ d, Da K (rm2 G30 p q) d (.ref o7) ∧ Sh 41 40000 40 d ∧ BadT u 0 d := ⟨(.tuple [(.int 0), (.list []), (.list [])]), ⟨o7, _, rfl, (rm2_ex (p := p) (q := q) (E8.tr (E9.tr (E10.tr (E11.tr (E12.tr (E13.tr (E14.tr (E15.tr (E16.tr (E17.tr (E18.tr (E19.tr (E20.tr (E21.tr (E22.tr (E23.tr (E24.tr (E25.tr (E26.tr (E27.tr (E28.tr (E29.tr E30))))))))))))))))))))))) _ _ F7', ⟨_, _, rfl, rfl, ⟨_, _, rfl, ⟨o5, _, rfl, (rm2_ex (p := p) (q := q) (E6.tr (E7.tr (E8.tr (E9.tr (E10.tr (E11.tr (E12.tr (E13.tr (E14.tr (E15.tr (E16.tr (E17.tr (E18.tr (E19.tr (E20.tr (E21.tr (E22.tr (E23.tr (E24.tr (E25.tr (E26.tr (E27.tr (E28.tr (E29.tr E30))))))))))))))))))))))))) _ _ F5', rfl, by show 0 ≤ 100000; decide⟩, ⟨_, _, rfl, ⟨o6, _, rfl, (rm2_ex (p := p) (q := q) (E7.tr (E8.tr (E9.tr (E10.tr (E11.tr (E12.tr (E13.tr (E14.tr (E15.tr (E16.tr (E17.tr (E18.tr (E19.tr (E20.tr (E21.tr (E22.tr (E23.tr (E24.tr (E25.tr (E26.tr (E27.tr (E28.tr (E29.tr E30)))))))))))))))))))))))) _ _ F6', rfl, by show 0 ≤ 100000; decide⟩, rfl⟩⟩⟩⟩, (shB_sh (by decide +kernel)), by show webB _ = false; decide +kernel⟩
      have p7 : ∃ d, Da K (rm2 G30 p q) d (.ref o10) ∧ Sh 41 40000 40 d ∧ BadT u 0 d := ⟨(.tuple [(.int 21), (.list []), (.list [])]), ⟨o10, _, rfl, (rm2_ex (p := p) (q := q) (E11.tr (E12.tr (E13.tr (E14.tr (E15.tr (E16.tr (E17.tr (E18.tr (E19.tr (E20.tr (E21.tr (E22.tr (E23.tr (E24.tr (E25.tr (E26.tr (E27.tr (E28.tr (E29.tr E30)))))))))))))))))))) _ _ F10', ⟨_, _, rfl, rfl, ⟨_, _, rfl, ⟨o8, _, rfl, (rm2_ex (p := p) (q := q) (E9.tr (E10.tr (E11.tr (E12.tr (E13.tr (E14.tr (E15.tr (E16.tr (E17.tr (E18.tr (E19.tr (E20.tr (E21.tr (E22.tr (E23.tr (E24.tr (E25.tr (E26.tr (E27.tr (E28.tr (E29.tr E30)))))))))))))))))))))) _ _ F8', rfl, by show 0 ≤ 100000; decide⟩, ⟨_, _, rfl, ⟨o9, _, rfl, (rm2_ex (p := p) (q := q) (E10.tr (E11.tr (E12.tr (E13.tr (E14.tr (E15.tr (E16.tr (E17.tr (E18.tr (E19.tr (E20.tr (E21.tr (E22.tr (E23.tr (E24.tr (E25.tr (E26.tr (E27.tr (E28.tr (E29.tr E30))))))))))))))))))))) _ _ F9', rfl, by show 0 ≤ 100000; decide⟩, rfl⟩⟩⟩⟩, (shB_sh (by decide +kernel)), by show webB _ = false; decide +kernel⟩
      have p8 : ∃ d, Da K (rm2 G30 p q) d (.ref o14) ∧ Sh 41 40000 40 d ∧ BadT u 0 d := ⟨(.tuple [(.int 1), (.list [(.tuple [(.int 0), (.int 1)])]), (.list [])]), ⟨o14, _, rfl, (rm2_ex (p := p) (q := q) (E15.tr (E16.tr (E17.tr (E18.tr (E19.tr (E20.tr (E21.tr (E22.tr (E23.tr (E24.tr (E25.tr (E26.tr (E27.tr (E28.tr (E29.tr E30)))))))))))))))) _ _ F14', ⟨_, _, rfl, rfl, ⟨_, _, rfl, ⟨o12, _, rfl, (rm2_ex (p := p) (q := q) (E13.tr (E14.tr (E15.tr (E16.tr (E17.tr (E18.tr (E19.tr (E20.tr (E21.tr (E22.tr (E23.tr (E24.tr (E25.tr (E26.tr (E27.tr (E28.tr (E29.tr E30)))))))))))))))))) _ _ F12', ⟨_, _, rfl, ⟨o11, _, rfl, (rm2_ex (p := p) (q := q) (E12.tr (E13.tr (E14.tr (E15.tr (E16.tr (E17.tr (E18.tr (E19.tr (E20.tr (E21.tr (E22.tr (E23.tr (E24.tr (E25.tr (E26.tr (E27.tr (E28.tr (E29.tr E30))))))))))))))))))) _ _ F11', ⟨_, _, rfl, rfl, ⟨_, _, rfl, rfl, rfl⟩⟩⟩, rfl⟩, by show 1 ≤ 100000; decide⟩, ⟨_, _, rfl, ⟨o13, _, rfl, (rm2_ex (p := p) (q := q) (E14.tr (E15.tr (E16.tr (E17.tr (E18.tr (E19.tr (E20.tr (E21.tr (E22.tr (E23.tr (E24.tr (E25.tr (E26.tr (E27.tr (E28.tr (E29.tr E30))))))))))))))))) _ _ F13', rfl, by show 0 ≤ 100000; decide⟩, rfl⟩⟩⟩⟩, (shB_sh (by decide +kernel)), by show webB _ = false; decide +kernel⟩
      have p9 : ∃ d, Da K (rm2 G30 p q) d (.ref o18) ∧ Sh 41 40000 40 d ∧ BadT u 0 d := ⟨(.tuple [(.bool true), (.list []), (.list [])]), ⟨o18, _, rfl, (rm2_ex (p := p) (q := q) (E19.tr (E20.tr (E21.tr (E22.tr (E23.tr (E24.tr (E25.tr (E26.tr (E27.tr (E28.tr (E29.tr E30)))))))))))) _ _ F18', ⟨_, _, rfl, rfl, ⟨_, _, rfl, ⟨o16, _, rfl, (rm2_ex (p := p) (q := q) (E17.tr (E18.tr (E19.tr (E20.tr (E21.tr (E22.tr (E23.tr (E24.tr (E25.tr (E26.tr (E27.tr (E28.tr (E29.tr E30)))))))))))))) _ _ F16', rfl, by show 0 ≤ 100000; decide⟩, ⟨_, _, rfl, ⟨o17, _, rfl, (rm2_ex (p := p) (q := q) (E18.tr (E19.tr (E20.tr (E21.tr (E22.tr (E23.tr (E24.tr (E25.tr (E26.tr (E27.tr (E28.tr (E29.tr E30))))))))))))) _ _ F17', rfl, by show 0 ≤ 100000; decide⟩, rfl⟩⟩⟩⟩, (shB_sh (by decide +kernel)), by show webB _ = false; decide +kernel⟩
      have p10 : ∃ d, Da K (rm2 G30 p q) d (.ref o22) ∧ Sh 41 40000 40 d ∧ BadT u 0 d := ⟨(.tuple [(.int 1), (.list []), (.list [(.list [])])]), ⟨o22, _, rfl, (rm2_ex (p := p) (q := q) (E23.tr (E24.tr (E25.tr (E26.tr (E27.tr (E28.tr (E29.tr E30)))))))) _ _ F22', ⟨_, _, rfl, rfl, ⟨_, _, rfl, ⟨o19, _, rfl, (rm2_ex (p := p) (q := q) (E20.tr (E21.tr (E22.tr (E23.tr (E24.tr (E25.tr (E26.tr (E27.tr (E28.tr (E29.tr E30))))))))))) _ _ F19', rfl, by show 0 ≤ 100000; decide⟩, ⟨_, _, rfl, ⟨o21, _, rfl, (rm2_ex (p := p) (q := q) (E22.tr (E23.tr (E24.tr (E25.tr (E26.tr (E27.tr (E28.tr (E29.tr E30))))))))) _ _ F21', ⟨_, _, rfl, ⟨o20, _, rfl, (rm2_ex (p := p) (q := q) (E21.tr (E22.tr (E23.tr (E24.tr (E25.tr (E26.tr (E27.tr (E28.tr (E29.tr E30)))))))))) _ _ F20', rfl, by show 0 ≤ 100000; decide⟩, rfl⟩, by show 1 ≤ 100000; decide⟩, rfl⟩⟩⟩⟩, (shB_sh (by decide +kernel)), by show webB _ = false; decide +kernel⟩
      have p11 : ∃ d, Da K (rm2 G30 p q) d (.ref o27) ∧ Sh 41 40000 40 d ∧ BadT u 0 d := ⟨(.tuple [(.int 1), (.list []), (.list [(.list [(.int 0)]), (.list [(.int 0)]), (.list [(.int 0)]), (.list [(.int 0)]), (.list [(.int 0)]), (.list [(.int 0)]), (.list [(.int 0)]), (.list [(.int 0)]), (.list [(.int 0)])])]), ⟨o27, _, rfl, (rm2_ex (p := p) (q := q) (E28.tr (E29.tr E30))) _ _ F27', ⟨_, _, rfl, rfl, ⟨_, _, rfl, ⟨o23, _, rfl, (rm2_ex (p := p) (q := q) (E24.tr (E25.tr (E26.tr (E27.tr (E28.tr (E29.tr E30))))))) _ _ F23', rfl, by show 0 ≤ 100000; decide⟩, ⟨_, _, rfl, ⟨o26, _, rfl, (rm2_ex (p := p) (q := q) (E27.tr (E28.tr (E29.tr E30)))) _ _ F26', ⟨_, _, rfl, ⟨o24, _, rfl, (rm2_ex (p := p) (q := q) (E25.tr (E26.tr (E27.tr (E28.tr (E29.tr E30)))))) _ _ F24', ⟨_, _, rfl, rfl, rfl⟩, by show 1 ≤ 100000; decide⟩, ⟨_, _, rfl, ⟨o24, _, rfl, (rm2_ex (p := p) (q := q) (E25.tr (E26.tr (E27.tr (E28.tr (E29.tr E30)))))) _ _ F24', ⟨_, _, rfl, rfl, rfl⟩, by show 1 ≤ 100000; decide⟩, ⟨_, _, rfl, ⟨o24, _, rfl, (rm2_ex (p := p) (q := q) (E25.tr (E26.tr (E27.tr (E28.tr (E29.tr E30)))))) _ _ F24', ⟨_, _, rfl, rfl, rfl⟩, by show 1 ≤ 100000; decide⟩, ⟨_, _, rfl, ⟨o24, _, rfl, (rm2_ex (p := p) (q := q) (E25.tr (E26.tr (E27.tr (E28.tr (E29.tr E30)))))) _ _ F24', ⟨_, _, rfl, rfl, rfl⟩, by show 1 ≤ 100000; decide⟩, ⟨_, _, rfl, ⟨o24, _, rfl, (rm2_ex (p := p) (q := q) (E25.tr (E26.tr (E27.tr (E28.tr (E29.tr E30)))))) _ _ F24', ⟨_, _, rfl, rfl, rfl⟩, by show 1 ≤ 100000; decide⟩, ⟨_, _, rfl, ⟨o24, _, rfl, (rm2_ex (p := p) (q := q) (E25.tr (E26.tr (E27.tr (E28.tr (E29.tr E30)))))) _ _ F24', ⟨_, _, rfl, rfl, rfl⟩, by show 1 ≤ 100000; decide⟩, ⟨_, _, rfl, ⟨o24, _, rfl, (rm2_ex (p := p) (q := q) (E25.tr (E26.tr (E27.tr (E28.tr (E29.tr E30)))))) _ _ F24', ⟨_, _, rfl, rfl, rfl⟩, by show 1 ≤ 100000; decide⟩, ⟨_, _, rfl, ⟨o24, _, rfl, (rm2_ex (p := p) (q := q) (E25.tr (E26.tr (E27.tr (E28.tr (E29.tr E30)))))) _ _ F24', ⟨_, _, rfl, rfl, rfl⟩, by show 1 ≤ 100000; decide⟩, ⟨_, _, rfl, ⟨o24, _, rfl, (rm2_ex (p := p) (q := q) (E25.tr (E26.tr (E27.tr (E28.tr (E29.tr E30)))))) _ _ F24', ⟨_, _, rfl, rfl, rfl⟩, by show 1 ≤ 100000; decide⟩, rfl⟩⟩⟩⟩⟩⟩⟩⟩⟩, by show 9 ≤ 100000; decide⟩, rfl⟩⟩⟩⟩, (shB_sh (by decide +kernel)), by show webB _ = false; decide +kernel⟩
      have p12 : ∃ d, Da K (rm2 G30 p q) d (.str "1; -; -") ∧ Sh 41 40000 40 d ∧ BadT u 0 d := ⟨(.str "1; -; -"), rfl, (shB_sh (by decide +kernel)), by show webB _ = false; decide +kernel⟩
      have p13 : ∃ d, Da K (rm2 G30 p q) d (.ref o28) ∧ Sh 41 40000 40 d ∧ BadT u 0 d := ⟨(.dict []), ⟨o28, [], rfl, (rm2_ex (p := p) (q := q) (E29.tr E30)) _ _ F28', rfl, rfl⟩, (shB_sh (by decide +kernel)), by show webB _ = false; decide +kernel⟩
      exact qq _ _ _ (E1.tr (E2.tr (E3.tr (E4.tr (E5.tr (E6.tr (E7.tr (E8.tr (E9.tr (E10.tr (E11.tr (E12.tr (E13.tr (E14.tr (E15.tr (E16.tr (E17.tr (E18.tr (E19.tr (E20.tr (E21.tr (E22.tr (E23.tr (E24.tr (E25.tr (E26.tr (E27.tr (E28.tr (E29.tr E30))))))))))))))))))))))))))))) F30' ⟨by show 1 ≤ 14; decide, by show 14 ≤ 20; decide⟩ ⟨p0, p1, p2, p3, p4, p5, p6, p7, p8, p9, p10, p11, p12, p13, trivial⟩
    · refine ⟨_, rfl, rfl, false, congrArg V.bl (by decide +kernel), ite2 (fun h => Bool.noConfusion h) (fun _ => ?_)⟩
      refine ⟨_, rfl, rfl, true, congrArg V.bl (by decide +kernel), ite2 (fun _ => ?_) (fun h => absurd rfl h)⟩
      exact ⟨_, rfl, _, rfl, _, _, rfl, rfl, u.n + (u.ns.length : Int), p, q, _, _, rfl, hp, hq0, by omega, fun R ys H1 e h1 h2 h3 => qq R ys H1 e h1 (by omega) h3⟩
    · refine ⟨_, rfl, rfl, false, congrArg V.bl (by decide +kernel), ite2 (fun h => Bool.noConfusion h) (fun _ => ?_)⟩
      refine ⟨_, rfl, rfl, false, congrArg V.bl (by decide +kernel), ite2 (fun h => Bool.noConfusion h) (fun _ => ?_)⟩
      refine ⟨_, rfl, rfl, true, congrArg V.bl (by decide +kernel), ite2 (fun _ => ?_) (fun h => absurd rfl h)⟩
      exact ⟨_, rfl, u.n, p, q, _, _, rfl, hp, hq0, by omega, fun R ys H1 e h1 h2 h3 => qq R ys H1 e h1 (by omega) h3⟩
    · refine ⟨_, rfl, rfl, false, congrArg V.bl (by decide +kernel), ite2 (fun h => Bool.noConfusion h) (fun _ => ?_)⟩
      refine ⟨_, rfl, rfl, false, congrArg V.bl (by decide +kernel), ite2 (fun h => Bool.noConfusion h) (fun _ => ?_)⟩
      refine ⟨_, rfl, rfl, false, congrArg V.bl (by decide +kernel), ite2 (fun h => Bool.noConfusion h) (fun _ => ?_)⟩
      refine ⟨_, rfl, rfl, false, congrArg V.bl (by decide +kernel), ite2 (fun h => Bool.noConfusion h) (fun _ => ?_)⟩
      refine ⟨_, rfl, u.n, rfl, RgOk.of_le (by omega) (by omega) (by omega) (by omega), fun o0 n0 => ?_⟩
      rw [rgV_iota]
      have E0 : Ex H (upd H o0 (.lst ((iota u.n).map V.int))) := Ex.nw n0
      have F0 : (upd H o0 (.lst ((iota u.n).map V.int))) o0 = some (.lst ((iota u.n).map V.int)) := upd_same
      generalize upd H o0 (.lst ((iota u.n).map V.int)) = G0 at E0 F0
      have N0 : ¬ (o0 = p) := fun e => by rw [e, Ex.rfl _ _ hp] at n0; cases n0
      have M0 : ¬ (o0 = q) := fun e => by rw [e, Ex.rfl _ _ hq0] at n0; cases n0
      have F0' := (rm2_some N0 M0 F0)
      refine ⟨_, rfl, rfl, true, congrArg V.bl (by decide +kernel), ite2 (fun _ => ?_) (fun h => absurd rfl h)⟩
      refine ⟨Nat.zero_le _, fun o1 n1 => ?_⟩
      have E1 : Ex G0 (upd G0 o1 (.lst [])) := Ex.nw n1
      have F1 : (upd G0 o1 (.lst [])) o1 = some (.lst []) := upd_same
      generalize upd G0 o1 (.lst []) = G1 at E1 F1
      have N1 : ¬ (o1 = p) := fun e => by rw [e, E0 _ _ hp] at n1; cases n1
      have M1 : ¬ (o1 = q) := fun e => by rw [e, E0 _ _ hq0] at n1; cases n1
      have F1' := (rm2_some N1 M1 F1)
      refine ⟨by show 1 ≤ sizeLine; decide, fun o2 n2 => ?_⟩
      have E2 : Ex G1 (upd G1 o2 (.tup [(.int 0)])) := Ex.nw n2
      have F2 : (upd G1 o2 (.tup [(.int 0)])) o2 = some (.tup [(.int 0)]) := upd_same
      generalize upd G1 o2 (.tup [(.int 0)]) = G2 at E2 F2
      have N2 : ¬ (o2 = p) := fun e => by rw [e, (E0.tr E1) _ _ hp] at n2; cases n2
      have M2 : ¬ (o2 = q) := fun e => by rw [e, (E0.tr E1) _ _ hq0] at n2; cases n2
      have F2' := (rm2_some N2 M2 F2)
      refine ⟨by show 2 ≤ sizeLine; decide, fun o3 n3 => ?_⟩
      have E3 : Ex G2 (upd G2 o3 (.lst [(.int 0), (.int 0)])) := Ex.nw n3
      have F3 : (upd G2 o3 (.lst [(.int 0), (.int 0)])) o3 = some (.lst [(.int 0), (.int 0)]) := upd_same
      generalize upd G2 o3 (.lst [(.int 0), (.int 0)]) = G3 at E3 F3
      have N3 : ¬ (o3 = p) := fun e => by rw [e, (E0.tr (E1.tr E2)) _ _ hp] at n3; cases n3
      have M3 : ¬ (o3 = q) := fun e => by rw [e, (E0.tr (E1.tr E2)) _ _ hq0] at n3; cases n3
      have F3' := (rm2_some N3 M3 F3)
      refine ⟨_, rfl, by show 1 ≤ sizeLine; decide, fun o4 n4 => ?_⟩
      have E4 : Ex G3 (upd G3 o4 (.lst [(.int u.n)])) := Ex.nw n4
      have F4 : (upd G3 o4 (.lst [(.int u.n)])) o4 = some (.lst [(.int u.n)]) := upd_same
      generalize upd G3 o4 (.lst [(.int u.n)]) = G4 at E4 F4
      have N4 : ¬ (o4 = p) := fun e => by rw [e, (E0.tr (E1.tr (E2.tr E3))) _ _ hp] at n4; cases n4
      have M4 : ¬ (o4 = q) := fun e => by rw [e, (E0.tr (E1.tr (E2.tr E3))) _ _ hq0] at n4; cases n4
      have F4' := (rm2_some N4 M4 F4)
      refine ⟨1, rfl, by show 1 ≤ sizeLine; decide, fun o5 n5 => ?_⟩
      have E5 : Ex G4 (upd G4 o5 (.lst [(.int (-1))])) := Ex.nw n5
      have F5 : (upd G4 o5 (.lst [(.int (-1))])) o5 = some (.lst [(.int (-1))]) := upd_same
      generalize upd G4 o5 (.lst [(.int (-1))]) = G5 at E5 F5
      have N5 : ¬ (o5 = p) := fun e => by rw [e, (E0.tr (E1.tr (E2.tr (E3.tr E4)))) _ _ hp] at n5; cases n5
      have M5 : ¬ (o5 = q) := fun e => by rw [e, (E0.tr (E1.tr (E2.tr (E3.tr E4)))) _ _ hq0] at n5; cases n5
      have F5' := (rm2_some N5 M5 F5)
      refine ⟨by show 1 ≤ sizeLine; decide, fun o6 n6 => ?_⟩
      have E6 : Ex G5 (upd G5 o6 (.lst [(.bl true)])) := Ex.nw n6
      have F6 : (upd G5 o6 (.lst [(.bl true)])) o6 = some (.lst [(.bl true)]) := upd_same
      generalize upd G5 o6 (.lst [(.bl true)]) = G6 at E6 F6
      have N6 : ¬ (o6 = p) := fun e => by rw [e, (E0.tr (E1.tr (E2.tr (E3.tr (E4.tr E5))))) _ _ hp] at n6; cases n6
      have M6 : ¬ (o6 = q) := fun e => by rw [e, (E0.tr (E1.tr (E2.tr (E3.tr (E4.tr E5))))) _ _ hq0] at n6; cases n6
      have F6' := (rm2_some N6 M6 F6)
      refine ⟨by show 1 ≤ sizeLine; decide, fun o7 n7 => ?_⟩
      have E7 : Ex G6 (upd G6 o7 (.lst [(.str "0")])) := Ex.nw n7
      have F7 : (upd G6 o7 (.lst [(.str "0")])) o7 = some (.lst [(.str "0")]) := upd_same
      generalize upd G6 o7 (.lst [(.str "0")]) = G7 at E7 F7
      have N7 : ¬ (o7 = p) := fun e => by rw [e, (E0.tr (E1.tr (E2.tr (E3.tr (E4.tr (E5.tr E6)))))) _ _ hp] at n7; cases n7
      have M7 : ¬ (o7 = q) := fun e => by rw [e, (E0.tr (E1.tr (E2.tr (E3.tr (E4.tr (E5.tr E6)))))) _ _ hq0] at n7; cases n7
      have F7' := (rm2_some N7 M7 F7)
      refine fun o8 n8 => ?_
      have E8 : Ex G7 (upd G7 o8 (.dK [])) := Ex.nw n8
      have F8 : (upd G7 o8 (.dK [])) o8 = some (.dK []) := upd_same
      generalize upd G7 o8 (.dK []) = G8 at E8 F8
      have N8 : ¬ (o8 = p) := fun e => by rw [e, (E0.tr (E1.tr (E2.tr (E3.tr (E4.tr (E5.tr (E6.tr E7))))))) _ _ hp] at n8; cases n8
      have M8 : ¬ (o8 = q) := fun e => by rw [e, (E0.tr (E1.tr (E2.tr (E3.tr (E4.tr (E5.tr (E6.tr E7))))))) _ _ hq0] at n8; cases n8
      have F8' := (rm2_some N8 M8 F8)
      refine ⟨by show 1 ≤ sizeLine; decide, fun o9 n9 => ?_⟩
      have E9 : Ex G8 (upd G8 o9 (.lst [.non])) := Ex.nw n9
      have F9 : (upd G8 o9 (.lst [.non])) o9 = some (.lst [.non]) := upd_same
      generalize upd G8 o9 (.lst [.non]) = G9 at E9 F9
      have N9 : ¬ (o9 = p) := fun e => by rw [e, (E0.tr (E1.tr (E2.tr (E3.tr (E4.tr (E5.tr (E6.tr (E7.tr E8)))))))) _ _ hp] at n9; cases n9
      have M9 : ¬ (o9 = q) := fun e => by rw [e, (E0.tr (E1.tr (E2.tr (E3.tr (E4.tr (E5.tr (E6.tr (E7.tr E8)))))))) _ _ hq0] at n9; cases n9
      have F9' := (rm2_some N9 M9 F9)
      refine ⟨_, rfl, o0, _, rfl, (.inl (.inl ((E1.tr (E2.tr (E3.tr (E4.tr (E5.tr (E6.tr (E7.tr (E8.tr E9)))))))) _ _ F0))), fun o10 n10 => ?_⟩
      rw [← List.map_reverse]
      have E10 : Ex G9 (upd G9 o10 (.lst ((iota u.n).reverse.map V.int))) := Ex.nw n10
      have F10 : (upd G9 o10 (.lst ((iota u.n).reverse.map V.int))) o10 = some (.lst ((iota u.n).reverse.map V.int)) := upd_same
      generalize upd G9 o10 (.lst ((iota u.n).reverse.map V.int)) = G10 at E10 F10
      have N10 : ¬ (o10 = p) := fun e => by rw [e, (E0.tr (E1.tr (E2.tr (E3.tr (E4.tr (E5.tr (E6.tr (E7.tr (E8.tr E9))))))))) _ _ hp] at n10; cases n10
      have M10 : ¬ (o10 = q) := fun e => by rw [e, (E0.tr (E1.tr (E2.tr (E3.tr (E4.tr (E5.tr (E6.tr (E7.tr (E8.tr E9))))))))) _ _ hq0] at n10; cases n10
      have F10' := (rm2_some N10 M10 F10)
      refine ⟨by show 1 ≤ sizeLine; decide, fun o11 n11 => ?_⟩
      have E11 : Ex G10 (upd G10 o11 (.lst [(.int 0)])) := Ex.nw n11
      have F11 : (upd G10 o11 (.lst [(.int 0)])) o11 = some (.lst [(.int 0)]) := upd_same
      generalize upd G10 o11 (.lst [(.int 0)]) = G11 at E11 F11
      have N11 : ¬ (o11 = p) := fun e => by rw [e, (E0.tr (E1.tr (E2.tr (E3.tr (E4.tr (E5.tr (E6.tr (E7.tr (E8.tr (E9.tr E10)))))))))) _ _ hp] at n11; cases n11
      have M11 : ¬ (o11 = q) := fun e => by rw [e, (E0.tr (E1.tr (E2.tr (E3.tr (E4.tr (E5.tr (E6.tr (E7.tr (E8.tr (E9.tr E10)))))))))) _ _ hq0] at n11; cases n11
      have F11' := (rm2_some N11 M11 F11)
      refine ⟨o10, o11, _, _, rfl, rfl, (.inl (.inl (E11 _ _ F10))), (.inl (.inl (Ex.rfl _ _ F11))), by have := iota_len u.n; simp only [List.length_map, List.length_reverse, List.length_drop, List.length_cons, List.length_nil, List.length_range]; omega, fun o12 n12 => ?_⟩
      rw [show (((iota u.n).reverse.map V.int) ++ [.int 0] : List V) = ((iota u.n).reverse ++ [0]).map V.int from by rw [List.map_append]; rfl]
      have E12 : Ex G11 (upd G11 o12 (.lst (((iota u.n).reverse ++ [0]).map V.int))) := Ex.nw n12
      have F12 : (upd G11 o12 (.lst (((iota u.n).reverse ++ [0]).map V.int))) o12 = some (.lst (((iota u.n).reverse ++ [0]).map V.int)) := upd_same
      generalize upd G11 o12 (.lst (((iota u.n).reverse ++ [0]).map V.int)) = G12 at E12 F12
      have N12 : ¬ (o12 = p) := fun e => by rw [e, (E0.tr (E1.tr (E2.tr (E3.tr (E4.tr (E5.tr (E6.tr (E7.tr (E8.tr (E9.tr (E10.tr E11))))))))))) _ _ hp] at n12; cases n12
      have M12 : ¬ (o12 = q) := fun e => by rw [e, (E0.tr (E1.tr (E2.tr (E3.tr (E4.tr (E5.tr (E6.tr (E7.tr (E8.tr (E9.tr (E10.tr E11))))))))))) _ _ hq0] at n12; cases n12
      have F12' := (rm2_some N12 M12 F12)
      refine ⟨by show 1 ≤ sizeLine; decide, fun o13 n13 => ?_⟩
      have E13 : Ex G12 (upd G12 o13 (.lst [(.int 0)])) := Ex.nw n13
      have F13 : (upd G12 o13 (.lst [(.int 0)])) o13 = some (.lst [(.int 0)]) := upd_same
      generalize upd G12 o13 (.lst [(.int 0)]) = G13 at E13 F13
      have N13 : ¬ (o13 = p) := fun e => by rw [e, (E0.tr (E1.tr (E2.tr (E3.tr (E4.tr (E5.tr (E6.tr (E7.tr (E8.tr (E9.tr (E10.tr (E11.tr E12)))))))))))) _ _ hp] at n13; cases n13
      have M13 : ¬ (o13 = q) := fun e => by rw [e, (E0.tr (E1.tr (E2.tr (E3.tr (E4.tr (E5.tr (E6.tr (E7.tr (E8.tr (E9.tr (E10.tr (E11.tr E12)))))))))))) _ _ hq0] at n13; cases n13
      have F13' := (rm2_some N13 M13 F13)
      refine ⟨by show 1 ≤ sizeLine; decide, fun o14 n14 => ?_⟩
      have E14 : Ex G13 (upd G13 o14 (.lst [(.ref o13)])) := Ex.nw n14
      have F14 : (upd G13 o14 (.lst [(.ref o13)])) o14 = some (.lst [(.ref o13)]) := upd_same
      generalize upd G13 o14 (.lst [(.ref o13)]) = G14 at E14 F14
      have N14 : ¬ (o14 = p) := fun e => by rw [e, (E0.tr (E1.tr (E2.tr (E3.tr (E4.tr (E5.tr (E6.tr (E7.tr (E8.tr (E9.tr (E10.tr (E11.tr (E12.tr E13))))))))))))) _ _ hp] at n14; cases n14
      have M14 : ¬ (o14 = q) := fun e => by rw [e, (E0.tr (E1.tr (E2.tr (E3.tr (E4.tr (E5.tr (E6.tr (E7.tr (E8.tr (E9.tr (E10.tr (E11.tr (E12.tr E13))))))))))))) _ _ hq0] at n14; cases n14
      have F14' := (rm2_some N14 M14 F14)
      refine ⟨by show 13 ≤ sizeLine; decide, fun o15 n15 => ?_⟩
      have E15 : Ex G14 (upd G14 o15 (.lst [.non, (.ref o1), (.ref o2), (.ref o3), (.ref o4), (.ref o5), (.ref o6), (.ref o7), (.int 0), (.ref o8), (.ref o9), (.ref o12), (.ref o14)])) := Ex.nw n15
      have F15 : (upd G14 o15 (.lst [.non, (.ref o1), (.ref o2), (.ref o3), (.ref o4), (.ref o5), (.ref o6), (.ref o7), (.int 0), (.ref o8), (.ref o9), (.ref o12), (.ref o14)])) o15 = some (.lst [.non, (.ref o1), (.ref o2), (.ref o3), (.ref o4), (.ref o5), (.ref o6), (.ref o7), (.int 0), (.ref o8), (.ref o9), (.ref o12), (.ref o14)]) := upd_same
      generalize upd G14 o15 (.lst [.non, (.ref o1), (.ref o2), (.ref o3), (.ref o4), (.ref o5), (.ref o6), (.ref o7), (.int 0), (.ref o8), (.ref o9), (.ref o12), (.ref o14)]) = G15 at E15 F15
      have N15 : ¬ (o15 = p) := fun e => by rw [e, (E0.tr (E1.tr (E2.tr (E3.tr (E4.tr (E5.tr (E6.tr (E7.tr (E8.tr (E9.tr (E10.tr (E11.tr (E12.tr (E13.tr E14)))))))))))))) _ _ hp] at n15; cases n15
      have M15 : ¬ (o15 = q) := fun e => by rw [e, (E0.tr (E1.tr (E2.tr (E3.tr (E4.tr (E5.tr (E6.tr (E7.tr (E8.tr (E9.tr (E10.tr (E11.tr (E12.tr (E13.tr E14)))))))))))))) _ _ hq0] at n15; cases n15
      have F15' := (rm2_some N15 M15 F15)
      have p0 : ∃ d, Da K (rm2 G15 p q) d .non ∧ Sh 41 40000 40 d ∧ BadT u 3 d := ⟨.none, rfl, (shB_sh (by decide +kernel)), by show targetsB _ u.n = false; simp [targetsB, numB, Nw.intsOf, ascB, ltIn]⟩
      have p1 : ∃ d, Da K (rm2 G15 p q) d (.ref o1) ∧ Sh 41 40000 40 d ∧ BadT u 3 d := ⟨(.list []), ⟨o1, _, rfl, (rm2_ex (p := p) (q := q) (E2.tr (E3.tr (E4.tr (E5.tr (E6.tr (E7.tr (E8.tr (E9.tr (E10.tr (E11.tr (E12.tr (E13.tr (E14.tr E15)))))))))))))) _ _ F1', rfl, by show 0 ≤ 100000; decide⟩, (shB_sh (by decide +kernel)), by show targetsB _ u.n = false; simp [targetsB, numB, Nw.intsOf, ascB, ltIn]⟩
      have p2 : ∃ d, Da K (rm2 G15 p q) d (.ref o2) ∧ Sh 41 40000 40 d ∧ BadT u 3 d := ⟨(.tuple [(.int 0)]), ⟨o2, _, rfl, (rm2_ex (p := p) (q := q) (E3.tr (E4.tr (E5.tr (E6.tr (E7.tr (E8.tr (E9.tr (E10.tr (E11.tr (E12.tr (E13.tr (E14.tr E15))))))))))))) _ _ F2', ⟨_, _, rfl, rfl, rfl⟩⟩, (shB_sh (by decide +kernel)), by show targetsB _ u.n = false; simp [targetsB, numB, Nw.intsOf, ascB, ltIn]⟩
      have p3 : ∃ d, Da K (rm2 G15 p q) d (.ref o3) ∧ Sh 41 40000 40 d ∧ BadT u 3 d := ⟨(.list [(.int 0), (.int 0)]), ⟨o3, _, rfl, (rm2_ex (p := p) (q := q) (E4.tr (E5.tr (E6.tr (E7.tr (E8.tr (E9.tr (E10.tr (E11.tr (E12.tr (E13.tr (E14.tr E15)))))))))))) _ _ F3', ⟨_, _, rfl, rfl, ⟨_, _, rfl, rfl, rfl⟩⟩, by show 2 ≤ 100000; decide⟩, (shB_sh (by decide +kernel)), by show targetsB _ u.n = false; simp [targetsB, numB, Nw.intsOf, ascB, ltIn]⟩
      have p4 : ∃ d, Da K (rm2 G15 p q) d (.ref o4) ∧ Sh 41 40000 40 d ∧ BadT u 3 d := ⟨(.list [(.int u.n)]), ⟨o4, _, rfl, (rm2_ex (p := p) (q := q) (E5.tr (E6.tr (E7.tr (E8.tr (E9.tr (E10.tr (E11.tr (E12.tr (E13.tr (E14.tr E15))))))))))) _ _ F4', ⟨_, _, rfl, rfl, rfl⟩, by show 1 ≤ 100000; decide⟩, (shN (by omega)), by show targetsB _ u.n = false; simp [targetsB, numB, Nw.intsOf, ascB, ltIn]⟩
      have p5 : ∃ d, Da K (rm2 G15 p q) d (.ref o5) ∧ Sh 41 40000 40 d ∧ BadT u 3 d := ⟨(.list [(.int (-1))]), ⟨o5, _, rfl, (rm2_ex (p := p) (q := q) (E6.tr (E7.tr (E8.tr (E9.tr (E10.tr (E11.tr (E12.tr (E13.tr (E14.tr E15)))))))))) _ _ F5', ⟨_, _, rfl, rfl, rfl⟩, by show 1 ≤ 100000; decide⟩, (shB_sh (by decide +kernel)), by show targetsB _ u.n = false; simp [targetsB, numB, Nw.intsOf, ascB, ltIn]⟩
      have p6 : ∃ d, Da K (rm2 G15 p q) d (.ref o6) ∧ Sh 41 40000 40 d ∧ BadT u 3 d := ⟨(.list [(.bool true)]), ⟨o6, _, rfl, (rm2_ex (p := p) (q := q) (E7.tr (E8.tr (E9.tr (E10.tr (E11.tr (E12.tr (E13.tr (E14.tr E15))))))))) _ _ F6', ⟨_, _, rfl, rfl, rfl⟩, by show 1 ≤ 100000; decide⟩, (shB_sh (by decide +kernel)), by show targetsB _ u.n = false; simp [targetsB, numB, Nw.intsOf, ascB, ltIn]⟩
      have p7 : ∃ d, Da K (rm2 G15 p q) d (.ref o7) ∧ Sh 41 40000 40 d ∧ BadT u 3 d := ⟨(.list [(.str "0")]), ⟨o7, _, rfl, (rm2_ex (p := p) (q := q) (E8.tr (E9.tr (E10.tr (E11.tr (E12.tr (E13.tr (E14.tr E15)))))))) _ _ F7', ⟨_, _, rfl, rfl, rfl⟩, by show 1 ≤ 100000; decide⟩, (shB_sh (by decide +kernel)), by show targetsB _ u.n = false; simp [targetsB, numB, Nw.intsOf, ascB, ltIn]⟩
      have p8 : ∃ d, Da K (rm2 G15 p q) d (.int 0) ∧ Sh 41 40000 40 d ∧ BadT u 3 d := ⟨(.int 0), rfl, (shB_sh (by decide +kernel)), by show targetsB _ u.n = false; simp [targetsB, numB, Nw.intsOf, ascB, ltIn]⟩
      have p9 : ∃ d, Da K (rm2 G15 p q) d (.ref o8) ∧ Sh 41 40000 40 d ∧ BadT u 3 d := ⟨(.dict []), ⟨o8, [], rfl, (rm2_ex (p := p) (q := q) (E9.tr (E10.tr (E11.tr (E12.tr (E13.tr (E14.tr E15))))))) _ _ F8', rfl, rfl⟩, (shB_sh (by decide +kernel)), by show targetsB _ u.n = false; simp [targetsB, numB, Nw.intsOf, ascB, ltIn]⟩
      have p10 : ∃ d, Da K (rm2 G15 p q) d (.ref o9) ∧ Sh 41 40000 40 d ∧ BadT u 3 d := ⟨(.list [.none]), ⟨o9, _, rfl, (rm2_ex (p := p) (q := q) (E10.tr (E11.tr (E12.tr (E13.tr (E14.tr E15)))))) _ _ F9', ⟨_, _, rfl, rfl, rfl⟩, by show 1 ≤ 100000; decide⟩, (shB_sh (by decide +kernel)), by show targetsB _ u.n = false; simp [targetsB, numB, Nw.intsOf, ascB, ltIn]⟩
      have p11 : ∃ d, Da K (rm2 G15 p q) d (.ref o12) ∧ Sh 41 40000 40 d ∧ BadT u 3 d := ⟨(dInts ((iota u.n).reverse ++ [0])), (dInts_of (r := (iota u.n).reverse ++ [0]) ((rm2_ex (p := p) (q := q) (E13.tr (E14.tr E15))) _ _ F12') (by have := iota_len u.n; simp only [List.length_append, List.length_reverse, List.length_drop, List.length_singleton, List.length_cons, List.length_nil]; omega)), (sh_ints9 (fun x hx => by rcases List.mem_append.mp hx with hx | hx <;> first | (have := mem_iota.mp (List.mem_reverse.mp hx); omega) | (have := mem_iota.mp hx; omega) | (have := mem_iota.mp (List.mem_of_mem_drop hx); omega) | (obtain rfl := List.mem_singleton.mp hx; omega)) (by have := iota_len u.n; simp only [List.length_append, List.length_reverse, List.length_drop, List.length_singleton, List.length_cons, List.length_nil]; omega)), targets_twice (List.mem_reverse.mpr (zero_iota b1))⟩
      have p12 : ∃ d, Da K (rm2 G15 p q) d (.ref o14) ∧ Sh 41 40000 40 d ∧ BadT u 3 d := ⟨(.list [(.list [(.int 0)])]), ⟨o14, _, rfl, (rm2_ex (p := p) (q := q) E15) _ _ F14', ⟨_, _, rfl, ⟨o13, _, rfl, (rm2_ex (p := p) (q := q) (E14.tr E15)) _ _ F13', ⟨_, _, rfl, rfl, rfl⟩, by show 1 ≤ 100000; decide⟩, rfl⟩, by show 1 ≤ 100000; decide⟩, (shB_sh (by decide +kernel)), by show targetsB _ u.n = false; simp [targetsB, numB, Nw.intsOf, ascB, ltIn]⟩
      exact qq _ _ _ (E0.tr (E1.tr (E2.tr (E3.tr (E4.tr (E5.tr (E6.tr (E7.tr (E8.tr (E9.tr (E10.tr (E11.tr (E12.tr (E13.tr (E14.tr E15))))))))))))))) F15' ⟨by show 1 ≤ 13; decide, by show 13 ≤ 20; decide⟩ ⟨p0, p1, p2, p3, p4, p5, p6, p7, p8, p9, p10, p11, p12, trivial⟩
    · refine ⟨_, rfl, rfl, false, congrArg V.bl (by decide +kernel), ite2 (fun h => Bool.noConfusion h) (fun _ => ?_)⟩
      refine ⟨_, rfl, rfl, false, congrArg V.bl (by decide +kernel), ite2 (fun h => Bool.noConfusion h) (fun _ => ?_)⟩
      refine ⟨_, rfl, rfl, false, congrArg V.bl (by decide +kernel), ite2 (fun h => Bool.noConfusion h) (fun _ => ?_)⟩
      refine ⟨_, rfl, rfl, true, congrArg V.bl (by decide +kernel), ite2 (fun _ => ?_) (fun h => absurd rfl h)⟩
      exact ⟨_, rfl, (u.ns.length : Int), p, q, _, _, rfl, hp, hq0, by omega, fun R ys H1 e h1 h2 h3 => qq R ys H1 e h1 (by omega) h3⟩
    · refine ⟨_, rfl, rfl, false, congrArg V.bl (by decide +kernel), ite2 (fun h => Bool.noConfusion h) (fun _ => ?_)⟩
      refine ⟨_, rfl, rfl, false, congrArg V.bl (by decide +kernel), ite2 (fun h => Bool.noConfusion h) (fun _ => ?_)⟩
      refine ⟨_, rfl, rfl, false, congrArg V.bl (by decide +kernel), ite2 (fun h => Bool.noConfusion h) (fun _ => ?_)⟩
      refine ⟨_, rfl, rfl, false, congrArg V.bl (by decide +kernel), ite2 (fun h => Bool.noConfusion h) (fun _ => ?_)⟩
      refine ⟨_, rfl, u.n, rfl, RgOk.of_le (by omega) (by omega) (by omega) (by omega), fun o0 n0 => ?_⟩
      rw [rgV_iota]
      have E0 : Ex H (upd H o0 (.lst ((iota u.n).map V.int))) := Ex.nw n0
      have F0 : (upd H o0 (.lst ((iota u.n).map V.int))) o0 = some (.lst ((iota u.n).map V.int)) := upd_same
      generalize upd H o0 (.lst ((iota u.n).map V.int)) = G0 at E0 F0
      have N0 : ¬ (o0 = p) := fun e => by rw [e, Ex.rfl _ _ hp] at n0; cases n0
      have M0 : ¬ (o0 = q) := fun e => by rw [e, Ex.rfl _ _ hq0] at n0; cases n0
      have F0' := (rm2_some N0 M0 F0)
      refine ⟨_, rfl, rfl, false, congrArg V.bl (by decide +kernel), ite2 (fun h => Bool.noConfusion h) (fun _ => ?_)⟩
      refine ⟨_, rfl, rfl, true, congrArg V.bl (by decide +kernel), ite2 (fun _ => ?_) (fun h => absurd rfl h)⟩
      refine ⟨Nat.zero_le _, fun o1 n1 => ?_⟩
      have E1 : Ex G0 (upd G0 o1 (.lst [])) := Ex.nw n1
      have F1 : (upd G0 o1 (.lst [])) o1 = some (.lst []) := upd_same
      generalize upd G0 o1 (.lst []) = G1 at E1 F1
      have N1 : ¬ (o1 = p) := fun e => by rw [e, E0 _ _ hp] at n1; cases n1
      have M1 : ¬ (o1 = q) := fun e => by rw [e, E0 _ _ hq0] at n1; cases n1
      have F1' := (rm2_some N1 M1 F1)
      refine ⟨_, rfl, o0, _, rfl, .inl ⟨(.inl (.inl (E1 _ _ F0))), fun o2 n2 => ?_⟩⟩
      have E2 : Ex G1 (upd G1 o2 (.tup ((iota u.n).map V.int))) := Ex.nw n2
      have F2 : (upd G1 o2 (.tup ((iota u.n).map V.int))) o2 = some (.tup ((iota u.n).map V.int)) := upd_same
      generalize upd G1 o2 (.tup ((iota u.n).map V.int)) = G2 at E2 F2
      have N2 : ¬ (o2 = p) := fun e => by rw [e, (E0.tr E1) _ _ hp] at n2; cases n2
      have M2 : ¬ (o2 = q) := fun e => by rw [e, (E0.tr E1) _ _ hq0] at n2; cases n2
      have F2' := (rm2_some N2 M2 F2)
      refine ⟨_, rfl, by show 1 ≤ sizeLine; decide, fun o3 n3 => ?_⟩
      have E3 : Ex G2 (upd G2 o3 (.lst [(.int 0)])) := Ex.nw n3
      have F3 : (upd G2 o3 (.lst [(.int 0)])) o3 = some (.lst [(.int 0)]) := upd_same
      generalize upd G2 o3 (.lst [(.int 0)]) = G3 at E3 F3
      have N3 : ¬ (o3 = p) := fun e => by rw [e, (E0.tr (E1.tr E2)) _ _ hp] at n3; cases n3
      have M3 : ¬ (o3 = q) := fun e => by rw [e, (E0.tr (E1.tr E2)) _ _ hq0] at n3; cases n3
      have F3' := (rm2_some N3 M3 F3)
      refine ⟨o0, o3, _, _, rfl, rfl, (.inl (.inl ((E1.tr (E2.tr E3)) _ _ F0))), (.inl (.inl (Ex.rfl _ _ F3))), by have := iota_len u.n; simp only [List.length_map, List.length_reverse, List.length_drop, List.length_cons, List.length_nil, List.length_range]; omega, fun o4 n4 => ?_⟩
      rw [show (((iota u.n).map V.int) ++ [.int 0] : List V) = ((iota u.n) ++ [0]).map V.int from by rw [List.map_append]; rfl]
      have E4 : Ex G3 (upd G3 o4 (.lst (((iota u.n) ++ [0]).map V.int))) := Ex.nw n4
      have F4 : (upd G3 o4 (.lst (((iota u.n) ++ [0]).map V.int))) o4 = some (.lst (((iota u.n) ++ [0]).map V.int)) := upd_same
      generalize upd G3 o4 (.lst (((iota u.n) ++ [0]).map V.int)) = G4 at E4 F4
      have N4 : ¬ (o4 = p) := fun e => by rw [e, (E0.tr (E1.tr (E2.tr E3))) _ _ hp] at n4; cases n4
      have M4 : ¬ (o4 = q) := fun e => by rw [e, (E0.tr (E1.tr (E2.tr E3))) _ _ hq0] at n4; cases n4
      have F4' := (rm2_some N4 M4 F4)
      refine ⟨_, rfl, _, rfl, o0, _, rfl, (.inl (.inl ((E1.tr (E2.tr (E3.tr E4))) _ _ F0))), fun o5 n5 => ?_⟩
      rw [cut_drop1 _ (by rw [List.length_map, iota_len]; omega), ← List.map_drop]
      have E5 : Ex G4 (upd G4 o5 (.lst (((iota u.n).drop 1).map V.int))) := Ex.nw n5
      have F5 : (upd G4 o5 (.lst (((iota u.n).drop 1).map V.int))) o5 = some (.lst (((iota u.n).drop 1).map V.int)) := upd_same
      generalize upd G4 o5 (.lst (((iota u.n).drop 1).map V.int)) = G5 at E5 F5
      have N5 : ¬ (o5 = p) := fun e => by rw [e, (E0.tr (E1.tr (E2.tr (E3.tr E4)))) _ _ hp] at n5; cases n5
      have M5 : ¬ (o5 = q) := fun e => by rw [e, (E0.tr (E1.tr (E2.tr (E3.tr E4)))) _ _ hq0] at n5; cases n5
      have F5' := (rm2_some N5 M5 F5)
      refine ⟨_, rfl, by show 1 ≤ sizeLine; decide, fun o6 n6 => ?_⟩
      have E6 : Ex G5 (upd G5 o6 (.lst [(.int u.n)])) := Ex.nw n6
      have F6 : (upd G5 o6 (.lst [(.int u.n)])) o6 = some (.lst [(.int u.n)]) := upd_same
      generalize upd G5 o6 (.lst [(.int u.n)]) = G6 at E6 F6
      have N6 : ¬ (o6 = p) := fun e => by rw [e, (E0.tr (E1.tr (E2.tr (E3.tr (E4.tr E5))))) _ _ hp] at n6; cases n6
      have M6 : ¬ (o6 = q) := fun e => by rw [e, (E0.tr (E1.tr (E2.tr (E3.tr (E4.tr E5))))) _ _ hq0] at n6; cases n6
      have F6' := (rm2_some N6 M6 F6)
      refine ⟨_, rfl, _, rfl, o0, _, rfl, (.inl (.inl ((E1.tr (E2.tr (E3.tr (E4.tr (E5.tr E6))))) _ _ F0))), fun o7 n7 => ?_⟩
      rw [cut_drop1 _ (by rw [List.length_map, iota_len]; omega), ← List.map_drop]
      have E7 : Ex G6 (upd G6 o7 (.lst (((iota u.n).drop 1).map V.int))) := Ex.nw n7
      have F7 : (upd G6 o7 (.lst (((iota u.n).drop 1).map V.int))) o7 = some (.lst (((iota u.n).drop 1).map V.int)) := upd_same
      generalize upd G6 o7 (.lst (((iota u.n).drop 1).map V.int)) = G7 at E7 F7
      have N7 : ¬ (o7 = p) := fun e => by rw [e, (E0.tr (E1.tr (E2.tr (E3.tr (E4.tr (E5.tr E6)))))) _ _ hp] at n7; cases n7
      have M7 : ¬ (o7 = q) := fun e => by rw [e, (E0.tr (E1.tr (E2.tr (E3.tr (E4.tr (E5.tr E6)))))) _ _ hq0] at n7; cases n7
      have F7' := (rm2_some N7 M7 F7)
      refine ⟨o6, o7, _, _, rfl, rfl, (.inl (.inl (E7 _ _ F6))), (.inl (.inl (Ex.rfl _ _ F7))), by have := iota_len u.n; simp only [List.length_map, List.length_reverse, List.length_drop, List.length_cons, List.length_nil, List.length_range]; omega, fun o8 n8 => ?_⟩
      rw [show ([.int u.n] ++ ((iota u.n).drop 1).map V.int : List V) = (u.n :: (iota u.n).drop 1).map V.int from rfl]
      have E8 : Ex G7 (upd G7 o8 (.lst ((u.n :: (iota u.n).drop 1).map V.int))) := Ex.nw n8
      have F8 : (upd G7 o8 (.lst ((u.n :: (iota u.n).drop 1).map V.int))) o8 = some (.lst ((u.n :: (iota u.n).drop 1).map V.int)) := upd_same
      generalize upd G7 o8 (.lst ((u.n :: (iota u.n).drop 1).map V.int)) = G8 at E8 F8
      have N8 : ¬ (o8 = p) := fun e => by rw [e, (E0.tr (E1.tr (E2.tr (E3.tr (E4.tr (E5.tr (E6.tr E7))))))) _ _ hp] at n8; cases n8
      have M8 : ¬ (o8 = q) := fun e => by rw [e, (E0.tr (E1.tr (E2.tr (E3.tr (E4.tr (E5.tr (E6.tr E7))))))) _ _ hq0] at n8; cases n8
      have F8' := (rm2_some N8 M8 F8)
      obtain ⟨r9, hr9, hl9, hm9⟩ := cut_ints (iota u.n) none (some (-1))
      refine ⟨_, rfl, 1, rfl, _, rfl, o0, _, rfl, (.inl (.inl ((E1.tr (E2.tr (E3.tr (E4.tr (E5.tr (E6.tr (E7.tr E8))))))) _ _ F0))), fun o9 n9 => ?_⟩
      rw [hr9]
      have E9 : Ex G8 (upd G8 o9 (.lst (r9.map V.int))) := Ex.nw n9
      have F9 : (upd G8 o9 (.lst (r9.map V.int))) o9 = some (.lst (r9.map V.int)) := upd_same
      generalize upd G8 o9 (.lst (r9.map V.int)) = G9 at E9 F9
      have N9 : ¬ (o9 = p) := fun e => by rw [e, (E0.tr (E1.tr (E2.tr (E3.tr (E4.tr (E5.tr (E6.tr (E7.tr E8)))))))) _ _ hp] at n9; cases n9
      have M9 : ¬ (o9 = q) := fun e => by rw [e, (E0.tr (E1.tr (E2.tr (E3.tr (E4.tr (E5.tr (E6.tr (E7.tr E8)))))))) _ _ hq0] at n9; cases n9
      have F9' := (rm2_some N9 M9 F9)
      refine ⟨by show 1 ≤ sizeLine; decide, fun o10 n10 => ?_⟩
      have E10 : Ex G9 (upd G9 o10 (.lst [.non])) := Ex.nw n10
      have F10 : (upd G9 o10 (.lst [.non])) o10 = some (.lst [.non]) := upd_same
      generalize upd G9 o10 (.lst [.non]) = G10 at E10 F10
      have N10 : ¬ (o10 = p) := fun e => by rw [e, (E0.tr (E1.tr (E2.tr (E3.tr (E4.tr (E5.tr (E6.tr (E7.tr (E8.tr E9))))))))) _ _ hp] at n10; cases n10
      have M10 : ¬ (o10 = q) := fun e => by rw [e, (E0.tr (E1.tr (E2.tr (E3.tr (E4.tr (E5.tr (E6.tr (E7.tr (E8.tr E9))))))))) _ _ hq0] at n10; cases n10
      have F10' := (rm2_some N10 M10 F10)
      refine ⟨o9, o10, _, _, rfl, rfl, (.inl (.inl (E10 _ _ F9))), (.inl (.inl (Ex.rfl _ _ F10))), by have := iota_len u.n; simp only [List.length_map, List.length_cons, List.length_nil, List.length_range]; omega, fun o11 n11 => ?_⟩
      have E11 : Ex G10 (upd G10 o11 (.lst (r9.map V.int ++ [.non]))) := Ex.nw n11
      have F11 : (upd G10 o11 (.lst (r9.map V.int ++ [.non]))) o11 = some (.lst (r9.map V.int ++ [.non])) := upd_same
      generalize upd G10 o11 (.lst (r9.map V.int ++ [.non])) = G11 at E11 F11
      have N11 : ¬ (o11 = p) := fun e => by rw [e, (E0.tr (E1.tr (E2.tr (E3.tr (E4.tr (E5.tr (E6.tr (E7.tr (E8.tr (E9.tr E10)))))))))) _ _ hp] at n11; cases n11
      have M11 : ¬ (o11 = q) := fun e => by rw [e, (E0.tr (E1.tr (E2.tr (E3.tr (E4.tr (E5.tr (E6.tr (E7.tr (E8.tr (E9.tr E10)))))))))) _ _ hq0] at n11; cases n11
      have F11' := (rm2_some N11 M11 F11)
      refine ⟨by show 9 ≤ sizeLine; decide, fun o12 n12 => ?_⟩
      have E12 : Ex G11 (upd G11 o12 (.lst [.non, (.ref o1), (.ref o2), (.ref o4), (.ref o5), (.ref o8), (.str "0"), (.int 0), (.ref o11)])) := Ex.nw n12
      have F12 : (upd G11 o12 (.lst [.non, (.ref o1), (.ref o2), (.ref o4), (.ref o5), (.ref o8), (.str "0"), (.int 0), (.ref o11)])) o12 = some (.lst [.non, (.ref o1), (.ref o2), (.ref o4), (.ref o5), (.ref o8), (.str "0"), (.int 0), (.ref o11)]) := upd_same
      generalize upd G11 o12 (.lst [.non, (.ref o1), (.ref o2), (.ref o4), (.ref o5), (.ref o8), (.str "0"), (.int 0), (.ref o11)]) = G12 at E12 F12
      have N12 : ¬ (o12 = p) := fun e => by rw [e, (E0.tr (E1.tr (E2.tr (E3.tr (E4.tr (E5.tr (E6.tr (E7.tr (E8.tr (E9.tr (E10.tr E11))))))))))) _ _ hp] at n12; cases n12
      have M12 : ¬ (o12 = q) := fun e => by rw [e, (E0.tr (E1.tr (E2.tr (E3.tr (E4.tr (E5.tr (E6.tr (E7.tr (E8.tr (E9.tr (E10.tr E11))))))))))) _ _ hq0] at n12; cases n12
      have F12' := (rm2_some N12 M12 F12)
      have p0 : ∃ d, Da K (rm2 G12 p q) d .non ∧ Sh 41 40000 40 d ∧ BadT u 5 d := ⟨.none, rfl, (shB_sh (by decide +kernel)), ordB_no (fun o h => nomatch h)⟩
      have p1 : ∃ d, Da K (rm2 G12 p q) d (.ref o1) ∧ Sh 41 40000 40 d ∧ BadT u 5 d := ⟨(.list []), ⟨o1, _, rfl, (rm2_ex (p := p) (q := q) (E2.tr (E3.tr (E4.tr (E5.tr (E6.tr (E7.tr (E8.tr (E9.tr (E10.tr (E11.tr E12))))))))))) _ _ F1', rfl, by show 0 ≤ 100000; decide⟩, (shB_sh (by decide +kernel)), ordB_ints (o := []) (fun h => by have := h.len; simp only [List.length_nil] at this; omega)⟩
      have p2 : ∃ d, Da K (rm2 G12 p q) d (.ref o2) ∧ Sh 41 40000 40 d ∧ BadT u 5 d := ⟨(.tuple ((iota u.n).map PyData.int)), ⟨o2, _, rfl, (rm2_ex (p := p) (q := q) (E3.tr (E4.tr (E5.tr (E6.tr (E7.tr (E8.tr (E9.tr (E10.tr (E11.tr E12)))))))))) _ _ F2', DaAll.ints.mpr rfl⟩, (tupSh (sh_ints9 (fun x hx => by have := mem_iota.mp hx; omega) (by have := iota_len u.n; omega))), ordB_no (fun o h => nomatch h)⟩
      have p3 : ∃ d, Da K (rm2 G12 p q) d (.ref o4) ∧ Sh 41 40000 40 d ∧ BadT u 5 d := ⟨(dInts ((iota u.n) ++ [0])), (dInts_of (r := (iota u.n) ++ [0]) ((rm2_ex (p := p) (q := q) (E5.tr (E6.tr (E7.tr (E8.tr (E9.tr (E10.tr (E11.tr E12)))))))) _ _ F4') (by have := iota_len u.n; simp only [List.length_append, List.length_reverse, List.length_drop, List.length_singleton, List.length_cons, List.length_nil]; omega)), (sh_ints9 (fun x hx => by rcases List.mem_append.mp hx with hx | hx <;> first | (have := mem_iota.mp (List.mem_reverse.mp hx); omega) | (have := mem_iota.mp hx; omega) | (have := mem_iota.mp (List.mem_of_mem_drop hx); omega) | (obtain rfl := List.mem_singleton.mp hx; omega)) (by have := iota_len u.n; simp only [List.length_append, List.length_reverse, List.length_drop, List.length_singleton, List.length_cons, List.length_nil]; omega)), ordB_ints (fun h => by have := h.len; have := iota_len u.n; simp only [List.length_append, List.length_drop, List.length_cons, List.length_nil] at *; omega)⟩
      have p4 : ∃ d, Da K (rm2 G12 p q) d (.ref o5) ∧ Sh 41 40000 40 d ∧ BadT u 5 d := ⟨(dInts ((iota u.n).drop 1)), (dInts_of (r := (iota u.n).drop 1) ((rm2_ex (p := p) (q := q) (E6.tr (E7.tr (E8.tr (E9.tr (E10.tr (E11.tr E12))))))) _ _ F5') (by have := iota_len u.n; simp only [List.length_drop]; omega)), (sh_ints9 (fun x hx => by have := mem_iota.mp (List.mem_of_mem_drop hx); omega) (by have := iota_len u.n; simp only [List.length_drop]; omega)), ordB_ints (fun h => by have := h.len; have := iota_len u.n; simp only [List.length_append, List.length_drop, List.length_cons, List.length_nil] at *; omega)⟩
      have p5 : ∃ d, Da K (rm2 G12 p q) d (.ref o8) ∧ Sh 41 40000 40 d ∧ BadT u 5 d := ⟨(dInts (u.n :: (iota u.n).drop 1)), (dInts_of (r := u.n :: (iota u.n).drop 1) ((rm2_ex (p := p) (q := q) (E9.tr (E10.tr (E11.tr E12)))) _ _ F8') (by have := iota_len u.n; simp only [List.length_cons, List.length_drop]; omega)), (sh_ints9 (fun x hx => (List.mem_cons.mp hx).elim (fun e => by rw [e]; omega) (fun hx => by have := mem_iota.mp (List.mem_of_mem_drop hx); omega)) (by have := iota_len u.n; simp only [List.length_cons, List.length_drop]; omega)), ordB_ints (fun h => by have := h.mem.mp (List.mem_cons_self ..); omega)⟩
      have p6 : ∃ d, Da K (rm2 G12 p q) d (.str "0") ∧ Sh 41 40000 40 d ∧ BadT u 5 d := ⟨(.str "0"), rfl, (shB_sh (by decide +kernel)), ordB_no (fun o h => nomatch h)⟩
      have p7 : ∃ d, Da K (rm2 G12 p q) d (.int 0) ∧ Sh 41 40000 40 d ∧ BadT u 5 d := ⟨(.int 0), rfl, (shB_sh (by decide +kernel)), ordB_no (fun o h => nomatch h)⟩
      have p8 : ∃ d, Da K (rm2 G12 p q) d (.ref o11) ∧ Sh 41 40000 40 d ∧ BadT u 5 d := ⟨(.list (r9.map PyData.int ++ [.none])), ⟨o11, _, rfl, (rm2_ex (p := p) (q := q) E12) _ _ F11', DaAll.app (ds := r9.map PyData.int) (es := [PyData.none]) (vs := r9.map V.int) (ws := [V.non]) (DaAll.ints.mpr rfl) ⟨_, _, rfl, rfl, rfl⟩, by have := iota_len u.n; simp only [List.length_append, List.length_map, List.length_cons, List.length_nil]; omega⟩, (sh_evm (fun x hx => by have := mem_iota.mp (hm9 x hx); omega) (by have := iota_len u.n; omega)), ordB_no (fun o h => by have h := PyData.list.inj h; have m : PyData.none ∈ o.map PyData.int := h ▸ List.mem_append_right _ (List.mem_singleton.mpr rfl); simp at m)⟩
      exact qq _ _ _ (E0.tr (E1.tr (E2.tr (E3.tr (E4.tr (E5.tr (E6.tr (E7.tr (E8.tr (E9.tr (E10.tr (E11.tr E12)))))))))))) F12' ⟨by show 1 ≤ 9; decide, by show 9 ≤ 20; decide⟩ ⟨p0, p1, p2, p3, p4, p5, p6, p7, p8, trivial⟩
    · refine ⟨_, rfl, rfl, false, congrArg V.bl (by decide +kernel), ite2 (fun h => Bool.noConfusion h) (fun _ => ?_)⟩
      refine ⟨_, rfl, rfl, false, congrArg V.bl (by decide +kernel), ite2 (fun h => Bool.noConfusion h) (fun _ => ?_)⟩
      refine ⟨_, rfl, rfl, false, congrArg V.bl (by decide +kernel), ite2 (fun h => Bool.noConfusion h) (fun _ => ?_)⟩
      refine ⟨_, rfl, rfl, false, congrArg V.bl (by decide +kernel), ite2 (fun h => Bool.noConfusion h) (fun _ => ?_)⟩
      refine ⟨_, rfl, u.n, rfl, RgOk.of_le (by omega) (by omega) (by omega) (by omega), fun o0 n0 => ?_⟩
      rw [rgV_iota]
      have E0 : Ex H (upd H o0 (.lst ((iota u.n).map V.int))) := Ex.nw n0
      have F0 : (upd H o0 (.lst ((iota u.n).map V.int))) o0 = some (.lst ((iota u.n).map V.int)) := upd_same
      generalize upd H o0 (.lst ((iota u.n).map V.int)) = G0 at E0 F0
      have N0 : ¬ (o0 = p) := fun e => by rw [e, Ex.rfl _ _ hp] at n0; cases n0
      have M0 : ¬ (o0 = q) := fun e => by rw [e, Ex.rfl _ _ hq0] at n0; cases n0
      have F0' := (rm2_some N0 M0 F0)
      refine ⟨_, rfl, rfl, false, congrArg V.bl (by decide +kernel), ite2 (fun h => Bool.noConfusion h) (fun _ => ?_)⟩
      refine ⟨_, rfl, rfl, false, congrArg V.bl (by decide +kernel), ite2 (fun h => Bool.noConfusion h) (fun _ => ?_)⟩
      refine ⟨Nat.zero_le _, fun o1 n1 => ?_⟩
      have E1 : Ex G0 (upd G0 o1 (.tup [])) := Ex.nw n1
      have F1 : (upd G0 o1 (.tup [])) o1 = some (.tup []) := upd_same
      generalize upd G0 o1 (.tup []) = G1 at E1 F1
      have N1 : ¬ (o1 = p) := fun e => by rw [e, E0 _ _ hp] at n1; cases n1
      have M1 : ¬ (o1 = q) := fun e => by rw [e, E0 _ _ hq0] at n1; cases n1
      have F1' := (rm2_some N1 M1 F1)
      refine ⟨by show 2 ≤ sizeLine; decide, fun o2 n2 => ?_⟩
      have E2 : Ex G1 (upd G1 o2 (.tup [(.int 0), (.int 0)])) := Ex.nw n2
      have F2 : (upd G1 o2 (.tup [(.int 0), (.int 0)])) o2 = some (.tup [(.int 0), (.int 0)]) := upd_same
      generalize upd G1 o2 (.tup [(.int 0), (.int 0)]) = G2 at E2 F2
      have N2 : ¬ (o2 = p) := fun e => by rw [e, (E0.tr E1) _ _ hp] at n2; cases n2
      have M2 : ¬ (o2 = q) := fun e => by rw [e, (E0.tr E1) _ _ hq0] at n2; cases n2
      have F2' := (rm2_some N2 M2 F2)
      refine ⟨by show 2 ≤ sizeLine; decide, fun o3 n3 => ?_⟩
      have E3 : Ex G2 (upd G2 o3 (.tup [(.int 0), (.int 0)])) := Ex.nw n3
      have F3 : (upd G2 o3 (.tup [(.int 0), (.int 0)])) o3 = some (.tup [(.int 0), (.int 0)]) := upd_same
      generalize upd G2 o3 (.tup [(.int 0), (.int 0)]) = G3 at E3 F3
      have N3 : ¬ (o3 = p) := fun e => by rw [e, (E0.tr (E1.tr E2)) _ _ hp] at n3; cases n3
      have M3 : ¬ (o3 = q) := fun e => by rw [e, (E0.tr (E1.tr E2)) _ _ hq0] at n3; cases n3
      have F3' := (rm2_some N3 M3 F3)
      refine ⟨by show 2 ≤ sizeLine; decide, fun o4 n4 => ?_⟩
      have E4 : Ex G3 (upd G3 o4 (.lst [(.ref o2), (.ref o3)])) := Ex.nw n4
      have F4 : (upd G3 o4 (.lst [(.ref o2), (.ref o3)])) o4 = some (.lst [(.ref o2), (.ref o3)]) := upd_same
      generalize upd G3 o4 (.lst [(.ref o2), (.ref o3)]) = G4 at E4 F4
      have N4 : ¬ (o4 = p) := fun e => by rw [e, (E0.tr (E1.tr (E2.tr E3))) _ _ hp] at n4; cases n4
      have M4 : ¬ (o4 = q) := fun e => by rw [e, (E0.tr (E1.tr (E2.tr E3))) _ _ hq0] at n4; cases n4
      have F4' := (rm2_some N4 M4 F4)
      refine ⟨by show 2 ≤ sizeLine; decide, fun o5 n5 => ?_⟩
      have E5 : Ex G4 (upd G4 o5 (.lst [(.int 0), (.int 0)])) := Ex.nw n5
      have F5 : (upd G4 o5 (.lst [(.int 0), (.int 0)])) o5 = some (.lst [(.int 0), (.int 0)]) := upd_same
      generalize upd G4 o5 (.lst [(.int 0), (.int 0)]) = G5 at E5 F5
      have N5 : ¬ (o5 = p) := fun e => by rw [e, (E0.tr (E1.tr (E2.tr (E3.tr E4)))) _ _ hp] at n5; cases n5
      have M5 : ¬ (o5 = q) := fun e => by rw [e, (E0.tr (E1.tr (E2.tr (E3.tr E4)))) _ _ hq0] at n5; cases n5
      have F5' := (rm2_some N5 M5 F5)
      refine ⟨by show 1 ≤ sizeLine; decide, fun o6 n6 => ?_⟩
      have E6 : Ex G5 (upd G5 o6 (.lst [(.ref o5)])) := Ex.nw n6
      have F6 : (upd G5 o6 (.lst [(.ref o5)])) o6 = some (.lst [(.ref o5)]) := upd_same
      generalize upd G5 o6 (.lst [(.ref o5)]) = G6 at E6 F6
      have N6 : ¬ (o6 = p) := fun e => by rw [e, (E0.tr (E1.tr (E2.tr (E3.tr (E4.tr E5))))) _ _ hp] at n6; cases n6
      have M6 : ¬ (o6 = q) := fun e => by rw [e, (E0.tr (E1.tr (E2.tr (E3.tr (E4.tr E5))))) _ _ hq0] at n6; cases n6
      have F6' := (rm2_some N6 M6 F6)
      refine ⟨by show 1 ≤ sizeLine; decide, fun o7 n7 => ?_⟩
      have E7 : Ex G6 (upd G6 o7 (.tup [(.int 0)])) := Ex.nw n7
      have F7 : (upd G6 o7 (.tup [(.int 0)])) o7 = some (.tup [(.int 0)]) := upd_same
      generalize upd G6 o7 (.tup [(.int 0)]) = G7 at E7 F7
      have N7 : ¬ (o7 = p) := fun e => by rw [e, (E0.tr (E1.tr (E2.tr (E3.tr (E4.tr (E5.tr E6)))))) _ _ hp] at n7; cases n7
      have M7 : ¬ (o7 = q) := fun e => by rw [e, (E0.tr (E1.tr (E2.tr (E3.tr (E4.tr (E5.tr E6)))))) _ _ hq0] at n7; cases n7
      have F7' := (rm2_some N7 M7 F7)
      refine ⟨by show 1 ≤ sizeLine; decide, fun o8 n8 => ?_⟩
      have E8 : Ex G7 (upd G7 o8 (.lst [(.ref o7)])) := Ex.nw n8
      have F8 : (upd G7 o8 (.lst [(.ref o7)])) o8 = some (.lst [(.ref o7)]) := upd_same
      generalize upd G7 o8 (.lst [(.ref o7)]) = G8 at E8 F8
      have N8 : ¬ (o8 = p) := fun e => by rw [e, (E0.tr (E1.tr (E2.tr (E3.tr (E4.tr (E5.tr (E6.tr E7))))))) _ _ hp] at n8; cases n8
      have M8 : ¬ (o8 = q) := fun e => by rw [e, (E0.tr (E1.tr (E2.tr (E3.tr (E4.tr (E5.tr (E6.tr E7))))))) _ _ hq0] at n8; cases n8
      have F8' := (rm2_some N8 M8 F8)
      refine ⟨by show 2 ≤ sizeLine; decide, fun o9 n9 => ?_⟩
      have E9 : Ex G8 (upd G8 o9 (.tup [(.int 0), (.int 20)])) := Ex.nw n9
      have F9 : (upd G8 o9 (.tup [(.int 0), (.int 20)])) o9 = some (.tup [(.int 0), (.int 20)]) := upd_same
      generalize upd G8 o9 (.tup [(.int 0), (.int 20)]) = G9 at E9 F9
      have N9 : ¬ (o9 = p) := fun e => by rw [e, (E0.tr (E1.tr (E2.tr (E3.tr (E4.tr (E5.tr (E6.tr (E7.tr E8)))))))) _ _ hp] at n9; cases n9
      have M9 : ¬ (o9 = q) := fun e => by rw [e, (E0.tr (E1.tr (E2.tr (E3.tr (E4.tr (E5.tr (E6.tr (E7.tr E8)))))))) _ _ hq0] at n9; cases n9
      have F9' := (rm2_some N9 M9 F9)
      refine ⟨by show 1 ≤ sizeLine; decide, fun o10 n10 => ?_⟩
      have E10 : Ex G9 (upd G9 o10 (.lst [(.ref o9)])) := Ex.nw n10
      have F10 : (upd G9 o10 (.lst [(.ref o9)])) o10 = some (.lst [(.ref o9)]) := upd_same
      generalize upd G9 o10 (.lst [(.ref o9)]) = G10 at E10 F10
      have N10 : ¬ (o10 = p) := fun e => by rw [e, (E0.tr (E1.tr (E2.tr (E3.tr (E4.tr (E5.tr (E6.tr (E7.tr (E8.tr E9))))))))) _ _ hp] at n10; cases n10
      have M10 : ¬ (o10 = q) := fun e => by rw [e, (E0.tr (E1.tr (E2.tr (E3.tr (E4.tr (E5.tr (E6.tr (E7.tr (E8.tr E9))))))))) _ _ hq0] at n10; cases n10
      have F10' := (rm2_some N10 M10 F10)
      refine ⟨_, rfl, by show 2 ≤ sizeLine; decide, fun o11 n11 => ?_⟩
      have E11 : Ex G10 (upd G10 o11 (.tup [(.int u.n), (.int 0)])) := Ex.nw n11
      have F11 : (upd G10 o11 (.tup [(.int u.n), (.int 0)])) o11 = some (.tup [(.int u.n), (.int 0)]) := upd_same
      generalize upd G10 o11 (.tup [(.int u.n), (.int 0)]) = G11 at E11 F11
      have N11 : ¬ (o11 = p) := fun e => by rw [e, (E0.tr (E1.tr (E2.tr (E3.tr (E4.tr (E5.tr (E6.tr (E7.tr (E8.tr (E9.tr E10)))))))))) _ _ hp] at n11; cases n11
      have M11 : ¬ (o11 = q) := fun e => by rw [e, (E0.tr (E1.tr (E2.tr (E3.tr (E4.tr (E5.tr (E6.tr (E7.tr (E8.tr (E9.tr E10)))))))))) _ _ hq0] at n11; cases n11
      have F11' := (rm2_some N11 M11 F11)
      refine ⟨by show 1 ≤ sizeLine; decide, fun o12 n12 => ?_⟩
      have E12 : Ex G11 (upd G11 o12 (.lst [(.ref o11)])) := Ex.nw n12
      have F12 : (upd G11 o12 (.lst [(.ref o11)])) o12 = some (.lst [(.ref o11)]) := upd_same
      generalize upd G11 o12 (.lst [(.ref o11)]) = G12 at E12 F12
      have N12 : ¬ (o12 = p) := fun e => by rw [e, (E0.tr (E1.tr (E2.tr (E3.tr (E4.tr (E5.tr (E6.tr (E7.tr (E8.tr (E9.tr (E10.tr E11))))))))))) _ _ hp] at n12; cases n12
      have M12 : ¬ (o12 = q) := fun e => by rw [e, (E0.tr (E1.tr (E2.tr (E3.tr (E4.tr (E5.tr (E6.tr (E7.tr (E8.tr (E9.tr (E10.tr E11))))))))))) _ _ hq0] at n12; cases n12
      have F12' := (rm2_some N12 M12 F12)
      refine ⟨by show 2 ≤ sizeLine; decide, fun o13 n13 => ?_⟩
      have E13 : Ex G12 (upd G12 o13 (.tup [(.bl true), (.int 0)])) := Ex.nw n13
      have F13 : (upd G12 o13 (.tup [(.bl true), (.int 0)])) o13 = some (.tup [(.bl true), (.int 0)]) := upd_same
      generalize upd G12 o13 (.tup [(.bl true), (.int 0)]) = G13 at E13 F13
      have N13 : ¬ (o13 = p) := fun e => by rw [e, (E0.tr (E1.tr (E2.tr (E3.tr (E4.tr (E5.tr (E6.tr (E7.tr (E8.tr (E9.tr (E10.tr (E11.tr E12)))))))))))) _ _ hp] at n13; cases n13
      have M13 : ¬ (o13 = q) := fun e => by rw [e, (E0.tr (E1.tr (E2.tr (E3.tr (E4.tr (E5.tr (E6.tr (E7.tr (E8.tr (E9.tr (E10.tr (E11.tr E12)))))))))))) _ _ hq0] at n13; cases n13
      have F13' := (rm2_some N13 M13 F13)
      refine ⟨by show 1 ≤ sizeLine; decide, fun o14 n14 => ?_⟩
      have E14 : Ex G13 (upd G13 o14 (.lst [(.ref o13)])) := Ex.nw n14
      have F14 : (upd G13 o14 (.lst [(.ref o13)])) o14 = some (.lst [(.ref o13)]) := upd_same
      generalize upd G13 o14 (.lst [(.ref o13)]) = G14 at E14 F14
      have N14 : ¬ (o14 = p) := fun e => by rw [e, (E0.tr (E1.tr (E2.tr (E3.tr (E4.tr (E5.tr (E6.tr (E7.tr (E8.tr (E9.tr (E10.tr (E11.tr (E12.tr E13))))))))))))) _ _ hp] at n14; cases n14
      have M14 : ¬ (o14 = q) := fun e => by rw [e, (E0.tr (E1.tr (E2.tr (E3.tr (E4.tr (E5.tr (E6.tr (E7.tr (E8.tr (E9.tr (E10.tr (E11.tr (E12.tr E13))))))))))))) _ _ hq0] at n14; cases n14
      have F14' := (rm2_some N14 M14 F14)
      refine fun o15 n15 => ?_
      have E15 : Ex G14 (upd G14 o15 (.dK [])) := Ex.nw n15
      have F15 : (upd G14 o15 (.dK [])) o15 = some (.dK []) := upd_same
      generalize upd G14 o15 (.dK []) = G15 at E15 F15
      have N15 : ¬ (o15 = p) := fun e => by rw [e, (E0.tr (E1.tr (E2.tr (E3.tr (E4.tr (E5.tr (E6.tr (E7.tr (E8.tr (E9.tr (E10.tr (E11.tr (E12.tr (E13.tr E14)))))))))))))) _ _ hp] at n15; cases n15
      have M15 : ¬ (o15 = q) := fun e => by rw [e, (E0.tr (E1.tr (E2.tr (E3.tr (E4.tr (E5.tr (E6.tr (E7.tr (E8.tr (E9.tr (E10.tr (E11.tr (E12.tr (E13.tr E14)))))))))))))) _ _ hq0] at n15; cases n15
      have F15' := (rm2_some N15 M15 F15)
      refine ⟨by show 1 ≤ sizeLine; decide, fun o16 n16 => ?_⟩
      have E16 : Ex G15 (upd G15 o16 (.lst [.non])) := Ex.nw n16
      have F16 : (upd G15 o16 (.lst [.non])) o16 = some (.lst [.non]) := upd_same
      generalize upd G15 o16 (.lst [.non]) = G16 at E16 F16
      have N16 : ¬ (o16 = p) := fun e => by rw [e, (E0.tr (E1.tr (E2.tr (E3.tr (E4.tr (E5.tr (E6.tr (E7.tr (E8.tr (E9.tr (E10.tr (E11.tr (E12.tr (E13.tr (E14.tr E15))))))))))))))) _ _ hp] at n16; cases n16
      have M16 : ¬ (o16 = q) := fun e => by rw [e, (E0.tr (E1.tr (E2.tr (E3.tr (E4.tr (E5.tr (E6.tr (E7.tr (E8.tr (E9.tr (E10.tr (E11.tr (E12.tr (E13.tr (E14.tr E15))))))))))))))) _ _ hq0] at n16; cases n16
      have F16' := (rm2_some N16 M16 F16)
      refine ⟨by show 11 ≤ sizeLine; decide, fun o17 n17 => ?_⟩
      have E17 : Ex G16 (upd G16 o17 (.lst [.non, (.ref o1), (.ref o4), (.ref o6), (.ref o8), (.ref o10), (.ref o12), (.ref o14), (.str "0"), (.ref o15), (.ref o16)])) := Ex.nw n17
      have F17 : (upd G16 o17 (.lst [.non, (.ref o1), (.ref o4), (.ref o6), (.ref o8), (.ref o10), (.ref o12), (.ref o14), (.str "0"), (.ref o15), (.ref o16)])) o17 = some (.lst [.non, (.ref o1), (.ref o4), (.ref o6), (.ref o8), (.ref o10), (.ref o12), (.ref o14), (.str "0"), (.ref o15), (.ref o16)]) := upd_same
      generalize upd G16 o17 (.lst [.non, (.ref o1), (.ref o4), (.ref o6), (.ref o8), (.ref o10), (.ref o12), (.ref o14), (.str "0"), (.ref o15), (.ref o16)]) = G17 at E17 F17
      have N17 : ¬ (o17 = p) := fun e => by rw [e, (E0.tr (E1.tr (E2.tr (E3.tr (E4.tr (E5.tr (E6.tr (E7.tr (E8.tr (E9.tr (E10.tr (E11.tr (E12.tr (E13.tr (E14.tr (E15.tr E16)))))))))))))))) _ _ hp] at n17; cases n17
      have M17 : ¬ (o17 = q) := fun e => by rw [e, (E0.tr (E1.tr (E2.tr (E3.tr (E4.tr (E5.tr (E6.tr (E7.tr (E8.tr (E9.tr (E10.tr (E11.tr (E12.tr (E13.tr (E14.tr (E15.tr E16)))))))))))))))) _ _ hq0] at n17; cases n17
      have F17' := (rm2_some N17 M17 F17)
      have p0 : ∃ d, Da K (rm2 G17 p q) d .non ∧ Sh 41 40000 40 d ∧ BadT u 6 d := ⟨.none, rfl, (shB_sh (by decide +kernel)), by show tuplesB _ u.n u.n = false; simp [tuplesB, tupB, numB, Nw.pairsOf, ascB, ltPr]⟩
      have p1 : ∃ d, Da K (rm2 G17 p q) d (.ref o1) ∧ Sh 41 40000 40 d ∧ BadT u 6 d := ⟨(.tuple []), ⟨o1, _, rfl, (rm2_ex (p := p) (q := q) (E2.tr (E3.tr (E4.tr (E5.tr (E6.tr (E7.tr (E8.tr (E9.tr (E10.tr (E11.tr (E12.tr (E13.tr (E14.tr (E15.tr (E16.tr E17)))))))))))))))) _ _ F1', rfl⟩, (shB_sh (by decide +kernel)), by show tuplesB _ u.n u.n = false; simp [tuplesB, tupB, numB, Nw.pairsOf, ascB, ltPr]⟩
      have p2 : ∃ d, Da K (rm2 G17 p q) d (.ref o4) ∧ Sh 41 40000 40 d ∧ BadT u 6 d := ⟨(.list [(.tuple [(.int 0), (.int 0)]), (.tuple [(.int 0), (.int 0)])]), ⟨o4, _, rfl, (rm2_ex (p := p) (q := q) (E5.tr (E6.tr (E7.tr (E8.tr (E9.tr (E10.tr (E11.tr (E12.tr (E13.tr (E14.tr (E15.tr (E16.tr E17))))))))))))) _ _ F4', ⟨_, _, rfl, ⟨o2, _, rfl, (rm2_ex (p := p) (q := q) (E3.tr (E4.tr (E5.tr (E6.tr (E7.tr (E8.tr (E9.tr (E10.tr (E11.tr (E12.tr (E13.tr (E14.tr (E15.tr (E16.tr E17))))))))))))))) _ _ F2', ⟨_, _, rfl, rfl, ⟨_, _, rfl, rfl, rfl⟩⟩⟩, ⟨_, _, rfl, ⟨o3, _, rfl, (rm2_ex (p := p) (q := q) (E4.tr (E5.tr (E6.tr (E7.tr (E8.tr (E9.tr (E10.tr (E11.tr (E12.tr (E13.tr (E14.tr (E15.tr (E16.tr E17)))))))))))))) _ _ F3', ⟨_, _, rfl, rfl, ⟨_, _, rfl, rfl, rfl⟩⟩⟩, rfl⟩⟩, by show 2 ≤ 100000; decide⟩, (shB_sh (by decide +kernel)), by show tuplesB _ u.n u.n = false; simp [tuplesB, Nw.pairsOf, ascB, ltPr, HT.lexLt]⟩
      have p3 : ∃ d, Da K (rm2 G17 p q) d (.ref o6) ∧ Sh 41 40000 40 d ∧ BadT u 6 d := ⟨(.list [(.list [(.int 0), (.int 0)])]), ⟨o6, _, rfl, (rm2_ex (p := p) (q := q) (E7.tr (E8.tr (E9.tr (E10.tr (E11.tr (E12.tr (E13.tr (E14.tr (E15.tr (E16.tr E17))))))))))) _ _ F6', ⟨_, _, rfl, ⟨o5, _, rfl, (rm2_ex (p := p) (q := q) (E6.tr (E7.tr (E8.tr (E9.tr (E10.tr (E11.tr (E12.tr (E13.tr (E14.tr (E15.tr (E16.tr E17)))))))))))) _ _ F5', ⟨_, _, rfl, rfl, ⟨_, _, rfl, rfl, rfl⟩⟩, by show 2 ≤ 100000; decide⟩, rfl⟩, by show 1 ≤ 100000; decide⟩, (shB_sh (by decide +kernel)), by show tuplesB _ u.n u.n = false; simp [tuplesB, tupB, numB, Nw.pairsOf, ascB, ltPr]⟩
      have p4 : ∃ d, Da K (rm2 G17 p q) d (.ref o8) ∧ Sh 41 40000 40 d ∧ BadT u 6 d := ⟨(.list [(.tuple [(.int 0)])]), ⟨o8, _, rfl, (rm2_ex (p := p) (q := q) (E9.tr (E10.tr (E11.tr (E12.tr (E13.tr (E14.tr (E15.tr (E16.tr E17))))))))) _ _ F8', ⟨_, _, rfl, ⟨o7, _, rfl, (rm2_ex (p := p) (q := q) (E8.tr (E9.tr (E10.tr (E11.tr (E12.tr (E13.tr (E14.tr (E15.tr (E16.tr E17)))))))))) _ _ F7', ⟨_, _, rfl, rfl, rfl⟩⟩, rfl⟩, by show 1 ≤ 100000; decide⟩, (shB_sh (by decide +kernel)), by show tuplesB _ u.n u.n = false; simp [tuplesB, tupB, numB, Nw.pairsOf, ascB, ltPr]⟩
      have p5 : ∃ d, Da K (rm2 G17 p q) d (.ref o10) ∧ Sh 41 40000 40 d ∧ BadT u 6 d := ⟨(.list [(.tuple [(.int 0), (.int 20)])]), ⟨o10, _, rfl, (rm2_ex (p := p) (q := q) (E11.tr (E12.tr (E13.tr (E14.tr (E15.tr (E16.tr E17))))))) _ _ F10', ⟨_, _, rfl, ⟨o9, _, rfl, (rm2_ex (p := p) (q := q) (E10.tr (E11.tr (E12.tr (E13.tr (E14.tr (E15.tr (E16.tr E17)))))))) _ _ F9', ⟨_, _, rfl, rfl, ⟨_, _, rfl, rfl, rfl⟩⟩⟩, rfl⟩, by show 1 ≤ 100000; decide⟩, (shB_sh (by decide +kernel)), by show tuplesB _ u.n u.n = false; simp [tuplesB, tupB, numB, Nw.pairsOf, ascB, ltPr]; omega⟩
      have p6 : ∃ d, Da K (rm2 G17 p q) d (.ref o12) ∧ Sh 41 40000 40 d ∧ BadT u 6 d := ⟨(.list [(.tuple [(.int u.n), (.int 0)])]), ⟨o12, _, rfl, (rm2_ex (p := p) (q := q) (E13.tr (E14.tr (E15.tr (E16.tr E17))))) _ _ F12', ⟨_, _, rfl, ⟨o11, _, rfl, (rm2_ex (p := p) (q := q) (E12.tr (E13.tr (E14.tr (E15.tr (E16.tr E17)))))) _ _ F11', ⟨_, _, rfl, rfl, ⟨_, _, rfl, rfl, rfl⟩⟩⟩, rfl⟩, by show 1 ≤ 100000; decide⟩, (shN2 (by omega)), by show tuplesB _ u.n u.n = false; simp [tuplesB, tupB, numB, Nw.pairsOf, ascB, ltPr]⟩
      have p7 : ∃ d, Da K (rm2 G17 p q) d (.ref o14) ∧ Sh 41 40000 40 d ∧ BadT u 6 d := ⟨(.list [(.tuple [(.bool true), (.int 0)])]), ⟨o14, _, rfl, (rm2_ex (p := p) (q := q) (E15.tr (E16.tr E17))) _ _ F14', ⟨_, _, rfl, ⟨o13, _, rfl, (rm2_ex (p := p) (q := q) (E14.tr (E15.tr (E16.tr E17)))) _ _ F13', ⟨_, _, rfl, rfl, ⟨_, _, rfl, rfl, rfl⟩⟩⟩, rfl⟩, by show 1 ≤ 100000; decide⟩, (shB_sh (by decide +kernel)), by show tuplesB _ u.n u.n = false; simp [tuplesB, tupB, numB, Nw.pairsOf, ascB, ltPr]⟩
      have p8 : ∃ d, Da K (rm2 G17 p q) d (.str "0") ∧ Sh 41 40000 40 d ∧ BadT u 6 d := ⟨(.str "0"), rfl, (shB_sh (by decide +kernel)), by show tuplesB _ u.n u.n = false; simp [tuplesB, tupB, numB, Nw.pairsOf, ascB, ltPr]⟩
      have p9 : ∃ d, Da K (rm2 G17 p q) d (.ref o15) ∧ Sh 41 40000 40 d ∧ BadT u 6 d := ⟨(.dict []), ⟨o15, [], rfl, (rm2_ex (p := p) (q := q) (E16.tr E17)) _ _ F15', rfl, rfl⟩, (shB_sh (by decide +kernel)), by show tuplesB _ u.n u.n = false; simp [tuplesB, tupB, numB, Nw.pairsOf, ascB, ltPr]⟩
      have p10 : ∃ d, Da K (rm2 G17 p q) d (.ref o16) ∧ Sh 41 40000 40 d ∧ BadT u 6 d := ⟨(.list [.none]), ⟨o16, _, rfl, (rm2_ex (p := p) (q := q) E17) _ _ F16', ⟨_, _, rfl, rfl, rfl⟩, by show 1 ≤ 100000; decide⟩, (shB_sh (by decide +kernel)), by show tuplesB _ u.n u.n = false; simp [tuplesB, tupB, numB, Nw.pairsOf, ascB, ltPr]⟩
      exact qq _ _ _ (E0.tr (E1.tr (E2.tr (E3.tr (E4.tr (E5.tr (E6.tr (E7.tr (E8.tr (E9.tr (E10.tr (E11.tr (E12.tr (E13.tr (E14.tr (E15.tr (E16.tr E17))))))))))))))))) F17' ⟨by show 1 ≤ 11; decide, by show 11 ≤ 20; decide⟩ ⟨p0, p1, p2, p3, p4, p5, p6, p7, p8, p9, p10, trivial⟩
end

end K46
namespace K46
open PySem PySem.Spec PyProof.Rows L2 Nw
/-! _law_due: slots 0 _law_way, 1 _law_places, 2 _law_names, 3 _law_kinds, 4 _law_at -/
abbrev s_due : Stmt := topS 58
abbrev N_due : List Str := ["_law_way", "_law_places", "_law_names", "_law_kinds", "_law_at"]
abbrev P_due : List Str := ["_law_way", "_law_places", "_law_names"]
theorem sc_due : FnScope N_due P_due (defScope s_due) := ⟨rfl, rfl, rfl, by decide +kernel, rfl, by decide +kernel, by decide +kernel⟩
theorem inV_int {q : Int} {r : List Int} : inV (.int q) (r.map V.int) = r.contains q := by
  rw [Bool.eq_iff_iff]
  unfold inV
  rw [List.any_map, List.any_eq_true, List.contains_iff_mem]
  constructor
  · rintro ⟨y, hy, h⟩
    have : y = q := by simpa [eqV] using h
    rw [← this]
    exact hy
  · intro h
    exact ⟨q, h, by simp [eqV]⟩
theorem in_int {q : Int} {r : List Int} : (if false = true then !inV (.int q) (r.map V.int) else inV (.int q) (r.map V.int)) = r.contains q := inV_int
theorem notin_int {q : Int} {r : List Int} : (if true = true then !inV (.int q) (r.map V.int) else inV (.int q) (r.map V.int)) = !r.contains q := congrArg not inV_int
theorem flat_ints {r : List Int} : (r.map V.int).all flatV = true := by
  rw [List.all_map, List.all_eq_true]
  intro x _
  rfl
def firstBad (n : Nat) (S : List Int) : Option Nat := (List.range n).find? fun i => S.contains (i : Int)
def dueTV (ts : List Nat) (S : List Int) : V :=
  match firstBad ts.length S with
  | some i => .int ((ts.getD i 0 : Nat) : Int)
  | none => .non
theorem firstBad_some {n i : Nat} {S : List Int} (hi : i < n) (h : S.contains (i : Int) = true) (hm : ∀ m, m < i → S.contains (m : Int) = false) : firstBad n S = some i := by
  unfold firstBad
  rw [List.find?_range_eq_some]
  exact ⟨h, by simpa using hi, fun j hj => by rw [hm j hj]; rfl⟩
theorem firstBad_none {n : Nat} {S : List Int} (hm : ∀ m, m < n → S.contains (m : Int) = false) : firstBad n S = none := by
  unfold firstBad
  rw [List.find?_eq_none]
  intro x hx
  rw [hm x (List.mem_range.mp hx)]
  exact Bool.noConfusion
def kndKV : List (Key × V) := [(Sum.inr "web", .int 0), (Sum.inr "source", .int 1), (Sum.inr "quantity", .int 2), (Sum.inr "targets", .int 3), (Sum.inr "nudge", .int 4), (Sum.inr "order", .int 5), (Sum.inr "links", .int 6)]
theorem knd_get {t : Nat} (h : t < 7) : valV kndKV (Sum.inr (nmT t)) = some (.int (t : Int)) := by
  rcases (show t = 0 ∨ t = 1 ∨ t = 2 ∨ t = 3 ∨ t = 4 ∨ t = 5 ∨ t = 6 by omega) with rfl | rfl | rfl | rfl | rfl | rfl | rfl <;> rfl
def sp_due (K : PySem.W.Frag) : Sp := fun vs H Q _ => ∃ (x : V) (lp ln : Addr) (S : List Int) (ts : List Nat), vs = [x, .ref lp, .ref ln] ∧ H lp = some (.lst (S.map V.int)) ∧ H ln = some (.lst (ts.map fun t => .str (nmT t))) ∧ (∀ t ∈ ts, t < 7) ∧ ts.length ≤ 3 ∧ ∀ H', Ex H H' → Q (dueTV ts S) H'
section
variable {P : Program} {w : World} {K : PySem.W.Frag} {mg : Str → Option Value} {base : Heap}
theorem ok_due {f : Addr} {fd : FuncData} (T : Txt K mg) (F : Fun K "_law_due" "_law_due" s_due f fd) :
    FnG P w K mg base CX0 1 f fd P_due (sp_due K) := by
  refine okG0 F sc_due (fun vs H Q E h => ?_) (fun cdv A outer s H vs Q E hr hq h => ?_)
  · obtain ⟨x, lp, ln, S, ts, rfl, _⟩ := h
    rfl
  · obtain ⟨x, lp, ln, S, ts, rfl, hp, hn, ht, hl, q⟩ := h
    refine ⟨_, (pss_cons (ps_set (i := 3) sc_due.nd rfl (by first | exact .inl rfl | exact .inr rfl) (pe_disp (pps_cons pe_str pe_int (pps_cons pe_str pe_int (pps_cons pe_str pe_int (pps_cons pe_str pe_int (pps_cons pe_str pe_int (pps_cons pe_str pe_int (pps_cons pe_str pe_int pps_nil))))))) (by decide) (by decide) (by decide) (by decide)))
      (pss_cons (ps_for PassesOwn.never rfl (pi_range1 (by rfl) T.b_range (pa_cons (pe_callB (call_lenK K) (by rfl) T.b_len bt_len (pa_cons (pv 2) pa_nil)) pa_nil)) (pg_name (i := 4) sc_due.nd rfl (by first | exact .inl rfl | exact .inr rfl)) (pss_one (ps_if (pt_cmpR (op_inK K) (pv 4) (pv 1) (by rfl)) (pss_one (ps_ret (pe_dgetK hr (pv 3) (pe_ix (ix_listK K) (pv 2) (pv 4) (fun _ _ => rfl)) (fun _ _ => rfl)))) pss_nil)))
      (pss_one (ps_ret pe_non)))), ?_⟩
    refine fun D hD => ⟨upd_same, kndKV, rfl, by decide, ?_⟩
    rw [show mergeK [] kndKV = kndKV from rfl]
    have e1 : Ex H (upd (upd H D (.dK [])) D (.dK kndKV)) := (Ex.nw hD).wr hD
    have f1 : (upd (upd H D (.dK [])) D (.dK kndKV)) D = some (.dK kndKV) := upd_same
    generalize upd (upd H D (.dK [])) D (.dK kndKV) = H1 at e1 f1
    have hn1 := e1 _ _ hn
    have hp1 := e1 _ _ hp
    have tl : (ts.map fun t => V.str (nmT t)).length = ts.length := List.length_map ..
    refine ⟨_, rfl, ln, _, rfl, .inl (.inl (.inl hn1)), _, rfl, by rw [tl]; omega, by rw [tl]; omega, ?_⟩
    rw [tl]
    refine for_by ts.length (fun i σ H' => ∃ y4, σ = [some x, some (.ref lp), some (.ref ln), some (.ref D), y4] ∧ H' = H1 ∧ ∀ m, m < i → S.contains (m : Int) = false) ⟨_, rfl, rfl, fun m h => absurd h (Nat.not_lt_zero _)⟩ (fun i σ H' hi p => by show i < _; omega) (fun σ H' p => by show _ ≤ _; omega) ?_ ?_
    · rintro i σ H2 z H3 hi ⟨y4, rfl, rfl, hm⟩ ⟨rfl, rfl⟩
      rw [show (0 + (i : Int)) = (i : Int) by omega]
      refine ⟨_, rfl, _, rfl, lp, _, rfl, .inl (.inl (.inl hp1)), rfl, flat_ints, _, rfl, ?_⟩
      rw [inV_int]
      cases hc : S.contains (i : Int) with
      | true =>
        refine ite2 (fun _ => ?_) (fun h => absurd rfl h)
        have hx := List.getElem?_eq_getElem hi
        generalize hg : ts[i] = t at hx
        have h7 := ht t (List.mem_of_getElem? hx)
        refine ⟨_, rfl, _, rfl, _, rfl, ln, _, (i : Int), .str (nmT t), rfl, rfl, .inl (.inl hn1), atI_int (by omega) (by rw [show ((i : Int)).toNat = i by omega, List.getElem?_map, hx]; rfl), D, .int t, rfl, by rw [← knd_get h7]; exact DGet.k (k := Sum.inr (nmT t)) f1, ?_⟩
        have := q _ e1
        rw [dueTV, firstBad_some hi hc hm] at this
        have eg : ts.getD i 0 = t := by rw [List.getD_eq_getElem?_getD, hx]; rfl
        have := show Q (.int ((ts.getD i 0 : Nat) : Int)) H3 from this
        rw [eg] at this
        exact this
      | false =>
        refine ite2 (fun h => Bool.noConfusion h) (fun _ => ⟨_, rfl, rfl, fun m h => ?_⟩)
        rcases Nat.lt_succ_iff_lt_or_eq.mp h with h | rfl
        · exact hm m h
        · exact hc
    · rintro σ H2 ⟨y4, rfl, rfl, hm⟩
      have := q _ e1
      rw [dueTV, firstBad_none hm] at this
      exact this
end

end K46
namespace K46
open PySem PySem.Spec PyProof.Rows L2 Nw
/-! _law_purse: slots 0 _law_script, 1 _law_k, 2 _law_cell -/
abbrev s_purse : Stmt := topS 49
abbrev N_purse : List Str := ["_law_script", "_law_k", "_law_cell"]
abbrev P_purse : List Str := ["_law_script", "_law_k"]
theorem sc_purse : FnScope N_purse P_purse (defScope s_purse) := ⟨rfl, rfl, rfl, by decide +kernel, rfl, by decide +kernel, by decide +kernel⟩
def sp_purse (K : PySem.W.Frag) : Sp := fun vs H Q _ => ∃ (a : Addr) (ns : List Int) (k : Int), vs = [.ref a, .int k] ∧ SqL K H a (ns.map V.int) ∧ (0 ≤ k ∧ k ≤ 63) ∧
  ∀ p H', H p = none → Ex H H' → Purse H' p 0 → Q (.ref p) H'
section
variable {P : Program} {w : World} {K : PySem.W.Frag} {mg : Str → Option Value} {base : Heap}
theorem ok_purse {f : Addr} {fd : FuncData} (T : Txt K mg) (F : Fun K "_law_purse" "_law_purse" s_purse f fd) :
    FnG P w K mg base CX0 1 f fd P_purse (sp_purse K) := by
  refine okG0 F sc_purse (fun vs H Q E h => ?_) (fun cdv A outer s H vs Q E hr hq h => ?_)
  · obtain ⟨a, ns, k, rfl, _⟩ := h
    rfl
  · obtain ⟨a, ns, k, rfl, hS, hk, q⟩ := h
    have fin : ∀ (z x y : Int) (p : Addr), H p = none → 0 ≤ x → Q (.ref p) (upd H p (.lst [.int x, .int (y.fmod (10 ^ Int.toNat 41 + 37) + 90001 * k + 17), .int 0])) :=
      fun z x y p hp hx => q p _ hp (Ex.nw hp) ⟨_, _, _, upd_same, hx, purse_new (x := z) hk, by omega, by omega⟩
    refine ⟨_, (pss_cons (ps_set (i := 2) sc_purse.nd rfl (by first | exact .inl rfl | exact .inr rfl) (pe_ifExp (pt_cmpR op_lt (pv 1) (pe_callB (call_lenK K) (by rfl) T.b_len bt_len (pa_cons (pv 0) pa_nil)) (nomark _)) (pe_ix (ix_listK K) (pv 0) (pv 1) (fun _ _ => rfl)) pe_int))
      (pss_one (ps_ret (pe_lst (pa_cons (pe_callB (call_max2 rfl) (by rfl) T.b_max bt_max (pa_cons pe_int (pa_cons (pe_op op_sub (pv 2) (pe_op op_powW pe_int pe_int)) pa_nil))) (pa_cons (pe_op op_add (pe_op op_add (pe_op op_modN (pe_callTy call_int1 (by rfl) T.b_int bt_int (pa_cons (pe_callB call_abs (by rfl) T.b_abs bt_abs (pa_cons (pv 2) pa_nil)) pa_nil)) (pe_op op_add (pe_op op_powW pe_int pe_int) pe_int)) (pe_op op_mul pe_int (pv 1))) pe_int) (pa_cons pe_int pa_nil))))))), ?_⟩
    refine ⟨_, rfl, _, rfl, a, _, rfl, .inl hS, _, _, rfl, rfl, _, rfl, ?_⟩
    refine ite2 (fun h1 => ?_) (fun h1 => ?_)
    · have h2 : k.toNat < ns.length := by
        simp only [List.length_map, decide_eq_true_eq] at h1
        omega
      refine ⟨_, rfl, _, rfl, a, _, k, .int (ns[k.toNat]), rfl, rfl, hS, atI_int hk.1 (by rw [List.getElem?_map, List.getElem?_eq_getElem h2]; rfl), ?_⟩
      refine ⟨_, rfl, _, _, rfl, rfl, cpow10 (by decide) (by decide), _, _, rfl, rfl, _, _, rfl, ?_⟩
      refine ⟨_, rfl, _, rfl, .inl ⟨_, rfl, _, _, rfl, rfl, cpow10 (by decide) (by decide), _, _, rfl, rfl, _, _, rfl, rfl, ne41, ?_⟩⟩
      refine ⟨_, rfl, _, _, rfl, rfl, .inl ⟨by decide, by decide⟩, _, _, rfl, rfl, _, _, rfl, rfl, by show 3 ≤ sizeLine; decide, fun p hp => ?_⟩
      exact fin (ns[k.toNat]) _ _ p hp (by split <;> omega)
    · refine ⟨_, rfl, _, _, rfl, rfl, cpow10 (by decide) (by decide), _, _, rfl, rfl, _, _, rfl, ?_⟩
      refine ⟨_, rfl, _, rfl, .inl ⟨_, rfl, _, _, rfl, rfl, cpow10 (by decide) (by decide), _, _, rfl, rfl, _, _, rfl, rfl, ne41, ?_⟩⟩
      refine ⟨_, rfl, _, _, rfl, rfl, .inl ⟨by decide, by decide⟩, _, _, rfl, rfl, _, _, rfl, rfl, by show 3 ≤ sizeLine; decide, fun p hp => ?_⟩
      exact fin 0 _ _ p hp (by split <;> omega)
end

/-! _law_coin: slots 0 _law_purse_here, 1 _law_many, 2 _law_found, 3 _law_mixed -/
abbrev s_coin : Stmt := topS 50
abbrev N_coin : List Str := ["_law_purse_here", "_law_many", "_law_found", "_law_mixed"]
abbrev P_coin : List Str := ["_law_purse_here", "_law_many"]
theorem sc_coin : FnScope N_coin P_coin (defScope s_coin) := ⟨rfl, rfl, rfl, by decide +kernel, rfl, by decide +kernel, by decide +kernel⟩
def sp_coin (K : PySem.W.Frag) : Sp := fun vs H Q _ => ∃ (p : Addr) (m : Int) (n : Nat), vs = [.ref p, .int m] ∧ (0 < m ∧ m < 1000000000000000000000000000000000000000000000000000000000000) ∧ Purse H p n ∧ n ≤ 1000000000 ∧
  ∀ z H', (0 ≤ z ∧ z < m) → Purse H' p (n + 1) → ExD p H H' → Q (.int z) H'
section
variable {P : Program} {w : World} {K : PySem.W.Frag} {mg : Str → Option Value} {base : Heap}
theorem ok_coin {f : Addr} {fd : FuncData} (T : Txt K mg) (F : Fun K "_law_coin" "_law_coin" s_coin f fd) :
    FnG P w K mg base CX0 1 f fd P_coin (sp_coin K) := by
  refine okG0 F sc_coin (fun vs H Q E h => ?_) (fun cdv A outer s H vs Q E hr hq h => ?_)
  · obtain ⟨p, m, n, rfl, _⟩ := h
    rfl
  · obtain ⟨p, m, n, rfl, hm, ⟨b, c, e, hp, hb, hc, he⟩, hn, q⟩ := h
    have hS : SqL K H p [.int b, .int c, .int e] := .inl (.inl hp)
    refine ⟨_, (pss_cons (ps_if (pt_cmpR op_gt (pe_ix (ix_listK K) (pv 0) pe_int (fun _ _ => rfl)) pe_int (nomark _)) (pss_cons (ps_set (i := 2) sc_coin.nd rfl (by first | exact .inl rfl | exact .inr rfl) (pe_op op_modN (pe_callTy call_int1 (by rfl) T.b_int bt_int (pa_cons (pe_ix (ix_listK K) (pv 0) pe_int (fun _ _ => rfl)) pa_nil)) (pv 1)))
      (pss_cons (ps_asg (pe_op op_fdivW (pe_ix (ix_listK K) (pv 0) pe_int (fun _ _ => rfl)) (pv 1)) (pg_sub (pv 0) pe_int set_list))
      (pss_one (ps_ret (pv 2))))) pss_nil)
      (pss_cons (ps_asg (pe_op op_add (pe_ix (ix_listK K) (pv 0) pe_int (fun _ _ => rfl)) pe_int) (pg_sub (pv 0) pe_int set_list))
      (pss_cons (ps_set (i := 3) sc_coin.nd rfl (by first | exact .inl rfl | exact .inr rfl) (pe_op op_modN (pe_callTy call_int1 (by rfl) T.b_int bt_int (pa_cons (pe_op op_powW (pe_op op_add (pe_ix (ix_listK K) (pv 0) pe_int (fun _ _ => rfl)) (pe_op op_mul pe_int (pe_ix (ix_listK K) (pv 0) pe_int (fun _ _ => rfl)))) pe_int) pa_nil)) (pe_op op_add (pe_op op_powW pe_int pe_int) pe_int)))
      (pss_cons (ps_set (i := 3) sc_coin.nd rfl (by first | exact .inl rfl | exact .inr rfl) (pe_op op_modN (pe_callTy call_int1 (by rfl) T.b_int bt_int (pa_cons (pe_op op_powW (pe_op op_add (pv 3) (pe_op op_mul pe_int (pe_ix (ix_listK K) (pv 0) pe_int (fun _ _ => rfl)))) pe_int) pa_nil)) (pe_op op_add (pe_op op_powW pe_int pe_int) pe_int)))
      (pss_one (ps_ret (pe_op op_modN (pe_callTy call_int1 (by rfl) T.b_int bt_int (pa_cons (pe_op op_fdivW (pv 3) pe_int) pa_nil)) (pv 1)))))))), ?_⟩
    refine ⟨_, rfl, p, _, 0, _, rfl, rfl, hS, rfl, _, _, rfl, rfl, _, rfl, ?_⟩
    refine ite2 (fun h1 => ?_) (fun h1 => ?_)
    · refine ⟨_, rfl, p, _, 0, _, rfl, rfl, hS, rfl, .inl ⟨_, rfl, _, rfl, _, _, rfl, rfl, by omega, ?_⟩⟩
      refine ⟨_, rfl, p, _, 0, _, rfl, rfl, hS, rfl, _, rfl, _, _, rfl, rfl, great_div hm.1 hm.2, ?_⟩
      refine ⟨_, rfl, p, _, 0, 0, rfl, rfl, hp, rfl, _, rfl, ?_⟩
      exact q _ _ (fmod_in hm.1) ⟨_, _, _, upd_same, div_in hb hm.1, hc, he.1, by omega⟩ ExD.put
    · refine ⟨_, rfl, p, _, 2, _, rfl, rfl, hS, rfl, _, _, rfl, rfl, ?_⟩
      refine ⟨_, rfl, p, _, 2, 2, rfl, rfl, hp, rfl, ?_⟩
      have hS2 : SqL K (upd H p (.lst [.int b, .int c, .int (e + 1)])) p [.int b, .int c, .int (e + 1)] := .inl (.inl upd_same)
      have b1 : 0 ≤ c + 15485863 * (e + 1) ∧ c + 15485863 * (e + 1) < 10 ^ 60 := by
        rw [p42] at hc
        rw [p60]
        omega
      refine ⟨_, rfl, p, _, 1, _, rfl, rfl, hS2, rfl, _, rfl, p, _, 2, _, rfl, rfl, hS2, rfl, _, _, rfl, rfl, .inl ⟨by decide, by decide⟩, _, _, rfl, rfl, ?_⟩
      refine ⟨_, _, rfl, rfl, cpow3 b1.1 b1.2, .inl ⟨_, rfl, _, _, rfl, rfl, cpow10 (by decide) (by decide), _, _, rfl, rfl, _, _, rfl, rfl, ne43, ?_⟩⟩
      have b2 := fmod_in (a := (c + 15485863 * (e + 1)) ^ Int.toNat 3) (m := 10 ^ Int.toNat 43 + 29) (by rw [p43]; decide)
      have b3 : ∀ y : Int, 0 ≤ y ∧ y < 10 ^ Int.toNat 43 + 29 → 0 ≤ y + 49979687 * (e + 1) ∧ y + 49979687 * (e + 1) < 10 ^ 60 := by
        intro y b2
        rw [p43] at b2
        rw [p60]
        omega
      refine ⟨_, rfl, _, rfl, p, _, 2, _, rfl, rfl, hS2, rfl, _, _, rfl, rfl, .inl ⟨by decide, by decide⟩, _, _, rfl, rfl, ?_⟩
      refine ⟨_, _, rfl, rfl, cpow3 (b3 _ b2).1 (b3 _ b2).2, .inl ⟨_, rfl, _, _, rfl, rfl, cpow10 (by decide) (by decide), _, _, rfl, rfl, _, _, rfl, rfl, ne45, ?_⟩⟩
      refine ⟨_, rfl, _, _, rfl, rfl, small_div' (by decide) (by decide), .inl ⟨_, rfl, _, rfl, _, _, rfl, rfl, by omega, ?_⟩⟩
      exact q _ _ (fmod_in hm.1) ⟨_, _, _, upd_same, hb, hc, by omega, by omega⟩ ExD.put
end

/-! _law_targets: slots 0 _law_purse_here, 1 _law_count_here, 2 _law_found, 3 _law_at -/
abbrev s_targets : Stmt := topS 51
abbrev N_targets : List Str := ["_law_purse_here", "_law_count_here", "_law_found", "_law_at"]
abbrev P_targets : List Str := ["_law_purse_here", "_law_count_here"]
theorem sc_targets : FnScope N_targets P_targets (defScope s_targets) := ⟨rfl, rfl, rfl, by decide +kernel, rfl, by decide +kernel, by decide +kernel⟩
def sp_targets (K : PySem.W.Frag) : Sp := fun vs H Q _ => ∃ (p : Addr) (n : Int) (m : Nat), vs = [.ref p, .int n] ∧ (1 ≤ n ∧ n ≤ 20) ∧ Purse H p m ∧ m ≤ 1000000 ∧
  ∀ (l : Addr) (r : List Int) H', H l = none → ExD p H H' → Purse H' p (m + 21) → H' l = some (.lst (r.map V.int)) →
    r ≠ [] ∧ (∀ t ∈ r, 0 ≤ t ∧ t < n) ∧ ascB ltIn r = true → Q (.ref l) H'
section
variable {P : Program} {w : World} {K : PySem.W.Frag} {mg : Str → Option Value} {base : Heap}
theorem ok_targets {f : Addr} {fd : FuncData} (T : Txt K mg) (F : Fun K "_law_targets" "_law_targets" s_targets f fd)
    (D_coin : DefOk P w K mg base CX0 1 "_law_coin" P_coin (sp_coin K)) :
    FnG P w K mg base CX0 2 f fd P_targets (sp_targets K) := by
  refine okG0 F sc_targets (fun vs H Q E h => ?_) (fun cdv A outer s H vs Q E hr hq h => ?_)
  · obtain ⟨p, n, m, rfl, _⟩ := h
    rfl
  · obtain ⟨p, n, m, rfl, hn, hp, hm, q⟩ := h
    refine ⟨_, (pss_cons (ps_setLc (i := 2) (own := [("_law_at", 3)]) rfl sc_targets.nd rfl rfl (sw_true rfl rfl rfl (by decide +kernel)) (pi_range1 (by rfl) T.b_range (pa_cons (pv 1) pa_nil)) (blkOk_by (N := N_targets) (sc := defScope s_targets) (by decide +kernel)) (fun _ _ _ _ _ => (pg_name (i := 3) sc_targets.nd rfl (by first | exact .inl rfl | exact .inr rfl))) (fun _ _ _ _ _ => (pts_one (pt_cmpR op_eq (pe_callD D_coin (hr.mono (by decide)) hq pass0 (pa_cons (pv 0) (pa_cons pe_int pa_nil))) pe_int (nomark _)))) (fun _ _ _ _ _ => (pv 3)))
      (pss_one (ps_ret (pe_ifExp (pt_cmpR (op_neDk K hr.units) (pv 2) (pe_lst pa_nil) (nomark _)) (pv 2) (pe_lst (pa_cons (pe_callD D_coin (hr.mono (by decide)) hq pass0 (pa_cons (pv 0) (pa_cons (pv 1) pa_nil))) pa_nil)))))), ?_⟩
    refine ⟨_, rfl, _, rfl, by omega, by omega, fun D hD => ?_⟩
    have pD := hp.off hD
    refine lc_by n.toNat (fun i H' => ExD p H H' ∧ Purse H' p (m + i) ∧ ∃ r : List Int, H' D = some (.lst (r.map V.int)) ∧ ascB ltIn r = true ∧
        (∀ t ∈ r, 0 ≤ t ∧ t < (i : Int)) ∧ r.length ≤ i)
      ⟨ExD.nw hD, hp.put pD.symm, [], upd_same, rfl, fun t ht => (by cases ht), Nat.le_refl _⟩ (fun i H' hi _ => hi) (fun H' _ => Nat.le_refl _) ?_ ?_
    · rintro i H1 x H2 hi ⟨e1, p1, r, hr1, ha, hb, hl⟩ ⟨rfl, rfl⟩
      refine ⟨rfl, ?_⟩
      refine ⟨_, rfl, p, 3, _, rfl, by decide, p1, by omega, fun z H3 hz p3 e3 => ?_⟩
      have hr3 := e3 D _ pD hr1
      refine ⟨rfl, _, rfl, ite2 (fun _ => ?_) (fun _ => ?_)⟩
      · refine ⟨_, rfl, _, hr3, mil' (by rw [List.length_map]; omega), (e1.tr e3).wr hD, p3.put pD.symm, r ++ [0 + (i : Int)], ?_, ?_, ?_, ?_⟩
        · rw [upd_same, List.map_append]
          rfl
        · exact asc_snoc ha fun t ht => by have := hb t ht; omega
        · intro t ht
          rcases List.mem_append.mp ht with ht | ht
          · have := hb t ht
            omega
          · obtain rfl := List.mem_singleton.mp ht
            omega
        · rw [List.length_append, List.length_singleton]
          omega
      · exact ⟨e1.tr e3, p3, r, hr3, ha, fun t ht => by have := hb t ht; omega, by omega⟩
    · rintro H1 ⟨e1, p1, r, hr1, ha, hb, hl⟩
      have lr : r.length ≤ 100000 := by omega
      refine ⟨_, rfl, Nat.zero_le _, fun z hz => ?_⟩
      have dD : Dp K (upd H1 z (.lst [])) (.ref D) (dInts r) := ((dInts_of hr1 lr).up (Ex.nw hz)).dInts
      have dz : Dp K (upd H1 z (.lst [])) (.ref z) (dInts []) := Da.dInts (dInts_of upd_same (by decide))
      refine ⟨_, _, dD, dz, sh_dInts _, sh_dInts _, _, rfl, ?_⟩
      rw [eqv_dInts]
      refine ite2 (fun h1 => ?_) (fun h1 => ?_)
      · refine ⟨_, rfl, q D r _ hD (e1.tr (ExD.nw hz)) ((p1.up (Ex.nw hz)).mono (by omega)) ?_ ⟨by simpa using h1, fun t ht => by have := hb t ht; omega, ha⟩⟩
        rw [upd_ne (ne_of_none hr1 hz)]
        exact hr1
      · refine ⟨_, rfl, _, rfl, p, n, m + n.toNat, rfl, by omega, p1.up (Ex.nw hz), by omega, fun y H2 hy p2 e2 => ⟨by show 1 ≤ sizeLine; decide, fun l hl => ?_⟩⟩
        refine q l [y] _ ?_ ((e1.tr (ExD.nw hz)).tr (e2.tr (ExD.nw hl))) ((p2.up (Ex.nw hl)).mono (by omega)) upd_same ⟨by simp, ?_, rfl⟩
        · exact Purse.fr ((e1.tr (ExD.nw hz)).tr e2) p2 hl
        · intro t ht
          obtain rfl := List.mem_singleton.mp ht
          exact hy
end

/-! _law_web: slots 0 _law_purse_here, 1 _law_most_here, 2 _law_most_nudges, 3 _law_count_here, 4 _law_chance, 5 _law_pairs_here, 6 _law_one, 7 _law_other, 8 _law_nudges_here, 9 _law_turn -/
abbrev s_web : Stmt := topS 52
abbrev N_web : List Str := ["_law_purse_here", "_law_most_here", "_law_most_nudges", "_law_count_here", "_law_chance", "_law_pairs_here", "_law_one", "_law_other", "_law_nudges_here", "_law_turn"]
abbrev P_web : List Str := ["_law_purse_here", "_law_most_here", "_law_most_nudges"]
theorem sc_web : FnScope N_web P_web (defScope s_web) := ⟨rfl, rfl, rfl, by decide +kernel, rfl, by decide +kernel, by decide +kernel⟩
/-- some web, off the purse -/
def sp_web (K : PySem.W.Frag) : Sp := fun vs H Q _ => ∃ (p : Addr) (most mn : Int) (m : Nat), vs = [.ref p, .int most, .int mn] ∧ (1 ≤ most ∧ most ≤ 20) ∧ (0 ≤ mn ∧ mn ≤ 8) ∧
  Purse H p m ∧ m ≤ 100000 ∧
  ∀ (v : V) (u : Wb) H', ExD p H H' → Purse H' p (m + 700) → Da K (rm H' p) u.d v → u.Ok → u.n ≤ most → (u.ns.length : Int) ≤ mn → Q v H'
section
variable {P : Program} {w : World} {K : PySem.W.Frag} {mg : Str → Option Value} {base : Heap}
theorem ok_web {f : Addr} {fd : FuncData} (T : Txt K mg) (F : Fun K "_law_web" "_law_web" s_web f fd)
    (D_coin : DefOk P w K mg base CX0 1 "_law_coin" P_coin (sp_coin K))
    (D_targets : DefOk P w K mg base CX0 2 "_law_targets" P_targets (sp_targets K)) :
    FnG P w K mg base CX0 3 f fd P_web (sp_web K) := by
  refine okG0 F sc_web (fun vs H Q E h => ?_) (fun cdv A outer s H vs Q E hr hq h => ?_)
  · obtain ⟨p, most, mn, m, rfl, _⟩ := h
    rfl
  · obtain ⟨p, most, mn, m, rfl, hmost, hmn, hp, hm, q⟩ := h
    refine ⟨_, (pss_cons (ps_asg (pe_tup (pa_cons (pe_op op_add pe_int (pe_callD D_coin (hr.mono (by decide)) hq pass0 (pa_cons (pv 0) (pa_cons (pv 1) pa_nil)))) (pa_cons (pe_op op_add pe_int (pe_callD D_coin (hr.mono (by decide)) hq pass0 (pa_cons (pv 0) (pa_cons pe_int pa_nil)))) (pa_cons (pe_lst pa_nil) pa_nil)))) (pg_tupK (n := 3) K rfl (pgs_cons (pg_name (i := 3) sc_web.nd rfl (by first | exact .inl rfl | exact .inr rfl)) (pgs_cons (pg_name (i := 4) sc_web.nd rfl (by first | exact .inl rfl | exact .inr rfl)) (pgs_cons (pg_name (i := 5) sc_web.nd rfl (by first | exact .inl rfl | exact .inr rfl)) pgs_nil)))))
      (pss_cons (ps_for PassesOwn.never rfl (pi_range1 (by rfl) T.b_range (pa_cons (pv 3) pa_nil)) (pg_name (i := 6) sc_web.nd rfl (by first | exact .inl rfl | exact .inr rfl)) (pss_one (ps_expr (pe_bm PySem.F.plainAttrs_list PySem.F.slot_list_extend PySem.F.type_list_extend mt_extend (pv 5) (pa_cons (pe_lc (own := [("_law_other", 7)]) rfl sc_web.nd (pi_range1 (by rfl) T.b_range (pa_cons (pv 3) pa_nil)) (blkOk_by (N := N_web) (sc := defScope s_web) (by decide +kernel)) (fun _ _ _ _ _ => (pg_name (i := 7) sc_web.nd rfl (by first | exact .inl rfl | exact .inr rfl))) (fun _ _ _ _ _ => (pts_one (pt_cmpR op_eq (pe_callD D_coin (hr.mono (by decide)) hq pass0 (pa_cons (pv 0) (pa_cons (pv 4) pa_nil))) pe_int (nomark _)))) (fun _ _ _ _ _ => (pe_tup (pa_cons (pv 6) (pa_cons (pv 7) pa_nil))))) pa_nil)))))
      (pss_cons (ps_setLc (i := 8) (own := [("_law_turn", 9)]) rfl sc_web.nd rfl rfl (sw_true rfl rfl rfl (by decide +kernel)) (pi_range1 (by rfl) T.b_range (pa_cons (pe_callD D_coin (hr.mono (by decide)) hq pass0 (pa_cons (pv 0) (pa_cons (pe_op op_add (pv 2) pe_int) pa_nil))) pa_nil)) (blkOk_by (N := N_web) (sc := defScope s_web) (by decide +kernel)) (fun _ _ _ _ _ => (pg_name (i := 9) sc_web.nd rfl (by first | exact .inl rfl | exact .inr rfl))) (fun _ _ _ _ _ => pts_nil) (fun _ _ _ _ _ => (pe_callD D_targets (hr.mono (by decide)) hq pass0 (pa_cons (pv 0) (pa_cons (pv 3) pa_nil)))))
      (pss_one (ps_ret (pe_tup (pa_cons (pv 3) (pa_cons (pv 5) (pa_cons (pv 8) pa_nil))))))))), ?_⟩
    refine ⟨_, rfl, _, rfl, p, most, m, rfl, by omega, hp, by omega, fun z1 H1 hz1 p1 e1 => ⟨_, _, rfl, rfl, ?_⟩⟩
    refine ⟨_, rfl, p, 7, m + 1, rfl, by decide, p1, by omega, fun z2 H2 hz2 p2 e2 => ⟨_, _, rfl, rfl, ?_⟩⟩
    refine ⟨Nat.zero_le _, fun L hL => ⟨by show 3 ≤ sizeLine; decide, fun T1 hT1 => ?_⟩⟩
    have pL := p2.off hL
    have TL : T1 ≠ L := fun e => by
      rw [e, upd_same] at hT1
      cases hT1
    refine ⟨T1, _, rfl, .inl (.inl upd_same), rfl, _, _, rfl, _, _, rfl, _, _, rfl, rfl, ?_⟩
    -- the pairs
    refine ⟨_, rfl, _, rfl, by omega, by omega, ?_⟩
    have e20 : ExD p H (upd (upd H2 L (.lst [])) T1 (.tup [.int (1 + z1), .int (1 + z2), .ref L])) := ((e1.tr e2).tr (ExD.nw hL)).tr (ExD.nw hT1)
    have hL0 : (upd (upd H2 L (.lst [])) T1 (.tup [.int (1 + z1), .int (1 + z2), .ref L])) L = some (.lst []) := by
      rw [upd_ne TL.symm, upd_same]
    have HL : H L = none := Purse.fr (e1.tr e2) p2 hL
    have HT1 : H2 T1 = none := by rw [upd_ne TL] at hT1; exact hT1
    have p20 : Purse (upd (upd H2 L (.lst [])) T1 (.tup [.int (1 + z1), .int (1 + z2), .ref L])) p (m + 2) :=
      (p2.put pL.symm).put (p2.off HT1).symm
    refine for_by (1 + z1).toNat (fun i σ H' => ∃ y6 y7 y8 y9, σ = [some (V.ref p), some (V.int most), some (V.int mn), some (V.int (1 + z1)), some (V.int (1 + z2)), some (V.ref L), y6, y7, y8, y9] ∧
        ExD p H H' ∧ Purse H' p (m + 2 + 20 * i) ∧ ∃ (acc : List V) (ps : List (Int × Int)), H' L = some (.lst acc) ∧ DaAll K (rm (rm H' p) L) (ps.map dPair) acc ∧
        ascB ltPr ps = true ∧ (∀ x ∈ ps, (0 ≤ x.1 ∧ x.1 < (i : Int)) ∧ (0 ≤ x.2 ∧ x.2 < 1 + z1)) ∧ ps.length ≤ 20 * i)
      ⟨_, _, _, _, rfl, e20, p20, [], [], hL0, rfl, rfl, fun x hx => (by cases hx), Nat.le_refl _⟩ (fun i σ H' hi _ => hi) (fun σ H' _ => Nat.le_refl _) ?_ ?_
    · rintro i σ H3 x H4 hi ⟨y6, y7, y8, y9, rfl, e3, p3, acc, ps, hL3, hA3, ha, hb, hl⟩ ⟨rfl, rfl⟩
      refine ⟨_, rfl, .inl ⟨rfl, _, .inl (.inl hL3)⟩, ?_⟩
      refine ⟨_, rfl, _, rfl, by omega, by omega, fun D hD => ?_⟩
      have Dp := p3.off hD
      have DL : D ≠ L := fun e => by
        rw [e, hL3] at hD
        cases hD
      refine lc_by (1 + z1).toNat (fun j H' => ExD p H4 H' ∧ Purse H' p (m + 2 + 20 * i + j) ∧ ∃ (ac2 : List V) (p2 : List (Int × Int)), H' D = some (.lst ac2) ∧
          DaAll K (rm (rm (rm H' p) L) D) (p2.map dPair) ac2 ∧ ascB ltPr p2 = true ∧ (∀ x ∈ p2, x.1 = (i : Int) ∧ (0 ≤ x.2 ∧ x.2 < (j : Int))) ∧ p2.length ≤ j)
        ⟨ExD.nw hD, p3.put Dp.symm, [], [], upd_same, rfl, rfl, fun x hx => (by cases hx), Nat.le_refl _⟩ (fun j H' hj _ => hj) (fun H' _ => Nat.le_refl _) ?_ ?_
      · rintro j H5 x H6 hj ⟨e5, p5, ac2, ps2, hD5, hA5, ha5, hb5, hl5⟩ ⟨rfl, rfl⟩
        refine ⟨rfl, ?_⟩
        refine ⟨_, rfl, _, rfl, p, 1 + z2, _, rfl, by omega, p5, by omega, fun z H7 hz p7 e7 => ?_⟩
        have hD7 := e7 D _ Dp hD5
        have hA7 : DaAll K (rm (rm (rm H7 p) L) D) (ps2.map dPair) ac2 := hA5.up (Ex.rm (Ex.rm e7.rm))
        refine ⟨rfl, _, rfl, ite2 (fun _ => ?_) (fun _ => ?_)⟩
        · refine ⟨_, rfl, _, rfl, by show 2 ≤ sizeLine; decide, fun T2 hT2 => ?_⟩
          have T2D : T2 ≠ D := fun e => by
            rw [e, hD7] at hT2
            cases hT2
          have T2p := p7.off hT2
          have T2L : T2 ≠ L := fun e => by
            have h9 := e7 L _ pL (e5 L _ pL hL3)
            rw [e, h9] at hT2
            cases hT2
          have hA8 := hA7.len
          rw [List.length_map] at hA8
          refine ⟨ac2, by rw [upd_ne T2D.symm]; exact hD7, mil' (by omega), ((e5.tr e7).tr (ExD.nw hT2)).wr hD, (p7.up (Ex.nw hT2)).put Dp.symm, ac2 ++ [.ref T2], ps2 ++ [(0 + (i : Int), 0 + (j : Int))], upd_same, ?_, ?_, ?_, ?_⟩
          · rw [List.map_append]
            refine (hA7.up (ex_rm3 fun b o _ _ n3 h => ?_)).app ⟨_, _, rfl, dPair_of (p := (0 + (i : Int), 0 + (j : Int))) ?_, rfl⟩
            · rw [upd_ne n3, upd_ne (ne_of_none h hT2)]
              exact h
            · rw [rm_ne T2D, rm_ne T2L, rm_ne T2p, upd_ne T2D, upd_same]
          · exact ascP_snoc ha5 fun t ht => ltPr_iff.mpr (by have := hb5 t ht; simp only; omega)
          · intro x hx
            rcases List.mem_append.mp hx with hx | hx
            · have := hb5 x hx
              omega
            · obtain rfl := List.mem_singleton.mp hx
              simp only
              omega
          · rw [List.length_append, List.length_singleton]
            omega
        · exact ⟨e5.tr e7, p7, ac2, ps2, hD7, hA7, ha5, fun x hx => by have := hb5 x hx; omega, by omega⟩
      · rintro H5 ⟨e5, p5, ac2, ps2, hD5, hA5, ha5, hb5, hl5⟩
        have hL5 := e5 L _ pL hL3
        have l1 := hA3.len
        have l2 := hA5.len
        rw [List.length_map] at l1 l2
        refine ⟨L, D, acc, ac2, rfl, rfl, hL5, hD5, mil (by omega), ?_⟩
        refine ⟨_, _, _, _, rfl, (e3.tr e5).wr HL, (p5.put pL.symm).mono (by omega), acc ++ ac2, ps ++ ps2, upd_same, ?_, ?_, ?_, ?_⟩
        · rw [List.map_append]
          refine (hA3.up (ex_rm2 fun b o n1 n2 h => ?_)).app (hA5.up (rm_ex.tr (ex_rm2 fun b o n1 n2 h => ?_)))
          · rw [upd_ne n2]
            exact e5 b o n1 h
          · rw [upd_ne n2]
            exact h
        · refine asc_app ha ha5 fun x hx y hy => ltPr_iff.mpr (.inl ?_)
          have := hb x hx
          have := hb5 y hy
          omega
        · intro x hx
          rcases List.mem_append.mp hx with hx | hx
          · have := hb x hx
            omega
          · have := hb5 x hx
            omega
        · rw [List.length_append]
          omega
    · rintro σ H3 ⟨y6, y7, y8, y9, rfl, e3, p3, acc, ps, hL3, hA3, ha, hb, hl⟩
      -- the nudges
      refine ⟨_, rfl, _, rfl, _, _, rfl, rfl, p, mn + 1, _, rfl, by omega, p3, by omega, fun z3 H4 hz3 p4 e4 => ⟨_, rfl, by omega, by omega, fun D hD => ?_⟩⟩
      have Dp := p4.off hD
      have hL4 := e4 L _ pL hL3
      have DL : D ≠ L := fun e => by
        rw [e, hL4] at hD
        cases hD
      have hm0 : m + 2 + 20 * (1 + z1).toNat + 1 ≤ m + 403 := by omega
      have p40 := p4.mono hm0
      refine lc_by z3.toNat (fun i H' => ExD p H4 H' ∧ Purse H' p (m + 403 + 21 * i) ∧ ∃ (ac : List V) (rs : List (List Int)), H' D = some (.lst ac) ∧
          DaAll K (rm (rm H' p) D) (rs.map dInts) ac ∧ (∀ r ∈ rs, r ≠ [] ∧ (∀ t ∈ r, 0 ≤ t ∧ t < 1 + z1) ∧ ascB ltIn r = true) ∧ rs.length = i)
        ⟨ExD.nw hD, p40.put Dp.symm, [], [], upd_same, rfl, fun r hr => (by cases hr), rfl⟩ (fun i H' hi _ => hi) (fun H' _ => Nat.le_refl _) ?_ ?_
      · rintro i H5 x H6 hi ⟨e5, p5, ac, rs, hD5, hA5, hr5, hl5⟩ ⟨rfl, rfl⟩
        refine ⟨rfl, ?_⟩
        refine ⟨_, rfl, _, rfl, p, 1 + z1, _, rfl, by omega, p5, by omega, fun l r H7 hl e7 p7 h7 hr7 => ?_⟩
        have hD7 := e7 D _ Dp hD5
        have lD : l ≠ D := fun e => by
          rw [e, hD5] at hl
          cases hl
        have lp := p5.off hl
        have l1 := hA5.len
        rw [List.length_map] at l1
        have lr : r.length ≤ 20 := by
          have := asc_len r 0 hr7.2.1 hr7.2.2
          omega
        refine ⟨ac, hD7, mil' (by omega), (e5.tr e7).wr hD, p7.put Dp.symm, ac ++ [.ref l], rs ++ [r], upd_same, ?_, ?_, ?_⟩
        · rw [List.map_append]
          refine (hA5.up (ex_rm2 fun b o n1 n2 h => ?_)).app ⟨_, _, rfl, dInts_of ?_ (by omega), rfl⟩
          · rw [upd_ne n2]
            exact e7 b o n1 h
          · rw [rm_ne lD, rm_ne lp, upd_ne lD]
            exact h7
        · intro s hs
          rcases List.mem_append.mp hs with hs | hs
          · exact hr5 s hs
          · obtain rfl := List.mem_singleton.mp hs
            exact hr7
        · rw [List.length_append, hl5]
          rfl
      · rintro H5 ⟨e5, p5, ac, rs, hD5, hA5, hr5, hl5⟩
        refine ⟨_, rfl, _, rfl, _, rfl, by show 3 ≤ sizeLine; decide, fun T3 hT3 => ?_⟩
        have hL5 := e5 L _ pL hL4
        have T3p := p5.off hT3
        have T3L : T3 ≠ L := fun e => by
          rw [e, hL5] at hT3
          cases hT3
        have T3D : T3 ≠ D := fun e => by
          rw [e, hD5] at hT3
          cases hT3
        have l1 := hA3.len
        have l2 := hA5.len
        rw [List.length_map] at l1 l2
        refine q (.ref T3) ⟨1 + z1, ps, rs⟩ _ (((e3.tr e4).tr e5).tr (ExD.nw hT3)) ((p5.up (Ex.nw hT3)).mono (by omega)) ?_ ?_ (by show 1 + z1 ≤ most; omega) (by show (rs.length : Int) ≤ mn; omega)
        · refine ⟨T3, _, rfl, by rw [rm_ne T3p, upd_same], _, _, rfl, rfl, _, _, rfl, ⟨L, acc, rfl, ?_, ?_, ?_⟩, _, _, rfl, ⟨D, ac, rfl, ?_, ?_, ?_⟩, rfl⟩
          · rw [rm_ne pL, upd_ne T3L.symm]
            exact hL5
          · refine hA3.up (rm_ex.tr (ex_rm1 fun b o n h => ?_))
            rw [upd_ne (ne_of_none (e5 b o n (e4 b o n h)) hT3)]
            exact e5 b o n (e4 b o n h)
          · rw [List.length_map]
            show ps.length ≤ 100000
            omega
          · rw [rm_ne Dp, upd_ne T3D.symm]
            exact hD5
          · refine hA5.up (rm_ex.tr (ex_rm1 fun b o n h => ?_))
            rw [upd_ne (ne_of_none h hT3)]
            exact h
          · rw [List.length_map]
            show rs.length ≤ 100000
            omega
        · refine ⟨by show 1 ≤ 1 + z1; omega, by show 1 + z1 ≤ 20; omega, ?_, ha, by show rs.length ≤ 8; omega, hr5⟩
          intro x hx
          have := hb x hx
          refine ⟨⟨this.1.1, ?_⟩, this.2⟩
          show x.1 < 1 + z1
          omega
end

end K46
namespace K46
open PySem PySem.Spec PyProof.Rows L2 Nw
/-! _law_right: slots 0 _law_purse_here, 1 _law_way, 2 _law_names, 3 _law_web_here, 4 _law_right_here, 5 _law_names_here, 6 _law_turn, 7 _law_places, 8 _law_things, 9 _law_at, 10 _law_bad_here, 11 _law_due_here, 12 _law_told_here, 13 _law_name -/
abbrev s_right : Stmt := topS 59
abbrev N_right : List Str := ["_law_purse_here", "_law_way", "_law_names", "_law_web_here", "_law_right_here", "_law_names_here", "_law_turn", "_law_places", "_law_things", "_law_at", "_law_bad_here", "_law_due_here", "_law_told_here", "_law_name"]
abbrev P_right : List Str := ["_law_purse_here", "_law_way"]
theorem sc_right : FnScope N_right P_right (defScope s_right) := ⟨rfl, rfl, rfl, by decide +kernel, rfl, by decide +kernel, by decide +kernel⟩
theorem told_i {i : Nat} (h : i < 11) : toldV (some (errNm i)) = .int (kno i) := by
  rw [toldV, idxE_nm ⟨i, h⟩]
def nmsT : Nat → List Nat
  | 0 => [0, 1]
  | 1 => [0, 2]
  | 2 => [0, 2, 2]
  | 3 => [0, 2, 2]
  | 4 => [0, 3]
  | 5 => [0, 4]
  | 6 => [0, 5]
  | 7 => [0, 0, 6]
  | _ => [0]
def rightD (u : Wb) : Nat → PyData
  | 0 => u.d
  | 3 => dInts [0]
  | 5 => dInts (iota u.n)
  | 6 => dPairs [(0, 0)]
  | _ => .int 0
def FitT (u : Wb) (S : List Int) (i t : Nat) (d : PyData) : Prop := (S.contains (i : Int) = true → BadT u t d) ∧ (S.contains (i : Int) = false → d = rightD u t)
def SomeErr (v : V) : Prop := v = .int 7 ∨ v = .int 8 ∨ v = .int 9
def GoodT (due told : V) : Prop := told = due ∨ (due = .non ∧ SomeErr told)
section
variable {u : Wb} {S : List Int} {a b e : PyData}
theorem g_web {k : Wb → Option Str} {t : Nat} {ts : List Nat} {due : V} (hu : u.Ok) (h0 : FitT u S 0 0 a) (hb : S.contains (0 : Int) = true → due = .int 0) (hg : S.contains (0 : Int) = false → GoodT due (toldV (k u))) : GoodT due (toldV (dueWeb a k)) := by
  cases hs : S.contains (0 : Int) with
  | true =>
    left
    rw [dueWeb_no (h0.1 hs), hb hs]
    exact told_i (i := 1) (by decide)
  | false =>
    rw [h0.2 hs, show rightD u 0 = u.d from rfl, dueWeb_of hu]
    exact hg hs
theorem g_if {c : Bool} {i : Nat} {r : Option Str} {due : V} (hi : i < 11) (hb : c = false → GoodT due (.int (kno i))) (hg : c = true → GoodT due (toldV r)) : GoodT due (toldV (dueIf c (errNm i) r)) := by
  cases c with
  | true => exact hg rfl
  | false =>
    show GoodT due (toldV (some (errNm i)))
    rw [told_i hi]
    exact hb rfl
end
theorem due_at {ts : List Nat} {S : List Int} {i t : Nat} (hx : ts[i]? = some t) (h : S.contains (i : Int) = true) (hm : ∀ m, m < i → S.contains (m : Int) = false) : dueTV ts S = .int (t : Int) := by
  obtain ⟨hi, _⟩ := List.getElem?_eq_some_iff.mp hx
  rw [dueTV, firstBad_some hi h hm]
  show V.int ((ts.getD i 0 : Nat) : Int) = _
  rw [List.getD_eq_getElem?_getD, hx]
  rfl
theorem due_non {ts : List Nat} {S : List Int} (hm : ∀ m, m < ts.length → S.contains (m : Int) = false) : dueTV ts S = .non := by
  rw [dueTV, firstBad_none hm]
section
variable {S : List Int} {t0 t1 t2 : Nat} {r : List Nat}
theorem D0 (h : S.contains (0 : Int) = true) : dueTV (t0 :: r) S = .int (t0 : Int) := due_at (i := 0) rfl h fun m h => absurd h (Nat.not_lt_zero _)
theorem D1 (s0 : S.contains (0 : Int) = false) (h : S.contains (1 : Int) = true) : dueTV (t0 :: t1 :: r) S = .int (t1 : Int) := due_at (i := 1) rfl h fun m h => by
  obtain rfl : m = 0 := by omega
  exact s0
theorem D2 (s0 : S.contains (0 : Int) = false) (s1 : S.contains (1 : Int) = false) (h : S.contains (2 : Int) = true) : dueTV (t0 :: t1 :: t2 :: r) S = .int (t2 : Int) := due_at (i := 2) rfl h fun m h => by
  rcases (show m = 0 ∨ m = 1 by omega) with rfl | rfl
  · exact s0
  · exact s1
theorem N1 (s0 : S.contains (0 : Int) = false) : dueTV [t0] S = .non := due_non fun m h => by
  obtain rfl : m = 0 := by simp only [List.length_cons, List.length_nil] at h; omega
  exact s0
theorem N2 (s0 : S.contains (0 : Int) = false) (s1 : S.contains (1 : Int) = false) : dueTV [t0, t1] S = .non := due_non fun m h => by
  rcases (show m = 0 ∨ m = 1 by simp only [List.length_cons, List.length_nil] at h; omega) with rfl | rfl
  · exact s0
  · exact s1
theorem N3 (s0 : S.contains (0 : Int) = false) (s1 : S.contains (1 : Int) = false) (s2 : S.contains (2 : Int) = false) : dueTV [t0, t1, t2] S = .non := due_non fun m h => by
  rcases (show m = 0 ∨ m = 1 ∨ m = 2 by simp only [List.length_cons, List.length_nil] at h; omega) with rfl | rfl | rfl
  · exact s0
  · exact s1
  · exact s2
/-- the last check of a call: the value at 1 -/
theorem g_last {u : Wb} {b : PyData} {c : Bool} {i : Nat} {r : Option Str} (hi : i < 11) (s0 : S.contains (0 : Int) = false) (h1 : FitT u S 1 t1 b) (hk : kno i = (t1 : Int)) (hbad : BadT u t1 b → c = false) (hok : b = rightD u t1 → c = true)
    (hr : S.contains (1 : Int) = false → GoodT .non (toldV r)) : GoodT (dueTV [t0, t1] S) (toldV (dueIf c (errNm i) r)) := by
  cases s1 : S.contains (1 : Int) with
  | true =>
    left
    rw [hbad (h1.1 s1), D1 s0 s1]
    show toldV (some (errNm i)) = _
    rw [told_i hi, hk]
  | false =>
    rw [hok (h1.2 s1), N2 s0 s1]
    exact hr s1
end
theorem good_non : GoodT .non (toldV none) := .inl rfl
theorem good_err {i : Nat} (h : i = 8 ∨ i = 9 ∨ i = 10) : GoodT .non (toldV (some (errNm i))) := .inr ⟨rfl, by
  rw [told_i (by omega)]
  rcases h with rfl | rfl | rfl
  · exact .inr (.inl rfl)
  · exact .inl rfl
  · exact .inr (.inr rfl)⟩
theorem good_if {c : Bool} {i : Nat} {r : Option Str} (h : i = 8 ∨ i = 9 ∨ i = 10) (hr : GoodT .non (toldV r)) : GoodT .non (toldV (dueIf c (errNm i) r)) := by
  cases c with
  | true => exact hr
  | false => exact good_err h
theorem good_due {u : Wb} (hu : u.Ok) {way : Nat} (hw : way < 10) {S : List Int} {a b e : PyData} (h0 : FitT u S 0 0 a) (h1 : ∀ t, (nmsT way)[1]? = some t → FitT u S 1 t b) (h2 : ∀ t, (nmsT way)[2]? = some t → FitT u S 2 t e)
    (hz : ¬ (way = 5 ∧ u.ns = [] ∧ S.contains (0 : Int) = false)) : GoodT (dueTV (nmsT way) S) (toldV (dueCall way a b e)) := by
  have b1 := hu.lo
  have b2 := hu.hi
  have n0 : numB (.int 0) u.n = true := by simp [numB]; omega
  rcases (show way = 0 ∨ way = 1 ∨ way = 2 ∨ way = 3 ∨ way = 4 ∨ way = 5 ∨ way = 6 ∨ way = 7 ∨ way = 8 ∨ way = 9 by omega) with rfl | rfl | rfl | rfl | rfl | rfl | rfl | rfl | rfl | rfl
  · rw [due0]
    exact g_web (t := 0) (ts := []) hu h0 (fun h => D0 h) fun s0 => g_last (i := 2) (by decide) s0 (h1 1 rfl) rfl id (fun e => by rw [e]; simp [rightD, numB]; omega) fun _ => good_non
  · rw [due1]
    exact g_web (t := 0) (ts := []) hu h0 (fun h => D0 h) fun s0 => g_last (i := 3) (by decide) s0 (h1 2 rfl) rfl id (fun e => by rw [e]; exact n0) fun _ => good_non
  · rw [due2]
    refine g_web (t := 0) (ts := []) hu h0 (fun h => D0 h) fun s0 => ?_
    have f1 := h1 2 rfl
    have f2 := h2 2 rfl
    cases s1 : S.contains (1 : Int) with
    | true =>
      left
      rw [show numB b u.n = false from f1.1 s1, show dueTV (nmsT 2) S = _ from D1 s0 s1]
      exact told_i (i := 3) (by decide)
    | false =>
      rw [show numB b u.n = true by rw [f1.2 s1]; exact n0]
      cases s2 : S.contains (2 : Int) with
      | true =>
        left
        rw [show numB e u.n = false from f2.1 s2, show dueTV (nmsT 2) S = _ from D2 s0 s1 s2]
        exact told_i (i := 3) (by decide)
      | false =>
        rw [show numB e u.n = true by rw [f2.2 s2]; exact n0, show dueTV (nmsT 2) S = _ from N3 s0 s1 s2]
        exact good_if (i := 9) (by decide) good_non
  · rw [due3]
    refine g_web (t := 0) (ts := []) hu h0 (fun h => D0 h) fun s0 => ?_
    have f1 := h1 2 rfl
    have f2 := h2 2 rfl
    cases s1 : S.contains (1 : Int) with
    | true =>
      left
      rw [show numB b u.n = false from f1.1 s1, show dueTV (nmsT 3) S = _ from D1 s0 s1]
      exact told_i (i := 3) (by decide)
    | false =>
      rw [show numB b u.n = true by rw [f1.2 s1]; exact n0]
      cases s2 : S.contains (2 : Int) with
      | true =>
        left
        rw [show numB e u.n = false from f2.1 s2, show dueTV (nmsT 3) S = _ from D2 s0 s1 s2]
        exact told_i (i := 3) (by decide)
      | false =>
        rw [show numB e u.n = true by rw [f2.2 s2]; exact n0, show dueTV (nmsT 3) S = _ from N3 s0 s1 s2]
        exact good_if (i := 8) (by decide) good_non
  · rw [due4]
    exact g_web (t := 0) (ts := []) hu h0 (fun h => D0 h) fun s0 => g_last (i := 4) (by decide) s0 (h1 3 rfl) rfl id (fun e => by rw [e]; exact targetsB_of (by simp) (fun t ht => by obtain rfl := List.mem_singleton.mp ht; omega) rfl) fun _ => good_if (i := 10) (by decide) good_non
  · rw [due5]
    refine g_web (t := 0) (ts := []) hu h0 (fun h => D0 h) fun s0 => g_last (i := 5) (by decide) s0 (h1 4 rfl) rfl id (fun e => ?_) fun _ => good_non
    have hne : u.ns ≠ [] := fun h => hz ⟨rfl, h, s0⟩
    have := List.length_pos_iff.mpr hne
    rw [e]
    simp [rightD, numB]
    omega
  · rw [due6]
    exact g_web (t := 0) (ts := []) hu h0 (fun h => D0 h) fun s0 => g_last (i := 6) (by decide) s0 (h1 5 rfl) rfl id (fun e => by rw [e]; exact ordB_of.mpr ⟨_, rfl, List.Perm.refl _⟩) fun _ => good_non
  · rw [due7]
    refine g_web (t := 0) (ts := []) hu h0 (fun h => D0 h) fun s0 => ?_
    have f1 := h1 0 rfl
    have f2 := h2 6 rfl
    cases s1 : S.contains (1 : Int) with
    | true =>
      left
      rw [dueWeb_no (f1.1 s1), show dueTV (nmsT 7) S = _ from D1 s0 s1]
      exact told_i (i := 1) (by decide)
    | false =>
      rw [f1.2 s1, show rightD u 0 = u.d from rfl, dueWeb_of hu]
      cases s2 : S.contains (2 : Int) with
      | true =>
        left
        rw [show tuplesB e u.n u.n = false from f2.1 s2, show dueTV (nmsT 7) S = _ from D2 s0 s1 s2]
        exact told_i (i := 7) (by decide)
      | false =>
        rw [show tuplesB e u.n u.n = true by rw [f2.2 s2]; exact tuplesB_of (fun p hp => by obtain rfl := List.mem_singleton.mp hp; exact ⟨⟨Int.le_refl _, by show (0 : Int) < u.n; omega⟩, Int.le_refl _, by show (0 : Int) < u.n; omega⟩) rfl, show dueTV (nmsT 7) S = _ from N3 s0 s1 s2]
        exact good_if (i := 10) (by decide) (good_if (i := 10) (by decide) good_non)
  · rw [due8]
    exact g_web (t := 0) (ts := []) hu h0 (fun h => D0 h) fun s0 => by rw [show dueTV (nmsT 8) S = _ from N1 s0]; exact good_non
  · rw [due9]
    exact g_web (t := 0) (ts := []) hu h0 (fun h => D0 h) fun s0 => by rw [show dueTV (nmsT 9) S = _ from N1 s0]; exact good_non
theorem none_due {u : Wb} (hu : u.Ok) (hn : u.ns = []) {S : List Int} {a b e : PyData} (s0 : S.contains (0 : Int) = false) (h0 : FitT u S 0 0 a) : toldV (dueCall 5 a b e) = .int 4 := by
  rw [due5, h0.2 s0, show rightD u 0 = u.d from rfl, dueWeb_of hu, hn]
  have e : numB b (([] : List (List Int)).length : Int) = false := by
    cases b with
    | int i => simp [numB] <;> omega
    | _ => rfl
  rw [e]
  exact told_i (i := 5) (by decide)
theorem ps_dputJ {X : Cx} {k : Nat} {o i value : Expr} {td ty tv : TE} {pos pos' : Pos} (hr : Room k X.A) (ho : PE X o td) (hi : PE X i ty) (hv : PE X value tv) (hs : swapsWith value (some (.Subscript o i pos')) pos.line X.env = pure false) :
    PS X (.Assign [.Subscript o i pos'] value pos) (sDPut td ty tv) := ps_dput (by have := hr.un; omega) ho hi hv hs
def rgtKV (v L1 L2 : V) : List (Key × V) := [(Sum.inr "web", v), (Sum.inr "source", .int 0), (Sum.inr "quantity", .int 0), (Sum.inr "targets", L1), (Sum.inr "nudge", .int 0), (Sum.inr "links", L2)]
theorem rgV_iota' (n : Int) : rgV 0 n = (iota n).map V.int := by
  unfold rgV iota
  rw [List.map_map, show (n - 0) = n by omega]
  refine List.map_congr_left fun i _ => ?_
  show V.int (0 + (i : Int)) = V.int (i : Int)
  rw [Int.zero_add]
def kv7 (v : V) (L1 L2 Lo : Addr) : List (Key × V) := rgtKV v (.ref L1) (.ref L2) ++ ([(Sum.inr "order", V.ref Lo)] : List (Key × V))
def rv (v : V) (L1 L2 Lo : Addr) : Nat → V
  | 0 => v
  | 3 => .ref L1
  | 5 => .ref Lo
  | 6 => .ref L2
  | _ => .int 0
theorem kv7_get {v : V} {L1 L2 Lo : Addr} {t : Nat} (h : t < 7) : valV (kv7 v L1 L2 Lo) (Sum.inr (nmT t)) = some (rv v L1 L2 Lo t) := by
  rcases (show t = 0 ∨ t = 1 ∨ t = 2 ∨ t = 3 ∨ t = 4 ∨ t = 5 ∨ t = 6 by omega) with rfl | rfl | rfl | rfl | rfl | rfl | rfl <;> rfl
def IsNi (v : V) : Prop := v = .non ∨ ∃ i, v = .int i
def dN : V → PyData
  | .int i => .int i
  | _ => .none
theorem dpN {K : PySem.W.Frag} {H : Hp} {v : V} (h : IsNi v) : Dp K H v (dN v) := by
  rcases h with rfl | ⟨i, rfl⟩
  · exact .non
  · exact .int i
theorem shN' (v : V) : SeqAt.shaped (dN v) = true := by
  cases v <;> rfl
theorem eqvN {v : V} : PyData.eqv (dN v) (dN v) = true := by
  cases v <;> simp [dN, PyData.eqv]
theorem ni_due (ts : List Nat) (S : List Int) : IsNi (dueTV ts S) := by
  unfold dueTV
  split
  · exact .inr ⟨_, rfl⟩
  · exact .inl rfl
theorem ni_told (o : Option Str) : IsNi (toldV o) := by
  cases o with
  | none => exact .inl rfl
  | some x => exact .inr ⟨_, rfl⟩
theorem sh_n9 : Sh 41 40000 40 .none := ⟨rfl, rfl, by show 1 ≤ 40000; decide, by show 0 ≤ 40; decide⟩
def Thg (K : PySem.W.Frag) (H : Hp) (u : Wb) (S : List Int) (way : Nat) (L : List V) : Prop := L.length = 3 ∧ ∀ i, i < 3 → ∃ x d, L[i]? = some x ∧ Da K H d x ∧ Sh 41 40000 40 d ∧ ∀ t, (nmsT way)[i]? = some t → FitT u S i t d
theorem Thg.up {K : PySem.W.Frag} {H H' : Hp} {u : Wb} {S : List Int} {way : Nat} {L : List V} (h : Thg K H u S way L) (e : Ex H H') : Thg K H' u S way L := ⟨h.1, fun i hi => by
  obtain ⟨x, d, h1, h2, h3, h4⟩ := h.2 i hi
  exact ⟨x, d, h1, h2.up e, h3, h4⟩⟩
theorem rm2_d {p q : Addr} {H H' : Hp} (e : ExD p H H') : Ex (rm2 H p q) (rm2 H' p q) := Ex.rm e.rm
theorem rm2_upd {p q : Addr} {H : Hp} {o : HO} : Ex (rm2 H p q) (rm2 (upd H q o) p q) := fun b x h => by
  by_cases hq : b = q
  · rw [hq] at h
    simp [rm2, rm] at h
  · rw [rm2, rm_ne hq] at h ⊢
    by_cases hp : b = p
    · rw [hp] at h
      simp [rm] at h
    · rw [rm_ne hp] at h ⊢
      rw [upd_ne hq]
      exact h
theorem rm2_of {p q : Addr} {H H' : Hp} (hq : rm H p q = none) (e : Ex (rm H p) (rm H' p)) : Ex (rm H p) (rm2 H' p q) := fun b x h => by
  rw [rm2, rm_ne (fun z => by rw [z, hq] at h; cases h)]
  exact e _ _ h
/-- one place more has its bad value -/
theorem Thg.put {K : PySem.W.Frag} {H : Hp} {u : Wb} {S : List Int} {way : Nat} {L : List V} {j k : Nat} {s : Int} {x : V} {d : PyData} {t : Nat} (h : Thg K H u (S.take j) way L) (hs : S[j]? = some s) (hk : s = (k : Int)) (hk3 : k < 3) (ht : (nmsT way)[k]? = some t)
    (hd : Da K H d x) (hsh : Sh 41 40000 40 d) (hb : BadT u t d) : Thg K H u (S.take (j + 1)) way (L.set k x) := by
  subst hk
  have ej : S.take (j + 1) = S.take j ++ [(k : Int)] := by rw [List.take_succ, hs]; rfl
  refine ⟨by rw [List.length_set]; exact h.1, fun i hi => ?_⟩
  by_cases e : i = k
  · subst e
    refine ⟨x, d, by rw [List.getElem?_set_self (by rw [h.1]; exact hi)], hd, hsh, fun t' ht' => ?_⟩
    obtain rfl := Option.some.inj (ht.symm.trans ht')
    refine ⟨fun _ => hb, fun hn => ?_⟩
    rw [ej] at hn
    simp at hn
  · obtain ⟨y, d', g1, g2, g3, g4⟩ := h.2 i hi
    refine ⟨y, d', by rw [List.getElem?_set_ne (fun z => e z.symm)]; exact g1, g2, g3, fun t' ht' => ?_⟩
    have ec : (S.take (j + 1)).contains (i : Int) = (S.take j).contains (i : Int) := by
      rw [ej, Bool.eq_iff_iff, List.contains_iff_mem, List.contains_iff_mem, List.mem_append, List.mem_singleton]
      constructor
      · rintro (z | z)
        · exact z
        · omega
      · exact .inl
    have := g4 t' ht'
    unfold FitT at this ⊢
    rw [ec]
    exact this
def sp_right (K : PySem.W.Frag) : Sp := fun vs H Q _ => ∃ (p : Addr) (way m : Nat), vs = [.ref p, .int way] ∧ way < 10 ∧ Purse H p m ∧ m ≤ 50000 ∧ ∀ H', ExD p H H' → Purse H' p (m + 800) → Q (.bl true) H'
section
variable {P : Program} {w : World} {K : PySem.W.Frag} {mg : Str → Option Value} {base : Heap}
theorem ok_right {f : Addr} {fd : FuncData} (T : Txt K mg) (F : Fun K "_law_right" "_law_right" s_right f fd)
    (D_coin : DefOk P w K mg base CX0 1 "_law_coin" P_coin (sp_coin K))
    (D_web : DefOk P w K mg base CX0 3 "_law_web" P_web (sp_web K))
    (D_told : DefOk P w K mg base CX0 10 "_law_told" P_told (sp_told K))
    (D_bad : DefOk P w K mg base CX0 2 "_law_bad" P_bad (sp_bad K))
    (D_due : DefOk P w K mg base CX0 1 "_law_due" P_due (sp_due K)) :
    FnG P w K mg base CX0 11 f fd P_right (sp_right K) := by
  refine okG0 F sc_right (fun vs H Q E h => ?_) (fun cdv A outer s H vs Q E hr hq h => ?_)
  · obtain ⟨p, way, m, rfl, _⟩ := h
    rfl
  · obtain ⟨p, way, m, rfl, hway, hp, hm, q⟩ := h
    refine ⟨_, (pss_cons (ps_set (i := 2) sc_right.nd rfl (by first | exact .inl rfl | exact .inr rfl) (pe_lst (pa_cons (pe_lst (pa_cons pe_str (pa_cons pe_str pa_nil))) (pa_cons (pe_lst (pa_cons pe_str (pa_cons pe_str pa_nil))) (pa_cons (pe_lst (pa_cons pe_str (pa_cons pe_str (pa_cons pe_str pa_nil)))) (pa_cons (pe_lst (pa_cons pe_str (pa_cons pe_str (pa_cons pe_str pa_nil)))) pa_nil))))))
      (pss_cons (ps_set (i := 2) sc_right.nd rfl (by first | exact .inl rfl | exact .inr rfl) (pe_op (op_catS K) (pv 2) (pe_lst (pa_cons (pe_lst (pa_cons pe_str (pa_cons pe_str pa_nil))) (pa_cons (pe_lst (pa_cons pe_str (pa_cons pe_str pa_nil))) (pa_cons (pe_lst (pa_cons pe_str (pa_cons pe_str pa_nil))) (pa_cons (pe_lst (pa_cons pe_str (pa_cons pe_str (pa_cons pe_str pa_nil)))) (pa_cons (pe_lst (pa_cons pe_str pa_nil)) (pa_cons (pe_lst (pa_cons pe_str pa_nil)) pa_nil)))))))))
      (pss_cons (ps_set (i := 3) sc_right.nd rfl (by first | exact .inl rfl | exact .inr rfl) (pe_callD D_web (hr.mono (by decide)) hq pass0 (pa_cons (pv 0) (pa_cons pe_int (pa_cons pe_int pa_nil)))))
      (pss_cons (ps_set (i := 4) sc_right.nd rfl (by first | exact .inl rfl | exact .inr rfl) (pe_disp (pps_cons pe_str (pv 3) (pps_cons pe_str pe_int (pps_cons pe_str pe_int (pps_cons pe_str (pe_lst (pa_cons pe_int pa_nil)) (pps_cons pe_str pe_int (pps_cons pe_str (pe_lst (pa_cons (pe_tup (pa_cons pe_int (pa_cons pe_int pa_nil))) pa_nil)) pps_nil)))))) (by decide) (by decide) (by decide) (by decide)))
      (pss_cons (ps_dputJ hr (pv 4) pe_str (pe_listRg rfl (by rfl) T.b_list (prg_1 (by rfl) T.b_range (pe_ix (ix_tupK K) (pv 3) pe_int (fun _ _ => rfl)))) rfl)
      (pss_cons (ps_set (i := 5) sc_right.nd rfl (by first | exact .inl rfl | exact .inr rfl) (pe_ix (ix_listK K) (pv 2) (pv 1) (fun _ _ => rfl)))
      (pss_cons (ps_for PassesOwn.never rfl (pi_range1 (by rfl) T.b_range (pa_cons pe_int pa_nil)) (pg_name (i := 6) sc_right.nd rfl (by first | exact .inl rfl | exact .inr rfl)) (pss_cons (ps_setLc (i := 7) (own := [("_law_at", 9)]) rfl sc_right.nd rfl rfl (sw_true rfl rfl rfl (by decide +kernel)) (pi_range1 (by rfl) T.b_range (pa_cons (pe_callB (call_lenK K) (by rfl) T.b_len bt_len (pa_cons (pv 5) pa_nil)) pa_nil)) (blkOk_by (N := N_right) (sc := defScope s_right) (by decide +kernel)) (fun _ _ _ _ _ => (pg_name (i := 9) sc_right.nd rfl (by first | exact .inl rfl | exact .inr rfl))) (fun _ _ _ _ _ => (pts_one (pt_cmpR op_eq (pe_callD D_coin (hr.mono (by decide)) hq pass0 (pa_cons (pv 0) (pa_cons pe_int pa_nil))) pe_int (nomark _)))) (fun _ _ _ _ _ => (pv 9)))
      (pss_cons (ps_set (i := 8) sc_right.nd rfl (by first | exact .inl rfl | exact .inr rfl) (pe_op (op_catS K) (pe_lc (own := [("_law_name", 13)]) rfl sc_right.nd (pi_listK K (pv 5)) (blkOk_by (N := N_right) (sc := defScope s_right) (by decide +kernel)) (fun _ _ _ _ _ => (pg_name (i := 13) sc_right.nd rfl (by first | exact .inl rfl | exact .inr rfl))) (fun _ _ _ _ _ => pts_nil) (fun _ _ _ _ _ => (pe_dgetK hr (pv 4) (pv 13) (fun _ _ => rfl)))) (pe_op op_rep (pe_lst (pa_cons pe_non pa_nil)) (pe_op op_sub pe_int (pe_callB (call_lenK K) (by rfl) T.b_len bt_len (pa_cons (pv 5) pa_nil))))))
      (pss_cons (ps_for PassesOwn.never rfl (pi_listK K (pv 7)) (pg_name (i := 9) sc_right.nd rfl (by first | exact .inl rfl | exact .inr rfl)) (pss_cons (ps_set (i := 10) sc_right.nd rfl (by first | exact .inl rfl | exact .inr rfl) (pe_callD D_bad (hr.mono (by decide)) hq pass0 (pa_cons (pe_ix (ix_listK K) (pv 5) (pv 9) (fun _ _ => rfl)) (pa_cons (pv 3) pa_nil))))
      (pss_one (ps_asg (pe_ix (ix_listK K) (pv 10) (pe_callD D_coin (hr.mono (by decide)) hq pass0 (pa_cons (pv 0) (pa_cons (pe_callB (call_lenK K) (by rfl) T.b_len bt_len (pa_cons (pv 10) pa_nil)) pa_nil))) (fun _ _ => rfl)) (pg_sub (pv 8) (pv 9) set_list)))))
      (pss_cons (ps_par (i := 11) (j := 12) (by rfl) sc_right.nd rfl rfl (by decide) rfl rfl (pa_cons (pe_callD D_due (hr.mono (by decide)) hq pass0 (pa_cons (pv 1) (pa_cons (pv 7) (pa_cons (pv 5) pa_nil)))) (pa_cons (pe_callD D_told (hr.mono (by decide)) hq pass0 (pa_cons (pv 1) (pa_cons (pv 8) pa_nil))) pa_nil)) (by rfl))
      (pss_cons (ps_if (PW.pt (pw_and (pt_cmpR op_eq (pv 1) pe_int (nomark _)) (pw_and (pt_cmpR (op_eqDk K hr.units) (pe_ix (ix_tupK K) (pv 3) pe_int (fun _ _ => rfl)) (pe_lst pa_nil) (nomark _)) (pw_and1 (pt_cmpR (op_notInK K) pe_int (pv 7) (by rfl)))))) (pss_one (ps_set (i := 11) sc_right.nd rfl (by first | exact .inl rfl | exact .inr rfl) pe_int)) pss_nil)
      (pss_one (ps_if (PW.pt (pw_and (pt_cmpR (op_neDk K hr.units) (pv 12) (pv 11) (nomark _)) (pw_and1 (pt_not (PW.pt (pw_and (pt_cmpR op_isN (pv 11) pe_non (nomark _)) (pw_and1 (pt_cmpR (op_inK K) (pv 12) (pe_lst (pa_cons pe_int (pa_cons pe_int (pa_cons pe_int pa_nil)))) (by rfl))))))))) (pss_one (ps_ret pe_bl)) pss_nil))))))))
      (pss_one (ps_ret pe_bl))))))))), ?_⟩
    refine ⟨by show 2 ≤ sizeLine; decide, fun o1 n1 => ?_⟩
    have E1 : Ex H (upd H o1 (.lst [(.str "web"), (.str "source")])) := Ex.nw n1
    have F1 : (upd H o1 (.lst [(.str "web"), (.str "source")])) o1 = some (.lst [(.str "web"), (.str "source")]) := upd_same
    generalize upd H o1 (.lst [(.str "web"), (.str "source")]) = G1 at E1 F1
    refine ⟨by show 2 ≤ sizeLine; decide, fun o2 n2 => ?_⟩
    have E2 : Ex G1 (upd G1 o2 (.lst [(.str "web"), (.str "quantity")])) := Ex.nw n2
    have F2 : (upd G1 o2 (.lst [(.str "web"), (.str "quantity")])) o2 = some (.lst [(.str "web"), (.str "quantity")]) := upd_same
    generalize upd G1 o2 (.lst [(.str "web"), (.str "quantity")]) = G2 at E2 F2
    refine ⟨by show 3 ≤ sizeLine; decide, fun o3 n3 => ?_⟩
    have E3 : Ex G2 (upd G2 o3 (.lst [(.str "web"), (.str "quantity"), (.str "quantity")])) := Ex.nw n3
    have F3 : (upd G2 o3 (.lst [(.str "web"), (.str "quantity"), (.str "quantity")])) o3 = some (.lst [(.str "web"), (.str "quantity"), (.str "quantity")]) := upd_same
    generalize upd G2 o3 (.lst [(.str "web"), (.str "quantity"), (.str "quantity")]) = G3 at E3 F3
    refine ⟨by show 3 ≤ sizeLine; decide, fun o4 n4 => ?_⟩
    have E4 : Ex G3 (upd G3 o4 (.lst [(.str "web"), (.str "quantity"), (.str "quantity")])) := Ex.nw n4
    have F4 : (upd G3 o4 (.lst [(.str "web"), (.str "quantity"), (.str "quantity")])) o4 = some (.lst [(.str "web"), (.str "quantity"), (.str "quantity")]) := upd_same
    generalize upd G3 o4 (.lst [(.str "web"), (.str "quantity"), (.str "quantity")]) = G4 at E4 F4
    refine ⟨by show 4 ≤ sizeLine; decide, fun o5 n5 => ?_⟩
    have E5 : Ex G4 (upd G4 o5 (.lst [(.ref o1), (.ref o2), (.ref o3), (.ref o4)])) := Ex.nw n5
    have F5 : (upd G4 o5 (.lst [(.ref o1), (.ref o2), (.ref o3), (.ref o4)])) o5 = some (.lst [(.ref o1), (.ref o2), (.ref o3), (.ref o4)]) := upd_same
    generalize upd G4 o5 (.lst [(.ref o1), (.ref o2), (.ref o3), (.ref o4)]) = G5 at E5 F5
    refine ⟨_, rfl, ?_⟩
    refine ⟨by show 2 ≤ sizeLine; decide, fun o6 n6 => ?_⟩
    have E6 : Ex G5 (upd G5 o6 (.lst [(.str "web"), (.str "targets")])) := Ex.nw n6
    have F6 : (upd G5 o6 (.lst [(.str "web"), (.str "targets")])) o6 = some (.lst [(.str "web"), (.str "targets")]) := upd_same
    generalize upd G5 o6 (.lst [(.str "web"), (.str "targets")]) = G6 at E6 F6
    refine ⟨by show 2 ≤ sizeLine; decide, fun o7 n7 => ?_⟩
    have E7 : Ex G6 (upd G6 o7 (.lst [(.str "web"), (.str "nudge")])) := Ex.nw n7
    have F7 : (upd G6 o7 (.lst [(.str "web"), (.str "nudge")])) o7 = some (.lst [(.str "web"), (.str "nudge")]) := upd_same
    generalize upd G6 o7 (.lst [(.str "web"), (.str "nudge")]) = G7 at E7 F7
    refine ⟨by show 2 ≤ sizeLine; decide, fun o8 n8 => ?_⟩
    have E8 : Ex G7 (upd G7 o8 (.lst [(.str "web"), (.str "order")])) := Ex.nw n8
    have F8 : (upd G7 o8 (.lst [(.str "web"), (.str "order")])) o8 = some (.lst [(.str "web"), (.str "order")]) := upd_same
    generalize upd G7 o8 (.lst [(.str "web"), (.str "order")]) = G8 at E8 F8
    refine ⟨by show 3 ≤ sizeLine; decide, fun o9 n9 => ?_⟩
    have E9 : Ex G8 (upd G8 o9 (.lst [(.str "web"), (.str "web"), (.str "links")])) := Ex.nw n9
    have F9 : (upd G8 o9 (.lst [(.str "web"), (.str "web"), (.str "links")])) o9 = some (.lst [(.str "web"), (.str "web"), (.str "links")]) := upd_same
    generalize upd G8 o9 (.lst [(.str "web"), (.str "web"), (.str "links")]) = G9 at E9 F9
    refine ⟨by show 1 ≤ sizeLine; decide, fun o10 n10 => ?_⟩
    have E10 : Ex G9 (upd G9 o10 (.lst [(.str "web")])) := Ex.nw n10
    have F10 : (upd G9 o10 (.lst [(.str "web")])) o10 = some (.lst [(.str "web")]) := upd_same
    generalize upd G9 o10 (.lst [(.str "web")]) = G10 at E10 F10
    refine ⟨by show 1 ≤ sizeLine; decide, fun o11 n11 => ?_⟩
    have E11 : Ex G10 (upd G10 o11 (.lst [(.str "web")])) := Ex.nw n11
    have F11 : (upd G10 o11 (.lst [(.str "web")])) o11 = some (.lst [(.str "web")]) := upd_same
    generalize upd G10 o11 (.lst [(.str "web")]) = G11 at E11 F11
    refine ⟨by show 6 ≤ sizeLine; decide, fun o12 n12 => ?_⟩
    have E12 : Ex G11 (upd G11 o12 (.lst [(.ref o6), (.ref o7), (.ref o8), (.ref o9), (.ref o10), (.ref o11)])) := Ex.nw n12
    have F12 : (upd G11 o12 (.lst [(.ref o6), (.ref o7), (.ref o8), (.ref o9), (.ref o10), (.ref o11)])) o12 = some (.lst [(.ref o6), (.ref o7), (.ref o8), (.ref o9), (.ref o10), (.ref o11)]) := upd_same
    generalize upd G11 o12 (.lst [(.ref o6), (.ref o7), (.ref o8), (.ref o9), (.ref o10), (.ref o11)]) = G12 at E12 F12
    refine ⟨o5, o12, _, _, rfl, rfl, (.inl (.inl ((E6.tr (E7.tr (E8.tr (E9.tr (E10.tr (E11.tr E12)))))) _ _ F5))), (.inl (.inl (Ex.rfl _ _ F12))), by show 4 + 6 ≤ 1000000; decide, fun o13 n13 => ?_⟩
    rw [show ([(.ref o1), (.ref o2), (.ref o3), (.ref o4)] ++ [(.ref o6), (.ref o7), (.ref o8), (.ref o9), (.ref o10), (.ref o11)] : List V) = [(.ref o1), (.ref o2), (.ref o3), (.ref o4), (.ref o6), (.ref o7), (.ref o8), (.ref o9), (.ref o10), (.ref o11)] from rfl]
    have E13 : Ex G12 (upd G12 o13 (.lst [(.ref o1), (.ref o2), (.ref o3), (.ref o4), (.ref o6), (.ref o7), (.ref o8), (.ref o9), (.ref o10), (.ref o11)])) := Ex.nw n13
    have F13 : (upd G12 o13 (.lst [(.ref o1), (.ref o2), (.ref o3), (.ref o4), (.ref o6), (.ref o7), (.ref o8), (.ref o9), (.ref o10), (.ref o11)])) o13 = some (.lst [(.ref o1), (.ref o2), (.ref o3), (.ref o4), (.ref o6), (.ref o7), (.ref o8), (.ref o9), (.ref o10), (.ref o11)]) := upd_same
    generalize upd G12 o13 (.lst [(.ref o1), (.ref o2), (.ref o3), (.ref o4), (.ref o6), (.ref o7), (.ref o8), (.ref o9), (.ref o10), (.ref o11)]) = G13 at E13 F13
    have P0 := hp.up (E1.tr (E2.tr (E3.tr (E4.tr (E5.tr (E6.tr (E7.tr (E8.tr (E9.tr (E10.tr (E11.tr (E12.tr E13))))))))))))
    have e0 : ExD p H G13 := ((E1.tr (E2.tr (E3.tr (E4.tr (E5.tr (E6.tr (E7.tr (E8.tr (E9.tr (E10.tr (E11.tr (E12.tr E13))))))))))))).d
    have fN : rm G13 p o13 = some (.lst [(.ref o1), (.ref o2), (.ref o3), (.ref o4), (.ref o6), (.ref o7), (.ref o8), (.ref o9), (.ref o10), (.ref o11)]) := by rw [rm_ne ((hp.up (E1.tr (E2.tr (E3.tr (E4.tr (E5.tr (E6.tr (E7.tr (E8.tr (E9.tr (E10.tr (E11.tr E12)))))))))))).off n13)]; exact F13
    have f1 := (show rm G13 p o1 = some (.lst [(.str "web"), (.str "source")]) from by rw [rm_ne ((hp.up Ex.rfl).off n1)]; exact (E2.tr (E3.tr (E4.tr (E5.tr (E6.tr (E7.tr (E8.tr (E9.tr (E10.tr (E11.tr (E12.tr E13))))))))))) _ _ F1)
    have f2 := (show rm G13 p o2 = some (.lst [(.str "web"), (.str "quantity")]) from by rw [rm_ne ((hp.up E1).off n2)]; exact (E3.tr (E4.tr (E5.tr (E6.tr (E7.tr (E8.tr (E9.tr (E10.tr (E11.tr (E12.tr E13)))))))))) _ _ F2)
    have f3 := (show rm G13 p o3 = some (.lst [(.str "web"), (.str "quantity"), (.str "quantity")]) from by rw [rm_ne ((hp.up (E1.tr E2)).off n3)]; exact (E4.tr (E5.tr (E6.tr (E7.tr (E8.tr (E9.tr (E10.tr (E11.tr (E12.tr E13))))))))) _ _ F3)
    have f4 := (show rm G13 p o4 = some (.lst [(.str "web"), (.str "quantity"), (.str "quantity")]) from by rw [rm_ne ((hp.up (E1.tr (E2.tr E3))).off n4)]; exact (E5.tr (E6.tr (E7.tr (E8.tr (E9.tr (E10.tr (E11.tr (E12.tr E13)))))))) _ _ F4)
    have f6 := (show rm G13 p o6 = some (.lst [(.str "web"), (.str "targets")]) from by rw [rm_ne ((hp.up (E1.tr (E2.tr (E3.tr (E4.tr E5))))).off n6)]; exact (E7.tr (E8.tr (E9.tr (E10.tr (E11.tr (E12.tr E13)))))) _ _ F6)
    have f7 := (show rm G13 p o7 = some (.lst [(.str "web"), (.str "nudge")]) from by rw [rm_ne ((hp.up (E1.tr (E2.tr (E3.tr (E4.tr (E5.tr E6)))))).off n7)]; exact (E8.tr (E9.tr (E10.tr (E11.tr (E12.tr E13))))) _ _ F7)
    have f8 := (show rm G13 p o8 = some (.lst [(.str "web"), (.str "order")]) from by rw [rm_ne ((hp.up (E1.tr (E2.tr (E3.tr (E4.tr (E5.tr (E6.tr E7))))))).off n8)]; exact (E9.tr (E10.tr (E11.tr (E12.tr E13)))) _ _ F8)
    have f9 := (show rm G13 p o9 = some (.lst [(.str "web"), (.str "web"), (.str "links")]) from by rw [rm_ne ((hp.up (E1.tr (E2.tr (E3.tr (E4.tr (E5.tr (E6.tr (E7.tr E8)))))))).off n9)]; exact (E10.tr (E11.tr (E12.tr E13))) _ _ F9)
    have f10 := (show rm G13 p o10 = some (.lst [(.str "web")]) from by rw [rm_ne ((hp.up (E1.tr (E2.tr (E3.tr (E4.tr (E5.tr (E6.tr (E7.tr (E8.tr E9))))))))).off n10)]; exact (E11.tr (E12.tr E13)) _ _ F10)
    have f11 := (show rm G13 p o11 = some (.lst [(.str "web")]) from by rw [rm_ne ((hp.up (E1.tr (E2.tr (E3.tr (E4.tr (E5.tr (E6.tr (E7.tr (E8.tr (E9.tr E10)))))))))).off n11)]; exact (E12.tr E13) _ _ F11)
    obtain ⟨ln, hln, hlc⟩ : ∃ ln, ([(.ref o1), (.ref o2), (.ref o3), (.ref o4), (.ref o6), (.ref o7), (.ref o8), (.ref o9), (.ref o10), (.ref o11)] : List V)[way]? = some (.ref ln) ∧ rm G13 p ln = some (.lst ((nmsT way).map fun t => .str (nmT t))) := by
      rcases (show way = 0 ∨ way = 1 ∨ way = 2 ∨ way = 3 ∨ way = 4 ∨ way = 5 ∨ way = 6 ∨ way = 7 ∨ way = 8 ∨ way = 9 by omega) with rfl | rfl | rfl | rfl | rfl | rfl | rfl | rfl | rfl | rfl
      · exact ⟨o1, rfl, f1⟩
      · exact ⟨o2, rfl, f2⟩
      · exact ⟨o3, rfl, f3⟩
      · exact ⟨o4, rfl, f4⟩
      · exact ⟨o6, rfl, f6⟩
      · exact ⟨o7, rfl, f7⟩
      · exact ⟨o8, rfl, f8⟩
      · exact ⟨o9, rfl, f9⟩
      · exact ⟨o10, rfl, f10⟩
      · exact ⟨o11, rfl, f11⟩
    generalize ([(.ref o1), (.ref o2), (.ref o3), (.ref o4), (.ref o6), (.ref o7), (.ref o8), (.ref o9), (.ref o10), (.ref o11)] : List V) = refs at fN hln
    clear F13 n13 F12 n12 F11 n11 F10 n10 F9 n9 F8 n8 F7 n7 F6 n6 F5 n5 F4 n4 F3 n3 F2 n2 F1 n1 f1 f2 f3 f4 f6 f7 f8 f9 f10 f11
    have hl3 : (nmsT way).length ≤ 3 ∧ 1 ≤ (nmsT way).length := by
      rcases (show way = 0 ∨ way = 1 ∨ way = 2 ∨ way = 3 ∨ way = 4 ∨ way = 5 ∨ way = 6 ∨ way = 7 ∨ way = 8 ∨ way = 9 by omega) with rfl | rfl | rfl | rfl | rfl | rfl | rfl | rfl | rfl | rfl <;> decide
    have ht7 : ∀ t ∈ nmsT way, t < 7 := by
      rcases (show way = 0 ∨ way = 1 ∨ way = 2 ∨ way = 3 ∨ way = 4 ∨ way = 5 ∨ way = 6 ∨ way = 7 ∨ way = 8 ∨ way = 9 by omega) with rfl | rfl | rfl | rfl | rfl | rfl | rfl | rfl | rfl | rfl <;> decide
    refine ⟨_, rfl, p, 6, 4, m, rfl, by decide, by decide, P0, by omega, fun v u H1 e1 p1 hd hu hn6 hn4 => ?_⟩
    have b1 := hu.lo
    have fN1 := e1.rm _ _ fN
    have hlc1 := e1.rm _ _ hlc
    refine fun D hD => ?_
    have Dp := p1.off hD
    have E1 : Ex H1 (upd H1 D (.dK [])) := Ex.nw hD
    have F1 : (upd H1 D (.dK [])) D = some (.dK []) := upd_same
    have P1 := p1.up E1
    generalize upd H1 D (.dK []) = H2 at E1 F1 P1
    refine ⟨_, rfl, by show 1 ≤ sizeLine; decide, fun L1 n1 => ?_⟩
    have L1p := P1.off n1
    have E2 : Ex H2 (upd H2 L1 (.lst [.int 0])) := Ex.nw n1
    have F2 : (upd H2 L1 (.lst [.int 0])) L1 = some (.lst [.int 0]) := upd_same
    have P2 := P1.up E2
    generalize upd H2 L1 (.lst [.int 0]) = H3 at E2 F2 P2
    refine ⟨by show 2 ≤ sizeLine; decide, fun L0 n0 => ?_⟩
    have L0p := P2.off n0
    have E3 : Ex H3 (upd H3 L0 (.tup [.int 0, .int 0])) := Ex.nw n0
    have F3 : (upd H3 L0 (.tup [.int 0, .int 0])) L0 = some (.tup [.int 0, .int 0]) := upd_same
    have P3 := P2.up E3
    generalize upd H3 L0 (.tup [.int 0, .int 0]) = H4 at E3 F3 P3
    refine ⟨by show 1 ≤ sizeLine; decide, fun L2 n2 => ?_⟩
    have L2p := P3.off n2
    have E4 : Ex H4 (upd H4 L2 (.lst [.ref L0])) := Ex.nw n2
    have F4 : (upd H4 L2 (.lst [.ref L0])) L2 = some (.lst [.ref L0]) := upd_same
    have P4 := P3.up E4
    generalize upd H4 L2 (.lst [.ref L0]) = H5 at E4 F4 P4
    have e24 := E2.tr (E3.tr E4)
    refine ⟨e24 _ _ F1, rgtKV v (.ref L1) (.ref L2), rfl, by show 6 ≤ 15; decide, ?_⟩
    rw [show mergeK [] (rgtKV v (.ref L1) (.ref L2)) = rgtKV v (.ref L1) (.ref L2) from rfl]
    have e15 : Ex H1 (upd H5 D (.dK (rgtKV v (.ref L1) (.ref L2)))) := (E1.tr e24).wr hD
    have P5 : Purse (upd H5 D (.dK (rgtKV v (.ref L1) (.ref L2)))) p (m + 700) := P4.put Dp.symm
    have g1 : (upd H5 D (.dK (rgtKV v (.ref L1) (.ref L2)))) L1 = some (.lst [.int 0]) := by
      rw [upd_ne (ne_of_none F1 n1).symm]
      exact (E3.tr E4) _ _ F2
    have g0 : (upd H5 D (.dK (rgtKV v (.ref L1) (.ref L2)))) L0 = some (.tup [.int 0, .int 0]) := by
      rw [upd_ne (ne_of_none (E2 _ _ F1) n0).symm]
      exact E4 _ _ F3
    have g2 : (upd H5 D (.dK (rgtKV v (.ref L1) (.ref L2)))) L2 = some (.lst [.ref L0]) := by
      rw [upd_ne (ne_of_none ((E2.tr E3) _ _ F1) n2).symm]
      exact F4
    have gD : (upd H5 D (.dK (rgtKV v (.ref L1) (.ref L2)))) D = some (.dK (rgtKV v (.ref L1) (.ref L2))) := upd_same
    generalize upd H5 D (.dK (rgtKV v (.ref L1) (.ref L2))) = H6 at e15 P5 g1 g0 g2 gD
    clear F1 F2 F3 F4 P1 P2 P3 P4 E1 E2 E3 E4 e24
    have hd6 := hd.up e15.rm
    obtain ⟨tt, x2, x3, rfl, hS, k2, k3⟩ := Wb.at (hd6.up rm_ex)
    refine ⟨_, rfl, tt, _, 0, _, rfl, rfl, hS, rfl, u.n, rfl, RgOk.of_le (by omega) (by have := hu.hi; omega) (by omega) (by have := hu.hi; omega), fun Lo no => ?_⟩
    rw [rgV_iota']
    have Lop := P5.off no
    have E7 : Ex H6 (upd H6 Lo (.lst ((iota u.n).map V.int))) := Ex.nw no
    have F7 : (upd H6 Lo (.lst ((iota u.n).map V.int))) Lo = some (.lst ((iota u.n).map V.int)) := upd_same
    have P7 := P5.up E7
    generalize upd H6 Lo (.lst ((iota u.n).map V.int)) = H7 at E7 F7 P7
    refine ⟨_, rfl, D, _, rfl, DPut.k (k := Sum.inr "order") (E7 _ _ gD) (by show 6 < sizeLine; decide), ?_⟩
    rw [show putK (rgtKV (.ref tt) (.ref L1) (.ref L2)) (Sum.inr "order") (.ref Lo) = kv7 (.ref tt) L1 L2 Lo from rfl]
    have hDn : rm H1 p D = none := by rw [rm_ne Dp]; exact hD
    have e8 : ExD p H1 (upd H7 D (.dK (kv7 (.ref tt) L1 L2 Lo))) := ((e15.tr E7).wr hD).d
    have P8 : Purse (upd H7 D (.dK (kv7 (.ref tt) L1 L2 Lo))) p (m + 700) := P7.put Dp.symm
    have r1 : rm (upd H7 D (.dK (kv7 (.ref tt) L1 L2 Lo))) p L1 = some (.lst [.int 0]) := by
      rw [rm_ne L1p, upd_ne (fun e => by rw [e, gD] at g1; cases g1)]
      exact E7 _ _ g1
    have r0 : rm (upd H7 D (.dK (kv7 (.ref tt) L1 L2 Lo))) p L0 = some (.tup [.int 0, .int 0]) := by
      rw [rm_ne L0p, upd_ne (fun e => by rw [e, gD] at g0; cases g0)]
      exact E7 _ _ g0
    have r2 : rm (upd H7 D (.dK (kv7 (.ref tt) L1 L2 Lo))) p L2 = some (.lst [.ref L0]) := by
      rw [rm_ne L2p, upd_ne (fun e => by rw [e, gD] at g2; cases g2)]
      exact E7 _ _ g2
    have ro : rm (upd H7 D (.dK (kv7 (.ref tt) L1 L2 Lo))) p Lo = some (.lst ((iota u.n).map V.int)) := by
      rw [rm_ne Lop, upd_ne (ne_of_none gD no).symm]
      exact F7
    have rD : rm (upd H7 D (.dK (kv7 (.ref tt) L1 L2 Lo))) p D = some (.dK (kv7 (.ref tt) L1 L2 Lo)) := by
      rw [rm_ne Dp]
      exact upd_same
    generalize upd H7 D (.dK (kv7 (.ref tt) L1 L2 Lo)) = B at e8 P8 r1 r0 r2 ro rD
    have hdB := hd.up e8.rm
    have fNB := e8.rm _ _ fN1
    have hlB := e8.rm _ _ hlc1
    have lk1 : ∀ i ∈ iota u.n, 0 ≤ i ∧ i < 64 := fun i hi => by have := mem_iota.mp hi; have := hu.hi; omega
    have lk2 : (iota u.n).length ≤ 30 := by have := iota_len u.n; have := hu.hi; omega
    have rDa : ∀ t, t < 7 → Da K (rm B p) (rightD u t) (rv (.ref tt) L1 L2 Lo t) := fun t ht => by
      rcases (show t = 0 ∨ t = 1 ∨ t = 2 ∨ t = 3 ∨ t = 4 ∨ t = 5 ∨ t = 6 by omega) with rfl | rfl | rfl | rfl | rfl | rfl | rfl
      · exact hdB
      · exact rfl
      · exact rfl
      · exact dInts_of (r := [0]) r1 (by decide)
      · exact rfl
      · exact dInts_of ro (by omega)
      · exact ⟨L2, _, rfl, r2, ⟨_, _, rfl, dPair_of (p := (0, 0)) r0, rfl⟩, by decide⟩
    have rSh : ∀ t, t < 7 → Sh 41 40000 40 (rightD u t) := fun t ht => by
      rcases (show t = 0 ∨ t = 1 ∨ t = 2 ∨ t = 3 ∨ t = 4 ∨ t = 5 ∨ t = 6 by omega) with rfl | rfl | rfl | rfl | rfl | rfl | rfl
      · exact hu.sh.wide (by omega) (by omega)
      · exact sh_i9 (by decide)
      · exact sh_i9 (by decide)
      · exact sh_ints9 (fun x hx => by obtain rfl := List.mem_singleton.mp hx; omega) (by decide)
      · exact sh_i9 (by decide)
      · exact sh_ints9 lk1 lk2
      · exact shB_sh (d := dPairs [(0, 0)]) (by decide +kernel)
    clear r1 r0 r2 ro
    refine ⟨_, rfl, _, rfl, _, refs, (way : Int), .ref ln, rfl, rfl, .inl (.inl (rm_ex _ _ fNB)), atI_int (by omega) (by rw [show ((way : Int)).toNat = way by omega]; exact hln), ?_⟩
    have tl : ((nmsT way).map fun t => V.str (nmT t)).length = (nmsT way).length := List.length_map ..
    refine ⟨_, rfl, by decide, by decide, ?_⟩
    have e01 : ExD p H B := (e0.tr e1).tr e8
    refine for_by 6 (fun i σ H' => ∃ y6 y7 y8 y9 y10 y11 y12 y13 NN, σ = [some (.ref p), some (.int way), some NN, some (.ref tt), some (.ref D), some (.ref ln), y6, y7, y8, y9, y10, y11, y12, y13] ∧ ExD p B H' ∧ Purse H' p (m + 700 + 6 * i))
      ⟨_, _, _, _, _, _, _, _, _, rfl, ExD.rfl, P8⟩ (fun i σ H' hi _ => hi) (fun σ H' _ => Nat.le_refl _) ?_ ?_
    · rintro i σ J1 x J2 hi ⟨y6, y7, y8, y9, y10, y11, y12, y13, NN, rfl, j1, Q1⟩ ⟨rfl, rfl⟩
      refine ⟨_, rfl, ln, _, rfl, .inl (.inl (.inl (rm_ex _ _ (j1.rm _ _ hlB)))), _, rfl, by rw [tl]; omega, by rw [tl]; omega, fun PL hPL => ?_⟩
      rw [tl]
      have PLp := Q1.off hPL
      refine lc_by (nmsT way).length (fun k H' => ExD p J2 H' ∧ Purse H' p (m + 700 + 6 * i + k) ∧ ∃ S : List Int, H' PL = some (.lst (S.map V.int)) ∧ (∀ s ∈ S, 0 ≤ s ∧ s < (k : Int)) ∧ S.length ≤ k)
        ⟨ExD.nw hPL, Q1.put PLp.symm, [], upd_same, fun t ht => (by cases ht), Nat.le_refl _⟩ (fun k H' hk _ => (by show k < _; omega)) (fun H' _ => (by show _ ≤ (nmsT way).length; omega)) ?_ ?_
      · rintro k J3 x J4 hk ⟨j3, Q3, S, hS3, hb3, hl3'⟩ ⟨rfl, rfl⟩
        refine ⟨rfl, ?_⟩
        refine ⟨_, rfl, p, 2, _, rfl, by decide, Q3, by omega, fun z J5 hz Q5 j5 => ?_⟩
        have hS5 := j5 PL _ PLp hS3
        refine ⟨rfl, _, rfl, ite2 (fun _ => ?_) (fun _ => ?_)⟩
        · refine ⟨_, rfl, _, hS5, mil' (by rw [List.length_map]; omega), (j3.tr j5).wr hPL, Q5.put PLp.symm, S ++ [0 + (k : Int)], ?_, ?_, ?_⟩
          · rw [upd_same, List.map_append]
            rfl
          · intro t ht
            rcases List.mem_append.mp ht with ht | ht
            · have := hb3 t ht
              omega
            · obtain rfl := List.mem_singleton.mp ht
              omega
          · rw [List.length_append, List.length_singleton]
            omega
        · exact ⟨j3.tr j5, Q5, S, hS5, fun t ht => by have := hb3 t ht; omega, by omega⟩
      · rintro J3 ⟨j3, Q3, S, hS3, hb3, hl3'⟩
        have jB3 : ExD p B J3 := j1.tr j3
        have PLJ : J3 PL = some (.lst (S.map V.int)) := hS3
        -- what a call is asked with
        refine ⟨_, rfl, ln, rfl, ⟨_, .inl (.inl (rm_ex _ _ (jB3.rm _ _ hlB)))⟩, fun TL hTL => ?_⟩
        have TLp := Q3.off hTL
        have sqn : ∀ {H' : Hp}, ExD p B H' → SqL K H' ln ((nmsT way).map fun t => V.str (nmT t)) := fun e => .inl (.inl (rm_ex _ _ (e.rm _ _ hlB)))
        refine lc_by ((nmsT way).map fun t => V.str (nmT t)).length (fun k H' => Ex J3 H' ∧ H' TL = some (.lst (((nmsT way).take k).map (rv (.ref tt) L1 L2 Lo))))
          ⟨Ex.nw hTL, upd_same⟩ (fun k H' hk p => itl_go (sqn (jB3.tr p.1.d)) Ex.rfl hk) (fun H' p => itl_stop (sqn (jB3.tr p.1.d)) Ex.rfl) ?_ ?_
        · rintro k J4 x J5 hk ⟨j4, hT4⟩ y
          obtain ⟨rfl, hx⟩ := itl_yld y (sqn (jB3.tr j4.d)) Ex.rfl
          rw [tl] at hk
          have ht := List.getElem?_eq_getElem hk
          generalize (nmsT way)[k] = t at ht
          rw [List.getElem?_map, ht] at hx
          obtain rfl := Option.some.inj hx
          have h7 := ht7 t (List.mem_of_getElem? ht)
          refine ⟨rfl, _, rfl, _, rfl, D, rv (.ref tt) L1 L2 Lo t, rfl, by rw [← kv7_get h7]; exact DGet.k (k := Sum.inr (nmT t)) (rm_ex _ _ ((jB3.tr j4.d).rm _ _ rD)), _, hT4, mil' (by rw [List.length_map, List.length_take]; omega), ?_, ?_⟩
          · exact fun b o h => by rw [upd_ne (fun e => by rw [e, hTL] at h; cases h)]; exact j4 b o h
          · rw [upd_same, show (nmsT way).take (k + 1) = (nmsT way).take k ++ [t] by rw [List.take_succ, ht]; rfl, List.map_append]
            rfl
        · rintro J4 ⟨j4, hT4⟩
          rw [tl, List.take_length] at hT4
          refine ⟨by show 1 ≤ sizeLine; decide, fun NL hNL => ?_⟩
          have E5 : Ex J4 (upd J4 NL (.lst [.non])) := Ex.nw hNL
          have F5 : (upd J4 NL (.lst [.non])) NL = some (.lst [.non]) := upd_same
          generalize upd J4 NL (.lst [.non]) = J5 at E5 F5
          refine ⟨_, rfl, ln, _, rfl, .inl (sqn (jB3.tr (j4.tr E5).d)), _, _, rfl, rfl, NL, _, _, rfl, rfl, F5, by rw [tl]; omega, by rw [tl]; omega, mil (by rw [tl, List.length_singleton]; omega), fun RL hRL => ?_⟩
          rw [tl, List.flatten_replicate_singleton]
          generalize hkk : ((3 : Int) - ((nmsT way).length : Int)).toNat = kk
          have E6 : Ex J5 (upd J5 RL (.lst (List.replicate kk V.non))) := Ex.nw hRL
          have F6 : (upd J5 RL (.lst (List.replicate kk V.non))) RL = some (.lst (List.replicate kk V.non)) := upd_same
          generalize upd J5 RL (.lst (List.replicate kk V.non)) = J6 at E6 F6
          refine ⟨TL, RL, _, _, rfl, rfl, .inl (.inl ((E5.tr E6) _ _ hT4)), .inl (.inl F6), by rw [List.length_map, List.length_replicate]; omega, fun TH hTH => ?_⟩
          have j36 := j4.tr (E5.tr E6)
          have P6 := Q3.up j36
          have THp := P6.off hTH
          have E7' : Ex J6 (upd J6 TH (.lst ((nmsT way).map (rv (.ref tt) L1 L2 Lo) ++ List.replicate kk V.non))) := Ex.nw hTH
          have F7' : (upd J6 TH (.lst ((nmsT way).map (rv (.ref tt) L1 L2 Lo) ++ List.replicate kk V.non))) TH = some (.lst ((nmsT way).map (rv (.ref tt) L1 L2 Lo) ++ List.replicate kk V.non)) := upd_same
          have P7' := P6.up E7'
          have jB6 : ExD p B J6 := jB3.tr j36.d
          have bTH : rm B p TH = none := by
            rw [rm_ne THp]
            cases e : B TH with
            | none => rfl
            | some z =>
              have := jB6 TH z THp e
              rw [hTH] at this
              cases this
          have PLT : PL ≠ TH := fun e => by
            have := j36 _ _ PLJ
            rw [e, hTH] at this
            cases this
          have th0 : Thg K (rm B p) u (S.take 0) way ((nmsT way).map (rv (.ref tt) L1 L2 Lo) ++ List.replicate kk V.non) := by
            refine ⟨by rw [List.length_append, List.length_map, List.length_replicate]; omega, fun i hi => ?_⟩
            by_cases h : i < (nmsT way).length
            · have ht := List.getElem?_eq_getElem h
              generalize (nmsT way)[i] = t at ht
              have h7 := ht7 t (List.mem_of_getElem? ht)
              refine ⟨rv (.ref tt) L1 L2 Lo t, rightD u t, ?_, rDa t h7, rSh t h7, fun t' ht' => ?_⟩
              · rw [List.getElem?_append_left (by rw [List.length_map]; exact h), List.getElem?_map, ht]
                rfl
              · obtain rfl := Option.some.inj (ht.symm.trans ht')
                exact ⟨fun z => (by simp at z), fun _ => rfl⟩
            · refine ⟨.non, .none, ?_, rfl, sh_n9, fun t ht => ?_⟩
              · rw [List.getElem?_append_right (by rw [List.length_map]; omega), List.length_map, List.getElem?_replicate, if_pos (by omega)]
              · rw [List.getElem?_eq_none (by omega)] at ht
                cases ht
          generalize (nmsT way).map (rv (.ref tt) L1 L2 Lo) ++ List.replicate kk V.non = L0' at E7' F7' P7' th0
          generalize upd J6 TH (.lst L0') = J7 at E7' F7' P7'
          have j37 := j36.tr E7'
          have jB7 := jB3.tr j37.d
          have x7 : Ex (rm B p) (rm2 J7 p TH) := rm2_of bTH jB7.rm
          refine ⟨_, rfl, PL, rfl, ⟨_, .inl (.inl (j37 _ _ PLJ))⟩, ?_⟩
          have Sl : (S.map V.int).length = S.length := List.length_map ..
          refine for_by (S.map V.int).length (fun k σ H' => ∃ y9 y10 y11 y12 y13, σ = [some (.ref p), some (.int way), some NN, some (.ref tt), some (.ref D), some (.ref ln), some (.int (0 + (i : Int))), some (.ref PL), some (.ref TH), y9, y10, y11, y12, y13] ∧
              ExD p J3 H' ∧ ExD p B H' ∧ Purse H' p (m + 700 + 6 * i + (nmsT way).length + k) ∧ H' PL = some (.lst (S.map V.int)) ∧ Ex (rm B p) (rm2 H' p TH) ∧ ∃ L, H' TH = some (.lst L) ∧ Thg K (rm2 H' p TH) u (S.take k) way L)
            ⟨_, _, _, _, _, rfl, j37.d, jB7, P7', j37 _ _ PLJ, x7, L0', F7', th0.up x7⟩ (fun k σ H' hk pv => ?_) (fun σ H' pv => ?_) ?_ ?_
          · obtain ⟨_, _, _, _, _, _, _, _, _, h, _⟩ := pv
            exact itl_go (.inl (.inl h)) Ex.rfl hk
          · obtain ⟨_, _, _, _, _, _, _, _, _, h, _⟩ := pv
            exact itl_stop (.inl (.inl h)) Ex.rfl
          · rintro k σ K1 x K2 hk ⟨y9, y10, y11, y12, y13, rfl, k3, kB, kP, kL, kx, L, kT, th⟩ y
            obtain ⟨rfl, hx⟩ := itl_yld y (.inl (.inl kL)) Ex.rfl
            rw [Sl] at hk
            have hs := List.getElem?_eq_getElem hk
            generalize S[k] = s at hs
            rw [List.getElem?_map, hs] at hx
            obtain rfl := Option.some.inj hx
            have hsb := hb3 s (List.mem_of_getElem? hs)
            obtain ⟨ks, rfl⟩ : ∃ ks : Nat, s = (ks : Int) := ⟨s.toNat, by omega⟩
            have hks : ks < (nmsT way).length := by omega
            have ht := List.getElem?_eq_getElem hks
            generalize (nmsT way)[ks] = t at ht
            have h7 := ht7 t (List.mem_of_getElem? ht)
            obtain ⟨_, _, _, hpp, _⟩ := kP.ex
            refine ⟨_, rfl, _, rfl, ln, _, (ks : Int), .str (nmT t), rfl, rfl, sqn kB, atI_int (by omega) (by rw [show ((ks : Int)).toNat = ks by omega, List.getElem?_map, ht]; rfl), _, rfl, t, .ref tt, u, p, TH, _, _, rfl, h7, hpp, kT, hdB.up kx, hu, fun R ys H1 f1 hR hl hB => ?_⟩
            have hR' := rm_ex _ _ (rm_ex _ _ hR)
            have P1 := kP.up f1
            have rRp : rm H1 p R = some (.lst ys) := rm_ex _ _ hR
            refine ⟨_, rfl, _, rfl, _, rfl, R, _, rfl, .inl (.inl (.inl hR')), p, (ys.length : Int), _, rfl, by omega, P1, by omega, fun z H2 hz P2 d2 => ?_⟩
            obtain ⟨xx, hxx⟩ : ∃ xx, ys[z.toNat]? = some xx := ⟨_, List.getElem?_eq_getElem (by omega)⟩
            obtain ⟨dd, g1, g2, g3⟩ := hB.at hxx
            have kT1 : H2 TH = some (.lst L) := d2 _ _ THp (f1 _ _ kT)
            refine ⟨R, ys, z, xx, rfl, rfl, .inl (.inl (rm_ex _ _ (d2.rm _ _ rRp))), atI_int hz.1 hxx, ?_⟩
            refine ⟨_, rfl, _, rfl, TH, L, (ks : Int), ks, rfl, rfl, kT1, by rw [ixN_int (by omega) (by rw [th.1]; omega)]; rfl, ?_⟩
            have x12 : Ex (rm2 K2 p TH) (rm2 (upd H2 TH (.lst (L.set ks xx))) p TH) := (rm2_ex f1).tr ((rm2_d d2).tr rm2_upd)
            have x2 : Ex (rm2 H1 p TH) (rm2 (upd H2 TH (.lst (L.set ks xx))) p TH) := (rm2_d d2).tr rm2_upd
            have J3TH : J3 TH = none := by
              cases e : J3 TH with
              | none => rfl
              | some z =>
                have := j36 _ _ e
                rw [hTH] at this
                cases this
            have BTH : B TH = none := by rw [← rm_ne (H := B) THp]; exact bTH
            refine ⟨_, _, _, _, _, rfl, (k3.tr (f1.d.tr d2)).wr J3TH, (kB.tr (f1.d.tr d2)).wr BTH, (P2.put (Ne.symm THp)).mono (by omega), ?_, kx.tr x12, _, upd_same, ?_⟩
            · rw [upd_ne PLT]
              exact d2 _ _ PLp (f1 _ _ kL)
            · exact (th.up x12).put hs rfl (by omega) ht (g1.up x2) g2 g3
          · rintro σ K1 ⟨y9, y10, y11, y12, y13, rfl, k3, kB, kP, kL, kx, L, kT, th⟩
            rw [Sl, List.take_length] at th
            have hL3 := th.1
            obtain ⟨a, b, e, rfl⟩ : ∃ a b e, L = [a, b, e] := by
              match L, hL3 with
              | [a, b, e], _ => exact ⟨a, b, e, rfl⟩
            obtain ⟨_, d0, w0, c0, s0, q0⟩ := th.2 0 (by decide)
            obtain rfl := Option.some.inj w0
            obtain ⟨_, d1, w1, c1, s1, q1⟩ := th.2 1 (by decide)
            obtain rfl := Option.some.inj w1
            obtain ⟨_, d2, w2, c2, s2, q2⟩ := th.2 2 (by decide)
            obtain rfl := Option.some.inj w2
            have outx : Ex (rm2 K1 p TH) K1 := rm_ex.tr rm_ex
            have t00 : (nmsT way)[0]? = some 0 := by
              rcases (show way = 0 ∨ way = 1 ∨ way = 2 ∨ way = 3 ∨ way = 4 ∨ way = 5 ∨ way = 6 ∨ way = 7 ∨ way = 8 ∨ way = 9 by omega) with rfl | rfl | rfl | rfl | rfl | rfl | rfl | rfl | rfl | rfl <;> rfl
            refine ⟨_, rfl, _, rfl, _, rfl, .int way, PL, ln, S, nmsT way, rfl, kL, rm_ex _ _ (kB.rm _ _ hlB), ht7, hl3.1, fun H1 f1 => ?_⟩
            refine ⟨_, rfl, _, rfl, way, TH, a, b, e, d0, d1, d2, rfl, hway, f1 _ _ kT, (c0.up outx).up f1, (c1.up outx).up f1, (c2.up outx).up f1, s0, s1, s2, fun H2 f2 => ?_⟩
            refine ⟨_, _, rfl, ?_⟩
            have kB2 := kB.tr (f1.tr f2).d
            have P2 := (kP.up (f1.tr f2)).mono (show _ ≤ m + 700 + 6 * (i + 1) by omega)
            have kL2 := (f1.tr f2) _ _ kL
            refine ⟨_, rfl, rfl, _, rfl, ?_⟩
            by_cases h5 : way = 5
            · refine ite2 (fun _ => ?_) (fun h => absurd (decide_eq_true (by rw [h5]; rfl)) h)
              obtain ⟨tt', y2, y3, ee, hSx, m2, m3⟩ := Wb.at ((hdB.up kB2.rm).up rm_ex)
              cases ee
              refine ⟨_, rfl, tt, _, 2, _, rfl, rfl, hSx, rfl, Nat.zero_le _, fun El hEl => ?_⟩
              have E9 : Ex H2 (upd H2 El (.lst [])) := Ex.nw hEl
              have F9 : (upd H2 El (.lst [])) El = some (.lst []) := upd_same
              have P9 := P2.up E9
              generalize upd H2 El (.lst []) = H9 at E9 F9 P9
              have kB9 := kB2.tr E9.d
              have dl : _root_.L2.Dp K H9 (.ref El) (dRows []) := .lst (.inl (.inl F9)) .nil
              refine ⟨dRows u.ns, dRows [], (m3.up E9).dRows, dl, sh_dRows _, sh_dRows _, _, rfl, ?_⟩
              rw [eqv_dRows]
              by_cases hn : u.ns = []
              · refine ite2 (fun _ => ?_) (fun h => absurd (decide_eq_true hn) h)
                refine ⟨_, rfl, PL, _, rfl, .inl (.inl (.inl (E9 _ _ kL2))), rfl, flat_ints, _, rfl, ?_⟩
                rw [notin_int]
                cases hs0 : S.contains (0 : Int) with
                | false =>
                  refine ite2 (fun _ => ?_) (fun h => absurd rfl h)
                  have e4 : toldV (dueCall way d0 d1 d2) = .int 4 := by rw [h5]; exact none_due hu hn hs0 (q0 0 t00)
                  rw [e4]
                  refine ⟨_, rfl, _, rfl, dN (.int 4), dN (.int 4), dpN (.inr ⟨_, rfl⟩), dpN (.inr ⟨_, rfl⟩), shN' _, shN' _, _, rfl, ?_⟩
                  rw [eqvN]
                  refine ite2 (fun h => Bool.noConfusion h) (fun _ => ?_)
                  exact ⟨_, _, _, _, _, _, _, _, _, rfl, kB9, P9⟩
                | true =>
                  refine ite2 (fun h => Bool.noConfusion h) (fun _ => ?_)
                  have hg0 := good_due hu hway (q0 0 t00) q1 q2 (fun h => by rw [hs0] at h; cases h.2.2)
                  refine ⟨_, rfl, _, rfl, dN (toldV (dueCall way d0 d1 d2)), dN (dueTV (nmsT way) S), dpN (ni_told _), dpN (ni_due _ _), shN' _, shN' _, _, rfl, ?_⟩
                  rcases hg0 with hg | ⟨hg1, hg2⟩
                  · rw [hg, eqvN]
                    refine ite2 (fun h => Bool.noConfusion h) (fun _ => ?_)
                    exact ⟨_, _, _, _, _, _, _, _, _, rfl, kB9, P9⟩
                  · rw [hg1]
                    rcases hg2 with hg2 | hg2 | hg2 <;> rw [hg2]
                    · refine ite2 (fun _ => ?_) (fun h => absurd rfl h)
                      refine ⟨_, rfl, rfl, true, rfl, ite2 (fun _ => ?_) (fun h => absurd rfl h)⟩
                      refine ⟨_, rfl, by show 3 ≤ sizeLine; decide, fun ol nl => ⟨ol, _, rfl, .inl (.inl (.inl upd_same)), rfl, rfl, true, rfl, ?_⟩⟩
                      exact ite2 (fun h => Bool.noConfusion h) (fun _ => ⟨_, _, _, _, _, _, _, _, _, rfl, kB9.tr (ExD.nw nl), P9.up (Ex.nw nl)⟩)
                    · refine ite2 (fun _ => ?_) (fun h => absurd rfl h)
                      refine ⟨_, rfl, rfl, true, rfl, ite2 (fun _ => ?_) (fun h => absurd rfl h)⟩
                      refine ⟨_, rfl, by show 3 ≤ sizeLine; decide, fun ol nl => ⟨ol, _, rfl, .inl (.inl (.inl upd_same)), rfl, rfl, true, rfl, ?_⟩⟩
                      exact ite2 (fun h => Bool.noConfusion h) (fun _ => ⟨_, _, _, _, _, _, _, _, _, rfl, kB9.tr (ExD.nw nl), P9.up (Ex.nw nl)⟩)
                    · refine ite2 (fun _ => ?_) (fun h => absurd rfl h)
                      refine ⟨_, rfl, rfl, true, rfl, ite2 (fun _ => ?_) (fun h => absurd rfl h)⟩
                      refine ⟨_, rfl, by show 3 ≤ sizeLine; decide, fun ol nl => ⟨ol, _, rfl, .inl (.inl (.inl upd_same)), rfl, rfl, true, rfl, ?_⟩⟩
                      exact ite2 (fun h => Bool.noConfusion h) (fun _ => ⟨_, _, _, _, _, _, _, _, _, rfl, kB9.tr (ExD.nw nl), P9.up (Ex.nw nl)⟩)
              · refine ite2 (fun h => absurd (of_decide_eq_true h) hn) (fun _ => ?_)
                have hg0 := good_due hu hway (q0 0 t00) q1 q2 (fun h => hn h.2.1)
                refine ⟨_, rfl, _, rfl, dN (toldV (dueCall way d0 d1 d2)), dN (dueTV (nmsT way) S), dpN (ni_told _), dpN (ni_due _ _), shN' _, shN' _, _, rfl, ?_⟩
                rcases hg0 with hg | ⟨hg1, hg2⟩
                · rw [hg, eqvN]
                  refine ite2 (fun h => Bool.noConfusion h) (fun _ => ?_)
                  exact ⟨_, _, _, _, _, _, _, _, _, rfl, kB9, P9⟩
                · rw [hg1]
                  rcases hg2 with hg2 | hg2 | hg2 <;> rw [hg2]
                  · refine ite2 (fun _ => ?_) (fun h => absurd rfl h)
                    refine ⟨_, rfl, rfl, true, rfl, ite2 (fun _ => ?_) (fun h => absurd rfl h)⟩
                    refine ⟨_, rfl, by show 3 ≤ sizeLine; decide, fun ol nl => ⟨ol, _, rfl, .inl (.inl (.inl upd_same)), rfl, rfl, true, rfl, ?_⟩⟩
                    exact ite2 (fun h => Bool.noConfusion h) (fun _ => ⟨_, _, _, _, _, _, _, _, _, rfl, kB9.tr (ExD.nw nl), P9.up (Ex.nw nl)⟩)
                  · refine ite2 (fun _ => ?_) (fun h => absurd rfl h)
                    refine ⟨_, rfl, rfl, true, rfl, ite2 (fun _ => ?_) (fun h => absurd rfl h)⟩
                    refine ⟨_, rfl, by show 3 ≤ sizeLine; decide, fun ol nl => ⟨ol, _, rfl, .inl (.inl (.inl upd_same)), rfl, rfl, true, rfl, ?_⟩⟩
                    exact ite2 (fun h => Bool.noConfusion h) (fun _ => ⟨_, _, _, _, _, _, _, _, _, rfl, kB9.tr (ExD.nw nl), P9.up (Ex.nw nl)⟩)
                  · refine ite2 (fun _ => ?_) (fun h => absurd rfl h)
                    refine ⟨_, rfl, rfl, true, rfl, ite2 (fun _ => ?_) (fun h => absurd rfl h)⟩
                    refine ⟨_, rfl, by show 3 ≤ sizeLine; decide, fun ol nl => ⟨ol, _, rfl, .inl (.inl (.inl upd_same)), rfl, rfl, true, rfl, ?_⟩⟩
                    exact ite2 (fun h => Bool.noConfusion h) (fun _ => ⟨_, _, _, _, _, _, _, _, _, rfl, kB9.tr (ExD.nw nl), P9.up (Ex.nw nl)⟩)
            · refine ite2 (fun h => absurd (of_decide_eq_true h) (fun z => h5 (by have := V.int.inj z; omega))) (fun _ => ?_)
              have hg0 := good_due hu hway (q0 0 t00) q1 q2 (fun h => h5 h.1)
              refine ⟨_, rfl, _, rfl, dN (toldV (dueCall way d0 d1 d2)), dN (dueTV (nmsT way) S), dpN (ni_told _), dpN (ni_due _ _), shN' _, shN' _, _, rfl, ?_⟩
              rcases hg0 with hg | ⟨hg1, hg2⟩
              · rw [hg, eqvN]
                refine ite2 (fun h => Bool.noConfusion h) (fun _ => ?_)
                exact ⟨_, _, _, _, _, _, _, _, _, rfl, kB2, P2⟩
              · rw [hg1]
                rcases hg2 with hg2 | hg2 | hg2 <;> rw [hg2]
                · refine ite2 (fun _ => ?_) (fun h => absurd rfl h)
                  refine ⟨_, rfl, rfl, true, rfl, ite2 (fun _ => ?_) (fun h => absurd rfl h)⟩
                  refine ⟨_, rfl, by show 3 ≤ sizeLine; decide, fun ol nl => ⟨ol, _, rfl, .inl (.inl (.inl upd_same)), rfl, rfl, true, rfl, ?_⟩⟩
                  exact ite2 (fun h => Bool.noConfusion h) (fun _ => ⟨_, _, _, _, _, _, _, _, _, rfl, kB2.tr (ExD.nw nl), P2.up (Ex.nw nl)⟩)
                · refine ite2 (fun _ => ?_) (fun h => absurd rfl h)
                  refine ⟨_, rfl, rfl, true, rfl, ite2 (fun _ => ?_) (fun h => absurd rfl h)⟩
                  refine ⟨_, rfl, by show 3 ≤ sizeLine; decide, fun ol nl => ⟨ol, _, rfl, .inl (.inl (.inl upd_same)), rfl, rfl, true, rfl, ?_⟩⟩
                  exact ite2 (fun h => Bool.noConfusion h) (fun _ => ⟨_, _, _, _, _, _, _, _, _, rfl, kB2.tr (ExD.nw nl), P2.up (Ex.nw nl)⟩)
                · refine ite2 (fun _ => ?_) (fun h => absurd rfl h)
                  refine ⟨_, rfl, rfl, true, rfl, ite2 (fun _ => ?_) (fun h => absurd rfl h)⟩
                  refine ⟨_, rfl, by show 3 ≤ sizeLine; decide, fun ol nl => ⟨ol, _, rfl, .inl (.inl (.inl upd_same)), rfl, rfl, true, rfl, ?_⟩⟩
                  exact ite2 (fun h => Bool.noConfusion h) (fun _ => ⟨_, _, _, _, _, _, _, _, _, rfl, kB2.tr (ExD.nw nl), P2.up (Ex.nw nl)⟩)
    · rintro σ J1 ⟨y6, y7, y8, y9, y10, y11, y12, y13, NN, rfl, j1, Q1⟩
      exact q _ (e01.tr j1) (Q1.mono (by omega))
end

end K46
namespace K46
open PySem PySem.Spec PyProof.Rows L2 Nw
/-! law: slots 0 _law_script, 1 _law_k, 2 _law_purse_here, 3 _law_way, 4 _law_some, 5 _law_told_here, 6 _law_great, 7 _law_full, 8 _law_one, 9 _law_bad_here -/
abbrev s_law : Stmt := topS 60
abbrev N_law : List Str := ["_law_script", "_law_k", "_law_purse_here", "_law_way", "_law_some", "_law_told_here", "_law_great", "_law_full", "_law_one", "_law_bad_here"]
abbrev P_law : List Str := ["_law_script"]
theorem sc_law : FnScope N_law P_law (defScope s_law) := ⟨rfl, rfl, rfl, by decide +kernel, rfl, by decide +kernel, by decide +kernel⟩
def u8 : Wb := ⟨2, [(0, 1)], [[0], [0], [0], [0], [0], [0], [0], [0]]⟩
def ug : Wb := ⟨11, [], []⟩
def uf : Wb := ⟨1, [], [[0], [0], [0], [0], [0]]⟩
theorem u8_ok : u8.Ok := ⟨by decide, by decide, by decide, by decide, by decide, by decide⟩
theorem ug_ok : ug.Ok := ⟨by decide, by decide, by decide, by decide, by decide, by decide⟩
theorem uf_ok : uf.Ok := ⟨by decide, by decide, by decide, by decide, by decide, by decide⟩
theorem tv2 : toldV (dueCall 2 u8.d (.int 0) (.int 1)) = .int 7 := by
  rw [due2, dueWeb_of u8_ok]
  exact told_i (i := 9) (by decide)
theorem tv3 : toldV (dueCall 3 u8.d (.int 1) (.int 1)) = .int 8 := by
  rw [due3, dueWeb_of u8_ok]
  exact told_i (i := 8) (by decide)
theorem tv4 : toldV (dueCall 4 u8.d (dInts [1]) .none) = .int 9 := by
  rw [due4, dueWeb_of u8_ok]
  exact told_i (i := 10) (by decide)
theorem tv4' : toldV (dueCall 4 u8.d (dInts []) .none) = .int 3 := by
  rw [due4, dueWeb_of u8_ok]
  exact told_i (i := 4) (by decide)
theorem tv6 {d : PyData} (h : ordB d 2 = false) : toldV (dueCall 6 u8.d d .none) = .int 5 := by
  rw [due6, dueWeb_of u8_ok, show ordB d u8.n = false from h]
  exact told_i (i := 6) (by decide)
theorem tv7 {u : Wb} (hu : u.Ok) {d : PyData} (h : tuplesB d u.n u.n = false) : toldV (dueCall 7 u.d u.d d) = .int 6 := by
  rw [due7, dueWeb_of hu, dueWeb_of hu, h]
  exact told_i (i := 7) (by decide)
theorem tv7g : toldV (dueCall 7 ug.d ug.d (dPairs [])) = .int 9 := by
  rw [due7, dueWeb_of ug_ok, dueWeb_of ug_ok]
  exact told_i (i := 10) (by decide)
theorem tv7f : toldV (dueCall 7 uf.d uf.d (dPairs [])) = .int 9 := by
  rw [due7, dueWeb_of uf_ok, dueWeb_of uf_ok]
  exact told_i (i := 10) (by decide)
def BadL0 (K : PySem.W.Frag) (H : Hp) (p : PyData → Prop) : List V → Prop
  | [] => True
  | v :: vs => (∃ d, Da K H d v ∧ Sh 41 40000 40 d ∧ p d) ∧ BadL0 K H p vs
theorem BadL0.at {K : PySem.W.Frag} {H : Hp} {p : PyData → Prop} : ∀ {vs : List V} {i : Nat} {x : V}, BadL0 K H p vs → vs[i]? = some x → ∃ d, Da K H d x ∧ Sh 41 40000 40 d ∧ p d
  | [], _, _, _, h => by cases h
  | v :: vs, 0, x, g, h => by
    obtain rfl := Option.some.inj h
    exact g.1
  | v :: vs, i + 1, x, g, h => BadL0.at (vs := vs) (i := i) g.2 h
theorem dpi {K : PySem.W.Frag} {H : Hp} (i : Int) : Dp K H (.int i) (.int i) := .int i
theorem shi (i : Int) : SeqAt.shaped (.int i) = true := rfl
def sp_law (K : PySem.W.Frag) : Sp := fun vs H Q _ => ∃ (a : Addr) (ns : List Int), vs = [.ref a] ∧ ns.length ≤ 63 ∧ SqL K H a (ns.map V.int) ∧ ∀ H', Ex H H' → Q (.bl true) H'
theorem sp_law_start {K : PySem.W.Frag} {H : Hp} {a : Addr} {ns : List Int} (hl : ns.length ≤ 63) (hS : SqL K H a (ns.map V.int)) : sp_law K [.ref a] H (fun v _ => v = .bl true) (fun _ _ _ => False) :=
  ⟨a, ns, rfl, hl, hS, fun _ _ => rfl⟩
section
variable {P : Program} {w : World} {K : PySem.W.Frag} {mg : Str → Option Value} {base : Heap}
theorem ok_law {f : Addr} {fd : FuncData} (T : Txt K mg) (F : Fun K "law" "law" s_law f fd)
    (D_purse : DefOk P w K mg base CX0 1 "_law_purse" P_purse (sp_purse K))
    (D_told : DefOk P w K mg base CX0 10 "_law_told" P_told (sp_told K))
    (D_right : DefOk P w K mg base CX0 11 "_law_right" P_right (sp_right K)) :
    FnG P w K mg base CX0 12 f fd P_law (sp_law K) := by
  refine okG0 F sc_law (fun vs H Q E h => ?_) (fun cdv A outer s H vs Q E hr hq h => ?_)
  · obtain ⟨a, ns, rfl, _⟩ := h
    rfl
  · obtain ⟨a, ns, rfl, hn, hS, q⟩ := h
    refine ⟨_, (pss_cons (ps_for PassesOwn.never rfl (pi_range1 (by rfl) T.b_range (pa_cons (pe_callB (call_max2 rfl) (by rfl) T.b_max bt_max (pa_cons pe_int (pa_cons (pe_callB (call_min2 rfl) (by rfl) T.b_min bt_min (pa_cons pe_int (pa_cons (pe_callB (call_lenK K) (by rfl) T.b_len bt_len (pa_cons (pv 0) pa_nil)) pa_nil))) pa_nil))) pa_nil)) (pg_name (i := 1) sc_law.nd rfl (by first | exact .inl rfl | exact .inr rfl)) (pss_cons (ps_set (i := 2) sc_law.nd rfl (by first | exact .inl rfl | exact .inr rfl) (pe_callD D_purse (hr.mono (by decide)) hq pass0 (pa_cons (pv 0) (pa_cons (pv 1) pa_nil))))
      (pss_one (ps_for PassesOwn.never rfl (pi_range1 (by rfl) T.b_range (pa_cons pe_int pa_nil)) (pg_name (i := 3) sc_law.nd rfl (by first | exact .inl rfl | exact .inr rfl)) (pss_one (ps_if (pt_not (pt_val (pe_callD D_right (hr.mono (by decide)) hq pass0 (pa_cons (pv 2) (pa_cons (pv 3) pa_nil))))) (pss_one (ps_ret pe_bl)) pss_nil))))))
      (pss_cons (ps_set (i := 4) sc_law.nd rfl (by first | exact .inl rfl | exact .inr rfl) (pe_tup (pa_cons pe_int (pa_cons (pe_lst (pa_cons (pe_tup (pa_cons pe_int (pa_cons pe_int pa_nil))) pa_nil)) (pa_cons (pe_op op_rep (pe_lst (pa_cons (pe_lst (pa_cons pe_int pa_nil)) pa_nil)) pe_int) pa_nil)))))
      (pss_cons (ps_set (i := 5) sc_law.nd rfl (by first | exact .inl rfl | exact .inr rfl) (pe_lst (pa_cons (pe_callD D_told (hr.mono (by decide)) hq pass0 (pa_cons pe_int (pa_cons (pe_lst (pa_cons (pv 4) (pa_cons pe_int (pa_cons pe_int pa_nil)))) pa_nil))) (pa_cons (pe_callD D_told (hr.mono (by decide)) hq pass0 (pa_cons pe_int (pa_cons (pe_lst (pa_cons (pv 4) (pa_cons pe_int (pa_cons pe_int pa_nil)))) pa_nil))) (pa_cons (pe_callD D_told (hr.mono (by decide)) hq pass0 (pa_cons pe_int (pa_cons (pe_lst (pa_cons (pv 4) (pa_cons (pe_lst (pa_cons pe_int pa_nil)) (pa_cons pe_non pa_nil)))) pa_nil))) pa_nil)))))
      (pss_cons (ps_par (i := 6) (j := 7) (by rfl) sc_law.nd rfl rfl (by decide) rfl rfl (pa_cons (pe_tup (pa_cons pe_int (pa_cons (pe_lst pa_nil) (pa_cons (pe_lst pa_nil) pa_nil)))) (pa_cons (pe_tup (pa_cons pe_int (pa_cons (pe_lst pa_nil) (pa_cons (pe_op op_rep (pe_lst (pa_cons (pe_lst (pa_cons pe_int pa_nil)) pa_nil)) pe_int) pa_nil)))) pa_nil)) (by rfl))
      (pss_cons (ps_for PassesOwn.never rfl (pi_listK K (pe_lst (pa_cons (pv 6) (pa_cons (pv 7) pa_nil)))) (pg_name (i := 8) sc_law.nd rfl (by first | exact .inl rfl | exact .inr rfl)) (pss_cons (ps_for PassesOwn.never rfl (pi_listK K (pe_lst (pa_cons pe_non (pa_cons (pe_lst (pa_cons (pe_tup (pa_cons pe_int (pa_cons pe_int pa_nil))) pa_nil)) (pa_cons (pe_lst (pa_cons (pe_tup (pa_cons pe_int (pa_cons pe_int pa_nil))) (pa_cons (pe_tup (pa_cons pe_int (pa_cons pe_int pa_nil))) pa_nil))) (pa_cons (pe_lst (pa_cons (pe_tup (pa_cons (pe_lst (pa_cons pe_int pa_nil)) (pa_cons pe_int pa_nil))) pa_nil)) (pa_cons (pe_lst (pa_cons (pe_tup (pa_cons pe_int (pa_cons (pe_lst (pa_cons pe_int pa_nil)) pa_nil))) pa_nil)) (pa_cons (pe_lst (pa_cons (pe_tup (pa_cons pe_dnewK (pa_cons pe_int pa_nil))) pa_nil)) pa_nil)))))))) (pg_name (i := 9) sc_law.nd rfl (by first | exact .inl rfl | exact .inr rfl)) (pss_one (ps_if (pt_cmpR (op_neDk K hr.units) (pe_callD D_told (hr.mono (by decide)) hq pass0 (pa_cons pe_int (pa_cons (pe_lst (pa_cons (pv 8) (pa_cons (pv 8) (pa_cons (pv 9) pa_nil)))) pa_nil))) pe_int (nomark _)) (pss_one (ps_ret pe_bl)) pss_nil)))
      (pss_one (ps_if (pt_cmpR (op_neDk K hr.units) (pe_callD D_told (hr.mono (by decide)) hq pass0 (pa_cons pe_int (pa_cons (pe_lst (pa_cons (pv 8) (pa_cons (pv 8) (pa_cons (pe_lst pa_nil) pa_nil)))) pa_nil))) pe_int (nomark _)) (pss_one (ps_ret pe_bl)) pss_nil))))
      (pss_cons (ps_for PassesOwn.never rfl (pi_listK K (pe_lst (pa_cons (pe_lst (pa_cons (pe_lst (pa_cons pe_int pa_nil)) (pa_cons pe_int pa_nil))) (pa_cons (pe_lst (pa_cons pe_int (pa_cons pe_dnewK pa_nil))) (pa_cons (pe_lst (pa_cons (pe_tup (pa_cons pe_int pa_nil)) (pa_cons pe_int pa_nil))) pa_nil))))) (pg_name (i := 9) sc_law.nd rfl (by first | exact .inl rfl | exact .inr rfl)) (pss_one (ps_if (pt_cmpR (op_neDk K hr.units) (pe_callD D_told (hr.mono (by decide)) hq pass0 (pa_cons pe_int (pa_cons (pe_lst (pa_cons (pv 4) (pa_cons (pv 9) (pa_cons pe_non pa_nil)))) pa_nil))) (pe_callD D_told (hr.mono (by decide)) hq pass0 (pa_cons pe_int (pa_cons (pe_lst (pa_cons (pv 4) (pa_cons pe_non (pa_cons pe_non pa_nil)))) pa_nil))) (nomark _)) (pss_one (ps_ret pe_bl)) pss_nil)))
      (pss_one (ps_ret (pe_and (pe_cmpR (op_eqDk K hr.units) (pv 5) (pe_lst (pa_cons pe_int (pa_cons pe_int (pa_cons pe_int pa_nil)))) (nomark _)) (pe_one (pe_cmpR (op_eqDk K hr.units) (pe_callD D_told (hr.mono (by decide)) hq pass0 (pa_cons pe_int (pa_cons (pe_lst (pa_cons (pv 4) (pa_cons (pe_lst pa_nil) (pa_cons pe_non pa_nil)))) pa_nil))) pe_int (nomark _)))))))))))), ?_⟩
    refine ⟨_, rfl, a, _, rfl, .inl hS, ?_⟩
    have hmm : ∃ m : Int, m = (if (if ((ns.map V.int).length : Int) < 4 then ((ns.map V.int).length : Int) else 4) > 1 then (if ((ns.map V.int).length : Int) < 4 then ((ns.map V.int).length : Int) else 4) else 1) ∧ 0 ≤ m ∧ m ≤ 4 := by
      refine ⟨_, rfl, ?_, ?_⟩
      · split <;> split <;> omega
      · split <;> split <;> omega
    obtain ⟨m, em, m0, m6⟩ := hmm
    refine ⟨_, _, rfl, _, _, rfl, m, by rw [em], by omega, by omega, ?_⟩
    refine for_by m.toNat (fun i σ H' => ∃ y1 y2 y3 y4 y5 y6 y7 y8 y9, σ = [some (V.ref a), y1, y2, y3, y4, y5, y6, y7, y8, y9] ∧ Ex H H')
      ⟨_, _, _, _, _, _, _, _, _, rfl, Ex.rfl⟩ (fun i σ H' hi p => hi) (fun σ H' p => Nat.le_refl _) ?_ ?_
    · rintro i σ H1 x H2 hi ⟨y1, y2, y3, y4, y5, y6, y7, y8, y9, rfl, e1⟩ ⟨rfl, rfl⟩
      refine ⟨_, rfl, _, rfl, a, ns, (0 + (i : Int)), rfl, e1.l hS, by omega, fun p H3 hp e3 p3 => ?_⟩
      refine ⟨_, rfl, by decide, by decide, ?_⟩
      refine for_by 10 (fun j σ H' => ∃ y3 y4 y5 y6 y7 y8 y9, σ = [some (V.ref a), some (V.int (0 + (i : Int))), some (V.ref p), y3, y4, y5, y6, y7, y8, y9] ∧ ExD p H3 H' ∧ Purse H' p (800 * j))
        ⟨_, _, _, _, _, _, _, rfl, ExD.rfl, p3⟩ (fun j σ H' hj p => hj) (fun σ H' p => Nat.le_refl _) ?_ ?_
      · rintro j σ H5 x H6 hj ⟨y3, y4, y5, y6, y7, y8, y9, rfl, e5, p5⟩ ⟨rfl, rfl⟩
        rw [show (0 + (j : Int)) = (j : Int) by omega]
        refine ⟨_, rfl, _, rfl, p, j, 800 * j, rfl, by omega, p5, by omega, fun H7 e7 p7 => ?_⟩
        refine ⟨true, rfl, ite2 (fun h1 => (by cases h1)) (fun _ => ?_)⟩
        exact ⟨_, _, _, _, _, _, _, rfl, e5.tr e7, p7.mono (by omega)⟩
      · rintro σ H5 ⟨y3, y4, y5, y6, y7, y8, y9, rfl, e5, p5⟩
        exact ⟨_, _, _, _, _, _, _, _, _, rfl, e1.tr fun b z h => e5 b z (fun e => by rw [e, hp] at h; cases h) (e3 b z h)⟩
    · rintro σ H1 ⟨y1, y2, y3, y4, y5, y6, y7, y8, y9, rfl, e1⟩
      refine ⟨by show 2 ≤ sizeLine; decide, fun o1 n1 => ?_⟩
      have E1 : Ex H1 (upd H1 o1 (.tup [(.int 0), (.int 1)])) := Ex.nw n1
      have F1 : (upd H1 o1 (.tup [(.int 0), (.int 1)])) o1 = some (.tup [(.int 0), (.int 1)]) := upd_same
      generalize upd H1 o1 (.tup [(.int 0), (.int 1)]) = G1 at E1 F1
      refine ⟨by show 1 ≤ sizeLine; decide, fun o2 n2 => ?_⟩
      have E2 : Ex G1 (upd G1 o2 (.lst [(.ref o1)])) := Ex.nw n2
      have F2 : (upd G1 o2 (.lst [(.ref o1)])) o2 = some (.lst [(.ref o1)]) := upd_same
      generalize upd G1 o2 (.lst [(.ref o1)]) = G2 at E2 F2
      refine ⟨by show 1 ≤ sizeLine; decide, fun o3 n3 => ?_⟩
      have E3 : Ex G2 (upd G2 o3 (.lst [(.int 0)])) := Ex.nw n3
      have F3 : (upd G2 o3 (.lst [(.int 0)])) o3 = some (.lst [(.int 0)]) := upd_same
      generalize upd G2 o3 (.lst [(.int 0)]) = G3 at E3 F3
      refine ⟨by show 1 ≤ sizeLine; decide, fun o4 n4 => ?_⟩
      have E4 : Ex G3 (upd G3 o4 (.lst [(.ref o3)])) := Ex.nw n4
      have F4 : (upd G3 o4 (.lst [(.ref o3)])) o4 = some (.lst [(.ref o3)]) := upd_same
      generalize upd G3 o4 (.lst [(.ref o3)]) = G4 at E4 F4
      refine ⟨o4, 8, _, rfl, rfl, Ex.rfl _ _ F4, by decide, by decide, mil (by show 1 * 8 ≤ 1000000; decide), fun o5 n5 => ?_⟩
      rw [show ((List.replicate (8 : Int).toNat ([(.ref o3)] : List V)).flatten) = [(.ref o3), (.ref o3), (.ref o3), (.ref o3), (.ref o3), (.ref o3), (.ref o3), (.ref o3)] from rfl]
      have E5 : Ex G4 (upd G4 o5 (.lst [(.ref o3), (.ref o3), (.ref o3), (.ref o3), (.ref o3), (.ref o3), (.ref o3), (.ref o3)])) := Ex.nw n5
      have F5 : (upd G4 o5 (.lst [(.ref o3), (.ref o3), (.ref o3), (.ref o3), (.ref o3), (.ref o3), (.ref o3), (.ref o3)])) o5 = some (.lst [(.ref o3), (.ref o3), (.ref o3), (.ref o3), (.ref o3), (.ref o3), (.ref o3), (.ref o3)]) := upd_same
      generalize upd G4 o5 (.lst [(.ref o3), (.ref o3), (.ref o3), (.ref o3), (.ref o3), (.ref o3), (.ref o3), (.ref o3)]) = G5 at E5 F5
      refine ⟨by show 3 ≤ sizeLine; decide, fun o6 n6 => ?_⟩
      have E6 : Ex G5 (upd G5 o6 (.tup [(.int 2), (.ref o2), (.ref o5)])) := Ex.nw n6
      have F6 : (upd G5 o6 (.tup [(.int 2), (.ref o2), (.ref o5)])) o6 = some (.tup [(.int 2), (.ref o2), (.ref o5)]) := upd_same
      generalize upd G5 o6 (.tup [(.int 2), (.ref o2), (.ref o5)]) = G6 at E6 F6
      -- told of the first web
      refine ⟨_, rfl, by show 3 ≤ sizeLine; decide, fun o7 n7 => ?_⟩
      have E7 : Ex G6 (upd G6 o7 (.lst [(.ref o6), (.int 0), (.int 1)])) := Ex.nw n7
      have F7 : (upd G6 o7 (.lst [(.ref o6), (.int 0), (.int 1)])) o7 = some (.lst [(.ref o6), (.int 0), (.int 1)]) := upd_same
      generalize upd G6 o7 (.lst [(.ref o6), (.int 0), (.int 1)]) = G7 at E7 F7
      refine ⟨2, o7, _, _, _, u8.d, (.int 0), (.int 1), rfl, by decide, F7, ⟨o6, _, rfl, E7 _ _ F6, ⟨_, _, rfl, rfl, ⟨_, _, rfl, ⟨o2, _, rfl, (E3.tr (E4.tr (E5.tr (E6.tr E7)))) _ _ F2, ⟨_, _, rfl, ⟨o1, _, rfl, (E2.tr (E3.tr (E4.tr (E5.tr (E6.tr E7))))) _ _ F1, ⟨_, _, rfl, rfl, ⟨_, _, rfl, rfl, rfl⟩⟩⟩, rfl⟩, by show 1 ≤ 100000; decide⟩, ⟨_, _, rfl, ⟨o5, _, rfl, (E6.tr E7) _ _ F5, ⟨_, _, rfl, ⟨o3, _, rfl, (E4.tr (E5.tr (E6.tr E7))) _ _ F3, ⟨_, _, rfl, rfl, rfl⟩, by show 1 ≤ 100000; decide⟩, ⟨_, _, rfl, ⟨o3, _, rfl, (E4.tr (E5.tr (E6.tr E7))) _ _ F3, ⟨_, _, rfl, rfl, rfl⟩, by show 1 ≤ 100000; decide⟩, ⟨_, _, rfl, ⟨o3, _, rfl, (E4.tr (E5.tr (E6.tr E7))) _ _ F3, ⟨_, _, rfl, rfl, rfl⟩, by show 1 ≤ 100000; decide⟩, ⟨_, _, rfl, ⟨o3, _, rfl, (E4.tr (E5.tr (E6.tr E7))) _ _ F3, ⟨_, _, rfl, rfl, rfl⟩, by show 1 ≤ 100000; decide⟩, ⟨_, _, rfl, ⟨o3, _, rfl, (E4.tr (E5.tr (E6.tr E7))) _ _ F3, ⟨_, _, rfl, rfl, rfl⟩, by show 1 ≤ 100000; decide⟩, ⟨_, _, rfl, ⟨o3, _, rfl, (E4.tr (E5.tr (E6.tr E7))) _ _ F3, ⟨_, _, rfl, rfl, rfl⟩, by show 1 ≤ 100000; decide⟩, ⟨_, _, rfl, ⟨o3, _, rfl, (E4.tr (E5.tr (E6.tr E7))) _ _ F3, ⟨_, _, rfl, rfl, rfl⟩, by show 1 ≤ 100000; decide⟩, ⟨_, _, rfl, ⟨o3, _, rfl, (E4.tr (E5.tr (E6.tr E7))) _ _ F3, ⟨_, _, rfl, rfl, rfl⟩, by show 1 ≤ 100000; decide⟩, rfl⟩⟩⟩⟩⟩⟩⟩⟩, by show 8 ≤ 100000; decide⟩, rfl⟩⟩⟩⟩, rfl, rfl, (u8_ok.sh.wide (by omega) (by omega)), (shB_sh (by decide +kernel)), (shB_sh (by decide +kernel)), fun T8 t8 => ?_⟩
      rw [show toldV (dueCall 2 u8.d (.int 0) (.int 1)) = .int 7 from tv2]
      refine ⟨_, rfl, by show 3 ≤ sizeLine; decide, fun o8 n8 => ?_⟩
      have E8 : Ex T8 (upd T8 o8 (.lst [(.ref o6), (.int 1), (.int 1)])) := Ex.nw n8
      have F8 : (upd T8 o8 (.lst [(.ref o6), (.int 1), (.int 1)])) o8 = some (.lst [(.ref o6), (.int 1), (.int 1)]) := upd_same
      generalize upd T8 o8 (.lst [(.ref o6), (.int 1), (.int 1)]) = G8 at E8 F8
      refine ⟨3, o8, _, _, _, u8.d, (.int 1), (.int 1), rfl, by decide, F8, ⟨o6, _, rfl, (E7.tr (t8.tr E8)) _ _ F6, ⟨_, _, rfl, rfl, ⟨_, _, rfl, ⟨o2, _, rfl, (E3.tr (E4.tr (E5.tr (E6.tr (E7.tr (t8.tr E8)))))) _ _ F2, ⟨_, _, rfl, ⟨o1, _, rfl, (E2.tr (E3.tr (E4.tr (E5.tr (E6.tr (E7.tr (t8.tr E8))))))) _ _ F1, ⟨_, _, rfl, rfl, ⟨_, _, rfl, rfl, rfl⟩⟩⟩, rfl⟩, by show 1 ≤ 100000; decide⟩, ⟨_, _, rfl, ⟨o5, _, rfl, (E6.tr (E7.tr (t8.tr E8))) _ _ F5, ⟨_, _, rfl, ⟨o3, _, rfl, (E4.tr (E5.tr (E6.tr (E7.tr (t8.tr E8))))) _ _ F3, ⟨_, _, rfl, rfl, rfl⟩, by show 1 ≤ 100000; decide⟩, ⟨_, _, rfl, ⟨o3, _, rfl, (E4.tr (E5.tr (E6.tr (E7.tr (t8.tr E8))))) _ _ F3, ⟨_, _, rfl, rfl, rfl⟩, by show 1 ≤ 100000; decide⟩, ⟨_, _, rfl, ⟨o3, _, rfl, (E4.tr (E5.tr (E6.tr (E7.tr (t8.tr E8))))) _ _ F3, ⟨_, _, rfl, rfl, rfl⟩, by show 1 ≤ 100000; decide⟩, ⟨_, _, rfl, ⟨o3, _, rfl, (E4.tr (E5.tr (E6.tr (E7.tr (t8.tr E8))))) _ _ F3, ⟨_, _, rfl, rfl, rfl⟩, by show 1 ≤ 100000; decide⟩, ⟨_, _, rfl, ⟨o3, _, rfl, (E4.tr (E5.tr (E6.tr (E7.tr (t8.tr E8))))) _ _ F3, ⟨_, _, rfl, rfl, rfl⟩, by show 1 ≤ 100000; decide⟩, ⟨_, _, rfl, ⟨o3, _, rfl, (E4.tr (E5.tr (E6.tr (E7.tr (t8.tr E8))))) _ _ F3, ⟨_, _, rfl, rfl, rfl⟩, by show 1 ≤ 100000; decide⟩, ⟨_, _, rfl, ⟨o3, _, rfl, (E4.tr (E5.tr (E6.tr (E7.tr (t8.tr E8))))) _ _ F3, ⟨_, _, rfl, rfl, rfl⟩, by show 1 ≤ 100000; decide⟩, ⟨_, _, rfl, ⟨o3, _, rfl, (E4.tr (E5.tr (E6.tr (E7.tr (t8.tr E8))))) _ _ F3, ⟨_, _, rfl, rfl, rfl⟩, by show 1 ≤ 100000; decide⟩, rfl⟩⟩⟩⟩⟩⟩⟩⟩, by show 8 ≤ 100000; decide⟩, rfl⟩⟩⟩⟩, rfl, rfl, (u8_ok.sh.wide (by omega) (by omega)), (shB_sh (by decide +kernel)), (shB_sh (by decide +kernel)), fun T10 t10 => ?_⟩
      rw [show toldV (dueCall 3 u8.d (.int 1) (.int 1)) = .int 8 from tv3]
      refine ⟨_, rfl, by show 1 ≤ sizeLine; decide, fun o9 n9 => ?_⟩
      have E9 : Ex T10 (upd T10 o9 (.lst [(.int 1)])) := Ex.nw n9
      have F9 : (upd T10 o9 (.lst [(.int 1)])) o9 = some (.lst [(.int 1)]) := upd_same
      generalize upd T10 o9 (.lst [(.int 1)]) = G9 at E9 F9
      refine ⟨by show 3 ≤ sizeLine; decide, fun o10 n10 => ?_⟩
      have E10 : Ex G9 (upd G9 o10 (.lst [(.ref o6), (.ref o9), .non])) := Ex.nw n10
      have F10 : (upd G9 o10 (.lst [(.ref o6), (.ref o9), .non])) o10 = some (.lst [(.ref o6), (.ref o9), .non]) := upd_same
      generalize upd G9 o10 (.lst [(.ref o6), (.ref o9), .non]) = G10 at E10 F10
      refine ⟨4, o10, _, _, _, u8.d, (.list [(.int 1)]), .none, rfl, by decide, F10, ⟨o6, _, rfl, (E7.tr (t8.tr (E8.tr (t10.tr (E9.tr E10))))) _ _ F6, ⟨_, _, rfl, rfl, ⟨_, _, rfl, ⟨o2, _, rfl, (E3.tr (E4.tr (E5.tr (E6.tr (E7.tr (t8.tr (E8.tr (t10.tr (E9.tr E10))))))))) _ _ F2, ⟨_, _, rfl, ⟨o1, _, rfl, (E2.tr (E3.tr (E4.tr (E5.tr (E6.tr (E7.tr (t8.tr (E8.tr (t10.tr (E9.tr E10)))))))))) _ _ F1, ⟨_, _, rfl, rfl, ⟨_, _, rfl, rfl, rfl⟩⟩⟩, rfl⟩, by show 1 ≤ 100000; decide⟩, ⟨_, _, rfl, ⟨o5, _, rfl, (E6.tr (E7.tr (t8.tr (E8.tr (t10.tr (E9.tr E10)))))) _ _ F5, ⟨_, _, rfl, ⟨o3, _, rfl, (E4.tr (E5.tr (E6.tr (E7.tr (t8.tr (E8.tr (t10.tr (E9.tr E10)))))))) _ _ F3, ⟨_, _, rfl, rfl, rfl⟩, by show 1 ≤ 100000; decide⟩, ⟨_, _, rfl, ⟨o3, _, rfl, (E4.tr (E5.tr (E6.tr (E7.tr (t8.tr (E8.tr (t10.tr (E9.tr E10)))))))) _ _ F3, ⟨_, _, rfl, rfl, rfl⟩, by show 1 ≤ 100000; decide⟩, ⟨_, _, rfl, ⟨o3, _, rfl, (E4.tr (E5.tr (E6.tr (E7.tr (t8.tr (E8.tr (t10.tr (E9.tr E10)))))))) _ _ F3, ⟨_, _, rfl, rfl, rfl⟩, by show 1 ≤ 100000; decide⟩, ⟨_, _, rfl, ⟨o3, _, rfl, (E4.tr (E5.tr (E6.tr (E7.tr (t8.tr (E8.tr (t10.tr (E9.tr E10)))))))) _ _ F3, ⟨_, _, rfl, rfl, rfl⟩, by show 1 ≤ 100000; decide⟩, ⟨_, _, rfl, ⟨o3, _, rfl, (E4.tr (E5.tr (E6.tr (E7.tr (t8.tr (E8.tr (t10.tr (E9.tr E10)))))))) _ _ F3, ⟨_, _, rfl, rfl, rfl⟩, by show 1 ≤ 100000; decide⟩, ⟨_, _, rfl, ⟨o3, _, rfl, (E4.tr (E5.tr (E6.tr (E7.tr (t8.tr (E8.tr (t10.tr (E9.tr E10)))))))) _ _ F3, ⟨_, _, rfl, rfl, rfl⟩, by show 1 ≤ 100000; decide⟩, ⟨_, _, rfl, ⟨o3, _, rfl, (E4.tr (E5.tr (E6.tr (E7.tr (t8.tr (E8.tr (t10.tr (E9.tr E10)))))))) _ _ F3, ⟨_, _, rfl, rfl, rfl⟩, by show 1 ≤ 100000; decide⟩, ⟨_, _, rfl, ⟨o3, _, rfl, (E4.tr (E5.tr (E6.tr (E7.tr (t8.tr (E8.tr (t10.tr (E9.tr E10)))))))) _ _ F3, ⟨_, _, rfl, rfl, rfl⟩, by show 1 ≤ 100000; decide⟩, rfl⟩⟩⟩⟩⟩⟩⟩⟩, by show 8 ≤ 100000; decide⟩, rfl⟩⟩⟩⟩, ⟨o9, _, rfl, E10 _ _ F9, ⟨_, _, rfl, rfl, rfl⟩, by show 1 ≤ 100000; decide⟩, rfl, (u8_ok.sh.wide (by omega) (by omega)), (shB_sh (by decide +kernel)), (shB_sh (by decide +kernel)), fun T13 t13 => ?_⟩
      rw [show toldV (dueCall 4 u8.d (.list [(.int 1)]) .none) = .int 9 from tv4]
      refine ⟨by show 3 ≤ sizeLine; decide, fun o11 n11 => ?_⟩
      have E11 : Ex T13 (upd T13 o11 (.lst [.int 7, .int 8, .int 9])) := Ex.nw n11
      have F11 : (upd T13 o11 (.lst [.int 7, .int 8, .int 9])) o11 = some (.lst [.int 7, .int 8, .int 9]) := upd_same
      generalize upd T13 o11 (.lst [.int 7, .int 8, .int 9]) = G11 at E11 F11
      refine ⟨Nat.zero_le _, fun o12 n12 => ?_⟩
      have E12 : Ex G11 (upd G11 o12 (.lst [])) := Ex.nw n12
      have F12 : (upd G11 o12 (.lst [])) o12 = some (.lst []) := upd_same
      generalize upd G11 o12 (.lst []) = G12 at E12 F12
      refine ⟨Nat.zero_le _, fun o13 n13 => ?_⟩
      have E13 : Ex G12 (upd G12 o13 (.lst [])) := Ex.nw n13
      have F13 : (upd G12 o13 (.lst [])) o13 = some (.lst []) := upd_same
      generalize upd G12 o13 (.lst []) = G13 at E13 F13
      refine ⟨by show 3 ≤ sizeLine; decide, fun o14 n14 => ?_⟩
      have E14 : Ex G13 (upd G13 o14 (.tup [(.int 11), (.ref o12), (.ref o13)])) := Ex.nw n14
      have F14 : (upd G13 o14 (.tup [(.int 11), (.ref o12), (.ref o13)])) o14 = some (.tup [(.int 11), (.ref o12), (.ref o13)]) := upd_same
      generalize upd G13 o14 (.tup [(.int 11), (.ref o12), (.ref o13)]) = G14 at E14 F14
      refine ⟨Nat.zero_le _, fun o15 n15 => ?_⟩
      have E15 : Ex G14 (upd G14 o15 (.lst [])) := Ex.nw n15
      have F15 : (upd G14 o15 (.lst [])) o15 = some (.lst []) := upd_same
      generalize upd G14 o15 (.lst []) = G15 at E15 F15
      refine ⟨by show 1 ≤ sizeLine; decide, fun o16 n16 => ?_⟩
      have E16 : Ex G15 (upd G15 o16 (.lst [(.int 0)])) := Ex.nw n16
      have F16 : (upd G15 o16 (.lst [(.int 0)])) o16 = some (.lst [(.int 0)]) := upd_same
      generalize upd G15 o16 (.lst [(.int 0)]) = G16 at E16 F16
      refine ⟨by show 1 ≤ sizeLine; decide, fun o17 n17 => ?_⟩
      have E17 : Ex G16 (upd G16 o17 (.lst [(.ref o16)])) := Ex.nw n17
      have F17 : (upd G16 o17 (.lst [(.ref o16)])) o17 = some (.lst [(.ref o16)]) := upd_same
      generalize upd G16 o17 (.lst [(.ref o16)]) = G17 at E17 F17
      refine ⟨o17, 5, _, rfl, rfl, Ex.rfl _ _ F17, by decide, by decide, mil (by show 1 * 5 ≤ 1000000; decide), fun o18 n18 => ?_⟩
      rw [show ((List.replicate (5 : Int).toNat ([(.ref o16)] : List V)).flatten) = [(.ref o16), (.ref o16), (.ref o16), (.ref o16), (.ref o16)] from rfl]
      have E18 : Ex G17 (upd G17 o18 (.lst [(.ref o16), (.ref o16), (.ref o16), (.ref o16), (.ref o16)])) := Ex.nw n18
      have F18 : (upd G17 o18 (.lst [(.ref o16), (.ref o16), (.ref o16), (.ref o16), (.ref o16)])) o18 = some (.lst [(.ref o16), (.ref o16), (.ref o16), (.ref o16), (.ref o16)]) := upd_same
      generalize upd G17 o18 (.lst [(.ref o16), (.ref o16), (.ref o16), (.ref o16), (.ref o16)]) = G18 at E18 F18
      refine ⟨by show 3 ≤ sizeLine; decide, fun o19 n19 => ?_⟩
      have E19 : Ex G18 (upd G18 o19 (.tup [(.int 1), (.ref o15), (.ref o18)])) := Ex.nw n19
      have F19 : (upd G18 o19 (.tup [(.int 1), (.ref o15), (.ref o18)])) o19 = some (.tup [(.int 1), (.ref o15), (.ref o18)]) := upd_same
      generalize upd G18 o19 (.tup [(.int 1), (.ref o15), (.ref o18)]) = G19 at E19 F19
      refine ⟨_, _, rfl, ?_⟩
      refine ⟨_, rfl, _, rfl, by show 2 ≤ sizeLine; decide, fun o20 n20 => ?_⟩
      have E20 : Ex G19 (upd G19 o20 (.lst [(.ref o14), (.ref o19)])) := Ex.nw n20
      have F20 : (upd G19 o20 (.lst [(.ref o14), (.ref o19)])) o20 = some (.lst [(.ref o14), (.ref o19)]) := upd_same
      generalize upd G19 o20 (.lst [(.ref o14), (.ref o19)]) = G20 at E20 F20
      have e2 := e1.tr (E1.tr (E2.tr (E3.tr (E4.tr (E5.tr (E6.tr (E7.tr (t8.tr (E8.tr (t10.tr (E9.tr (E10.tr (t13.tr (E11.tr (E12.tr (E13.tr (E14.tr (E15.tr (E16.tr (E17.tr (E18.tr (E19.tr E20))))))))))))))))))))))
      have dG : Da K G20 ug.d (.ref o14) := ⟨o14, _, rfl, (E15.tr (E16.tr (E17.tr (E18.tr (E19.tr E20))))) _ _ F14, ⟨_, _, rfl, rfl, ⟨_, _, rfl, ⟨o12, _, rfl, (E13.tr (E14.tr (E15.tr (E16.tr (E17.tr (E18.tr (E19.tr E20))))))) _ _ F12, rfl, by show 0 ≤ 100000; decide⟩, ⟨_, _, rfl, ⟨o13, _, rfl, (E14.tr (E15.tr (E16.tr (E17.tr (E18.tr (E19.tr E20)))))) _ _ F13, rfl, by show 0 ≤ 100000; decide⟩, rfl⟩⟩⟩⟩
      have dF : Da K G20 uf.d (.ref o19) := ⟨o19, _, rfl, E20 _ _ F19, ⟨_, _, rfl, rfl, ⟨_, _, rfl, ⟨o15, _, rfl, (E16.tr (E17.tr (E18.tr (E19.tr E20)))) _ _ F15, rfl, by show 0 ≤ 100000; decide⟩, ⟨_, _, rfl, ⟨o18, _, rfl, (E19.tr E20) _ _ F18, ⟨_, _, rfl, ⟨o16, _, rfl, (E17.tr (E18.tr (E19.tr E20))) _ _ F16, ⟨_, _, rfl, rfl, rfl⟩, by show 1 ≤ 100000; decide⟩, ⟨_, _, rfl, ⟨o16, _, rfl, (E17.tr (E18.tr (E19.tr E20))) _ _ F16, ⟨_, _, rfl, rfl, rfl⟩, by show 1 ≤ 100000; decide⟩, ⟨_, _, rfl, ⟨o16, _, rfl, (E17.tr (E18.tr (E19.tr E20))) _ _ F16, ⟨_, _, rfl, rfl, rfl⟩, by show 1 ≤ 100000; decide⟩, ⟨_, _, rfl, ⟨o16, _, rfl, (E17.tr (E18.tr (E19.tr E20))) _ _ F16, ⟨_, _, rfl, rfl, rfl⟩, by show 1 ≤ 100000; decide⟩, ⟨_, _, rfl, ⟨o16, _, rfl, (E17.tr (E18.tr (E19.tr E20))) _ _ F16, ⟨_, _, rfl, rfl, rfl⟩, by show 1 ≤ 100000; decide⟩, rfl⟩⟩⟩⟩⟩, by show 5 ≤ 100000; decide⟩, rfl⟩⟩⟩⟩
      have d8 : Da K G20 u8.d (.ref o6) := ⟨o6, _, rfl, (E7.tr (t8.tr (E8.tr (t10.tr (E9.tr (E10.tr (t13.tr (E11.tr (E12.tr (E13.tr (E14.tr (E15.tr (E16.tr (E17.tr (E18.tr (E19.tr E20)))))))))))))))) _ _ F6, ⟨_, _, rfl, rfl, ⟨_, _, rfl, ⟨o2, _, rfl, (E3.tr (E4.tr (E5.tr (E6.tr (E7.tr (t8.tr (E8.tr (t10.tr (E9.tr (E10.tr (t13.tr (E11.tr (E12.tr (E13.tr (E14.tr (E15.tr (E16.tr (E17.tr (E18.tr (E19.tr E20)))))))))))))))))))) _ _ F2, ⟨_, _, rfl, ⟨o1, _, rfl, (E2.tr (E3.tr (E4.tr (E5.tr (E6.tr (E7.tr (t8.tr (E8.tr (t10.tr (E9.tr (E10.tr (t13.tr (E11.tr (E12.tr (E13.tr (E14.tr (E15.tr (E16.tr (E17.tr (E18.tr (E19.tr E20))))))))))))))))))))) _ _ F1, ⟨_, _, rfl, rfl, ⟨_, _, rfl, rfl, rfl⟩⟩⟩, rfl⟩, by show 1 ≤ 100000; decide⟩, ⟨_, _, rfl, ⟨o5, _, rfl, (E6.tr (E7.tr (t8.tr (E8.tr (t10.tr (E9.tr (E10.tr (t13.tr (E11.tr (E12.tr (E13.tr (E14.tr (E15.tr (E16.tr (E17.tr (E18.tr (E19.tr E20))))))))))))))))) _ _ F5, ⟨_, _, rfl, ⟨o3, _, rfl, (E4.tr (E5.tr (E6.tr (E7.tr (t8.tr (E8.tr (t10.tr (E9.tr (E10.tr (t13.tr (E11.tr (E12.tr (E13.tr (E14.tr (E15.tr (E16.tr (E17.tr (E18.tr (E19.tr E20))))))))))))))))))) _ _ F3, ⟨_, _, rfl, rfl, rfl⟩, by show 1 ≤ 100000; decide⟩, ⟨_, _, rfl, ⟨o3, _, rfl, (E4.tr (E5.tr (E6.tr (E7.tr (t8.tr (E8.tr (t10.tr (E9.tr (E10.tr (t13.tr (E11.tr (E12.tr (E13.tr (E14.tr (E15.tr (E16.tr (E17.tr (E18.tr (E19.tr E20))))))))))))))))))) _ _ F3, ⟨_, _, rfl, rfl, rfl⟩, by show 1 ≤ 100000; decide⟩, ⟨_, _, rfl, ⟨o3, _, rfl, (E4.tr (E5.tr (E6.tr (E7.tr (t8.tr (E8.tr (t10.tr (E9.tr (E10.tr (t13.tr (E11.tr (E12.tr (E13.tr (E14.tr (E15.tr (E16.tr (E17.tr (E18.tr (E19.tr E20))))))))))))))))))) _ _ F3, ⟨_, _, rfl, rfl, rfl⟩, by show 1 ≤ 100000; decide⟩, ⟨_, _, rfl, ⟨o3, _, rfl, (E4.tr (E5.tr (E6.tr (E7.tr (t8.tr (E8.tr (t10.tr (E9.tr (E10.tr (t13.tr (E11.tr (E12.tr (E13.tr (E14.tr (E15.tr (E16.tr (E17.tr (E18.tr (E19.tr E20))))))))))))))))))) _ _ F3, ⟨_, _, rfl, rfl, rfl⟩, by show 1 ≤ 100000; decide⟩, ⟨_, _, rfl, ⟨o3, _, rfl, (E4.tr (E5.tr (E6.tr (E7.tr (t8.tr (E8.tr (t10.tr (E9.tr (E10.tr (t13.tr (E11.tr (E12.tr (E13.tr (E14.tr (E15.tr (E16.tr (E17.tr (E18.tr (E19.tr E20))))))))))))))))))) _ _ F3, ⟨_, _, rfl, rfl, rfl⟩, by show 1 ≤ 100000; decide⟩, ⟨_, _, rfl, ⟨o3, _, rfl, (E4.tr (E5.tr (E6.tr (E7.tr (t8.tr (E8.tr (t10.tr (E9.tr (E10.tr (t13.tr (E11.tr (E12.tr (E13.tr (E14.tr (E15.tr (E16.tr (E17.tr (E18.tr (E19.tr E20))))))))))))))))))) _ _ F3, ⟨_, _, rfl, rfl, rfl⟩, by show 1 ≤ 100000; decide⟩, ⟨_, _, rfl, ⟨o3, _, rfl, (E4.tr (E5.tr (E6.tr (E7.tr (t8.tr (E8.tr (t10.tr (E9.tr (E10.tr (t13.tr (E11.tr (E12.tr (E13.tr (E14.tr (E15.tr (E16.tr (E17.tr (E18.tr (E19.tr E20))))))))))))))))))) _ _ F3, ⟨_, _, rfl, rfl, rfl⟩, by show 1 ≤ 100000; decide⟩, ⟨_, _, rfl, ⟨o3, _, rfl, (E4.tr (E5.tr (E6.tr (E7.tr (t8.tr (E8.tr (t10.tr (E9.tr (E10.tr (t13.tr (E11.tr (E12.tr (E13.tr (E14.tr (E15.tr (E16.tr (E17.tr (E18.tr (E19.tr E20))))))))))))))))))) _ _ F3, ⟨_, _, rfl, rfl, rfl⟩, by show 1 ≤ 100000; decide⟩, rfl⟩⟩⟩⟩⟩⟩⟩⟩, by show 8 ≤ 100000; decide⟩, rfl⟩⟩⟩⟩
      have fT : G20 o11 = some (.lst [.int 7, .int 8, .int 9]) := (E12.tr (E13.tr (E14.tr (E15.tr (E16.tr (E17.tr (E18.tr (E19.tr E20)))))))) _ _ F11
      have sG : SqL K G20 o20 [(.ref o14), (.ref o19)] := .inl (.inl F20)
      refine ⟨o20, rfl, ⟨_, sG⟩, ?_⟩
      refine for_by 2 (fun j σ H' => ∃ y1 y2 y3 y8 y9, σ = [some (V.ref a), y1, y2, y3, some (.ref o6), some (.ref o11), some (.ref o14), some (.ref o19), y8, y9] ∧ Ex G20 H')
        ⟨_, _, _, _, _, rfl, Ex.rfl⟩ (fun j σ H' hj p => ?_) (fun σ H' p => ?_) ?_ ?_
      · obtain ⟨_, _, _, _, _, _, h4⟩ := p
        exact itl_go (h4.l sG) Ex.rfl hj
      · obtain ⟨_, _, _, _, _, _, h4⟩ := p
        exact itl_stop (h4.l sG) Ex.rfl
      · rintro j σ K1 x K2 hj ⟨y1, y2, y3, y8, y9, rfl, k1⟩ y
        obtain ⟨rfl, hx⟩ := itl_yld y (k1.l sG) Ex.rfl
        obtain ⟨uu, hu, dU, hu7, hn⟩ : ∃ uu : Wb, uu.Ok ∧ Da K G20 uu.d x ∧ toldV (dueCall 7 uu.d uu.d (dPairs [])) = .int 9 ∧ (uu.n = 1 ∨ uu.n = 11) := by
          match j, hj, hx with
          | 0, _, hx => obtain rfl := Option.some.inj hx; exact ⟨ug, ug_ok, dG, tv7g, .inr rfl⟩
          | 1, _, hx => obtain rfl := Option.some.inj hx; exact ⟨uf, uf_ok, dF, tv7f, .inl rfl⟩
        have shU := hu.sh.wide (m := 40000) (j := 40) (by omega) (by omega)
        refine ⟨by show 2 ≤ sizeLine; decide, fun o101 n101 => ?_⟩
        have E101 : Ex K2 (upd K2 o101 (.tup [(.int 0), (.int 20)])) := Ex.nw n101
        have F101 : (upd K2 o101 (.tup [(.int 0), (.int 20)])) o101 = some (.tup [(.int 0), (.int 20)]) := upd_same
        generalize upd K2 o101 (.tup [(.int 0), (.int 20)]) = G101 at E101 F101
        refine ⟨by show 1 ≤ sizeLine; decide, fun o102 n102 => ?_⟩
        have E102 : Ex G101 (upd G101 o102 (.lst [(.ref o101)])) := Ex.nw n102
        have F102 : (upd G101 o102 (.lst [(.ref o101)])) o102 = some (.lst [(.ref o101)]) := upd_same
        generalize upd G101 o102 (.lst [(.ref o101)]) = G102 at E102 F102
        refine ⟨by show 2 ≤ sizeLine; decide, fun o103 n103 => ?_⟩
        have E103 : Ex G102 (upd G102 o103 (.tup [(.int 0), (.int 0)])) := Ex.nw n103
        have F103 : (upd G102 o103 (.tup [(.int 0), (.int 0)])) o103 = some (.tup [(.int 0), (.int 0)]) := upd_same
        generalize upd G102 o103 (.tup [(.int 0), (.int 0)]) = G103 at E103 F103
        refine ⟨by show 2 ≤ sizeLine; decide, fun o104 n104 => ?_⟩
        have E104 : Ex G103 (upd G103 o104 (.tup [(.int 0), (.int 0)])) := Ex.nw n104
        have F104 : (upd G103 o104 (.tup [(.int 0), (.int 0)])) o104 = some (.tup [(.int 0), (.int 0)]) := upd_same
        generalize upd G103 o104 (.tup [(.int 0), (.int 0)]) = G104 at E104 F104
        refine ⟨by show 2 ≤ sizeLine; decide, fun o105 n105 => ?_⟩
        have E105 : Ex G104 (upd G104 o105 (.lst [(.ref o103), (.ref o104)])) := Ex.nw n105
        have F105 : (upd G104 o105 (.lst [(.ref o103), (.ref o104)])) o105 = some (.lst [(.ref o103), (.ref o104)]) := upd_same
        generalize upd G104 o105 (.lst [(.ref o103), (.ref o104)]) = G105 at E105 F105
        refine ⟨by show 1 ≤ sizeLine; decide, fun o106 n106 => ?_⟩
        have E106 : Ex G105 (upd G105 o106 (.lst [(.int 0)])) := Ex.nw n106
        have F106 : (upd G105 o106 (.lst [(.int 0)])) o106 = some (.lst [(.int 0)]) := upd_same
        generalize upd G105 o106 (.lst [(.int 0)]) = G106 at E106 F106
        refine ⟨by show 2 ≤ sizeLine; decide, fun o107 n107 => ?_⟩
        have E107 : Ex G106 (upd G106 o107 (.tup [(.ref o106), (.int 0)])) := Ex.nw n107
        have F107 : (upd G106 o107 (.tup [(.ref o106), (.int 0)])) o107 = some (.tup [(.ref o106), (.int 0)]) := upd_same
        generalize upd G106 o107 (.tup [(.ref o106), (.int 0)]) = G107 at E107 F107
        refine ⟨by show 1 ≤ sizeLine; decide, fun o108 n108 => ?_⟩
        have E108 : Ex G107 (upd G107 o108 (.lst [(.ref o107)])) := Ex.nw n108
        have F108 : (upd G107 o108 (.lst [(.ref o107)])) o108 = some (.lst [(.ref o107)]) := upd_same
        generalize upd G107 o108 (.lst [(.ref o107)]) = G108 at E108 F108
        refine ⟨by show 1 ≤ sizeLine; decide, fun o109 n109 => ?_⟩
        have E109 : Ex G108 (upd G108 o109 (.lst [(.int 0)])) := Ex.nw n109
        have F109 : (upd G108 o109 (.lst [(.int 0)])) o109 = some (.lst [(.int 0)]) := upd_same
        generalize upd G108 o109 (.lst [(.int 0)]) = G109 at E109 F109
        refine ⟨by show 2 ≤ sizeLine; decide, fun o110 n110 => ?_⟩
        have E110 : Ex G109 (upd G109 o110 (.tup [(.int 0), (.ref o109)])) := Ex.nw n110
        have F110 : (upd G109 o110 (.tup [(.int 0), (.ref o109)])) o110 = some (.tup [(.int 0), (.ref o109)]) := upd_same
        generalize upd G109 o110 (.tup [(.int 0), (.ref o109)]) = G110 at E110 F110
        refine ⟨by show 1 ≤ sizeLine; decide, fun o111 n111 => ?_⟩
        have E111 : Ex G110 (upd G110 o111 (.lst [(.ref o110)])) := Ex.nw n111
        have F111 : (upd G110 o111 (.lst [(.ref o110)])) o111 = some (.lst [(.ref o110)]) := upd_same
        generalize upd G110 o111 (.lst [(.ref o110)]) = G111 at E111 F111
        refine fun o112 n112 => ?_
        have E112 : Ex G111 (upd G111 o112 (.dK [])) := Ex.nw n112
        have F112 : (upd G111 o112 (.dK [])) o112 = some (.dK []) := upd_same
        generalize upd G111 o112 (.dK []) = G112 at E112 F112
        refine ⟨by show 2 ≤ sizeLine; decide, fun o113 n113 => ?_⟩
        have E113 : Ex G112 (upd G112 o113 (.tup [(.ref o112), (.int 0)])) := Ex.nw n113
        have F113 : (upd G112 o113 (.tup [(.ref o112), (.int 0)])) o113 = some (.tup [(.ref o112), (.int 0)]) := upd_same
        generalize upd G112 o113 (.tup [(.ref o112), (.int 0)]) = G113 at E113 F113
        refine ⟨by show 1 ≤ sizeLine; decide, fun o114 n114 => ?_⟩
        have E114 : Ex G113 (upd G113 o114 (.lst [(.ref o113)])) := Ex.nw n114
        have F114 : (upd G113 o114 (.lst [(.ref o113)])) o114 = some (.lst [(.ref o113)]) := upd_same
        generalize upd G113 o114 (.lst [(.ref o113)]) = G114 at E114 F114
        refine ⟨by show 6 ≤ sizeLine; decide, fun o115 n115 => ?_⟩
        have E115 : Ex G114 (upd G114 o115 (.lst [.non, (.ref o102), (.ref o105), (.ref o108), (.ref o111), (.ref o114)])) := Ex.nw n115
        have F115 : (upd G114 o115 (.lst [.non, (.ref o102), (.ref o105), (.ref o108), (.ref o111), (.ref o114)])) o115 = some (.lst [.non, (.ref o102), (.ref o105), (.ref o108), (.ref o111), (.ref o114)]) := upd_same
        generalize upd G114 o115 (.lst [.non, (.ref o102), (.ref o105), (.ref o108), (.ref o111), (.ref o114)]) = G115 at E115 F115
        have p0 : ∃ d, Da K G115 d .non ∧ Sh 41 40000 40 d ∧ tuplesB d uu.n uu.n = false := ⟨.none, rfl, (shB_sh (by decide +kernel)), by rcases hn with hn | hn <;> rw [hn] <;> decide +kernel⟩
        have p1 : ∃ d, Da K G115 d (.ref o102) ∧ Sh 41 40000 40 d ∧ tuplesB d uu.n uu.n = false := ⟨(.list [(.tuple [(.int 0), (.int 20)])]), ⟨o102, _, rfl, (E103.tr (E104.tr (E105.tr (E106.tr (E107.tr (E108.tr (E109.tr (E110.tr (E111.tr (E112.tr (E113.tr (E114.tr E115)))))))))))) _ _ F102, ⟨_, _, rfl, ⟨o101, _, rfl, (E102.tr (E103.tr (E104.tr (E105.tr (E106.tr (E107.tr (E108.tr (E109.tr (E110.tr (E111.tr (E112.tr (E113.tr (E114.tr E115))))))))))))) _ _ F101, ⟨_, _, rfl, rfl, ⟨_, _, rfl, rfl, rfl⟩⟩⟩, rfl⟩, by show 1 ≤ 100000; decide⟩, (shB_sh (by decide +kernel)), by rcases hn with hn | hn <;> rw [hn] <;> decide +kernel⟩
        have p2 : ∃ d, Da K G115 d (.ref o105) ∧ Sh 41 40000 40 d ∧ tuplesB d uu.n uu.n = false := ⟨(.list [(.tuple [(.int 0), (.int 0)]), (.tuple [(.int 0), (.int 0)])]), ⟨o105, _, rfl, (E106.tr (E107.tr (E108.tr (E109.tr (E110.tr (E111.tr (E112.tr (E113.tr (E114.tr E115))))))))) _ _ F105, ⟨_, _, rfl, ⟨o103, _, rfl, (E104.tr (E105.tr (E106.tr (E107.tr (E108.tr (E109.tr (E110.tr (E111.tr (E112.tr (E113.tr (E114.tr E115))))))))))) _ _ F103, ⟨_, _, rfl, rfl, ⟨_, _, rfl, rfl, rfl⟩⟩⟩, ⟨_, _, rfl, ⟨o104, _, rfl, (E105.tr (E106.tr (E107.tr (E108.tr (E109.tr (E110.tr (E111.tr (E112.tr (E113.tr (E114.tr E115)))))))))) _ _ F104, ⟨_, _, rfl, rfl, ⟨_, _, rfl, rfl, rfl⟩⟩⟩, rfl⟩⟩, by show 2 ≤ 100000; decide⟩, (shB_sh (by decide +kernel)), by rcases hn with hn | hn <;> rw [hn] <;> decide +kernel⟩
        have p3 : ∃ d, Da K G115 d (.ref o108) ∧ Sh 41 40000 40 d ∧ tuplesB d uu.n uu.n = false := ⟨(.list [(.tuple [(.list [(.int 0)]), (.int 0)])]), ⟨o108, _, rfl, (E109.tr (E110.tr (E111.tr (E112.tr (E113.tr (E114.tr E115)))))) _ _ F108, ⟨_, _, rfl, ⟨o107, _, rfl, (E108.tr (E109.tr (E110.tr (E111.tr (E112.tr (E113.tr (E114.tr E115))))))) _ _ F107, ⟨_, _, rfl, ⟨o106, _, rfl, (E107.tr (E108.tr (E109.tr (E110.tr (E111.tr (E112.tr (E113.tr (E114.tr E115)))))))) _ _ F106, ⟨_, _, rfl, rfl, rfl⟩, by show 1 ≤ 100000; decide⟩, ⟨_, _, rfl, rfl, rfl⟩⟩⟩, rfl⟩, by show 1 ≤ 100000; decide⟩, (shB_sh (by decide +kernel)), by rcases hn with hn | hn <;> rw [hn] <;> decide +kernel⟩
        have p4 : ∃ d, Da K G115 d (.ref o111) ∧ Sh 41 40000 40 d ∧ tuplesB d uu.n uu.n = false := ⟨(.list [(.tuple [(.int 0), (.list [(.int 0)])])]), ⟨o111, _, rfl, (E112.tr (E113.tr (E114.tr E115))) _ _ F111, ⟨_, _, rfl, ⟨o110, _, rfl, (E111.tr (E112.tr (E113.tr (E114.tr E115)))) _ _ F110, ⟨_, _, rfl, rfl, ⟨_, _, rfl, ⟨o109, _, rfl, (E110.tr (E111.tr (E112.tr (E113.tr (E114.tr E115))))) _ _ F109, ⟨_, _, rfl, rfl, rfl⟩, by show 1 ≤ 100000; decide⟩, rfl⟩⟩⟩, rfl⟩, by show 1 ≤ 100000; decide⟩, (shB_sh (by decide +kernel)), by rcases hn with hn | hn <;> rw [hn] <;> decide +kernel⟩
        have p5 : ∃ d, Da K G115 d (.ref o114) ∧ Sh 41 40000 40 d ∧ tuplesB d uu.n uu.n = false := ⟨(.list [(.tuple [(.dict []), (.int 0)])]), ⟨o114, _, rfl, E115 _ _ F114, ⟨_, _, rfl, ⟨o113, _, rfl, (E114.tr E115) _ _ F113, ⟨_, _, rfl, ⟨o112, [], rfl, (E113.tr (E114.tr E115)) _ _ F112, rfl, rfl⟩, ⟨_, _, rfl, rfl, rfl⟩⟩⟩, rfl⟩, by show 1 ≤ 100000; decide⟩, (shB_sh (by decide +kernel)), by rcases hn with hn | hn <;> rw [hn] <;> decide +kernel⟩
        have hb : BadL0 K G115 (fun d => tuplesB d uu.n uu.n = false) [.non, (.ref o102), (.ref o105), (.ref o108), (.ref o111), (.ref o114)] := ⟨p0, p1, p2, p3, p4, p5, trivial⟩
        have sB : SqL K G115 o115 [.non, (.ref o102), (.ref o105), (.ref o108), (.ref o111), (.ref o114)] := .inl (.inl F115)
        have k2 := k1.tr (E101.tr (E102.tr (E103.tr (E104.tr (E105.tr (E106.tr (E107.tr (E108.tr (E109.tr (E110.tr (E111.tr (E112.tr (E113.tr (E114.tr E115))))))))))))))
        refine ⟨o115, rfl, ⟨_, sB⟩, ?_⟩
        refine for_by 6 (fun j σ H' => ∃ y1 y2 y3 y9, σ = [some (V.ref a), y1, y2, y3, some (.ref o6), some (.ref o11), some (.ref o14), some (.ref o19), some x, y9] ∧ Ex G115 H')
          ⟨_, _, _, _, rfl, Ex.rfl⟩ (fun j σ H' hj p => ?_) (fun σ H' p => ?_) ?_ ?_
        · obtain ⟨_, _, _, _, _, h4⟩ := p
          exact itl_go (h4.l sB) Ex.rfl hj
        · obtain ⟨_, _, _, _, _, h4⟩ := p
          exact itl_stop (h4.l sB) Ex.rfl
        · rintro j2 σ L1 z L2' hj2 ⟨y1, y2, y3, y9, rfl, l1⟩ y
          obtain ⟨rfl, hz⟩ := itl_yld y (l1.l sB) Ex.rfl
          obtain ⟨dd, c1, c2, c3⟩ := hb.at hz
          refine ⟨_, rfl, _, rfl, _, rfl, by show 3 ≤ sizeLine; decide, fun ol nl => ?_⟩
          have l2 := l1.tr (Ex.nw nl (o := .lst [x, x, z]))
          refine ⟨7, ol, x, x, z, uu.d, uu.d, dd, rfl, by decide, upd_same, dU.up (k2.tr l2), dU.up (k2.tr l2), c1.up l2, shU, shU, c2, fun T1 t1 => ?_⟩
          rw [show toldV (dueCall 7 uu.d uu.d dd) = .int 6 from tv7 hu c3]
          refine ⟨_, _, dpi 6, dpi 6, shi _, shi _, false, rfl, ite2 (fun h => Bool.noConfusion h) (fun _ => ?_)⟩
          exact ⟨_, _, _, _, rfl, l2.tr t1⟩
        · rintro σ L1 ⟨y1, y2, y3, y9, rfl, l1⟩
          refine ⟨_, rfl, _, rfl, Nat.zero_le _, fun oe ne => ?_⟩
          have E1' : Ex L1 (upd L1 oe (.lst [])) := Ex.nw ne
          have F1' : (upd L1 oe (.lst [])) oe = some (.lst []) := upd_same
          generalize upd L1 oe (.lst []) = L3 at E1' F1'
          refine ⟨by show 3 ≤ sizeLine; decide, fun ol nl => ?_⟩
          have l2 := (l1.tr E1').tr (Ex.nw nl (o := .lst [x, x, .ref oe]))
          refine ⟨7, ol, x, x, .ref oe, uu.d, uu.d, dPairs [], rfl, by decide, upd_same, dU.up (k2.tr l2), dU.up (k2.tr l2), ⟨oe, _, rfl, (Ex.nw nl) _ _ F1', rfl, by decide⟩, shU, shU, shB_sh (by decide +kernel), fun T1 t1 => ?_⟩
          rw [hu7]
          refine ⟨_, _, dpi 9, dpi 9, shi _, shi _, false, rfl, ite2 (fun h => Bool.noConfusion h) (fun _ => ?_)⟩
          exact ⟨_, _, _, _, _, rfl, k2.tr (l2.tr t1)⟩
      · rintro σ K1 ⟨y1, y2, y3, y8, y9, rfl, k1⟩
        refine ⟨by show 1 ≤ sizeLine; decide, fun o201 n201 => ?_⟩
        have E201 : Ex K1 (upd K1 o201 (.lst [(.int 0)])) := Ex.nw n201
        have F201 : (upd K1 o201 (.lst [(.int 0)])) o201 = some (.lst [(.int 0)]) := upd_same
        generalize upd K1 o201 (.lst [(.int 0)]) = G201 at E201 F201
        refine ⟨by show 2 ≤ sizeLine; decide, fun o202 n202 => ?_⟩
        have E202 : Ex G201 (upd G201 o202 (.lst [(.ref o201), (.int 1)])) := Ex.nw n202
        have F202 : (upd G201 o202 (.lst [(.ref o201), (.int 1)])) o202 = some (.lst [(.ref o201), (.int 1)]) := upd_same
        generalize upd G201 o202 (.lst [(.ref o201), (.int 1)]) = G202 at E202 F202
        refine fun o203 n203 => ?_
        have E203 : Ex G202 (upd G202 o203 (.dK [])) := Ex.nw n203
        have F203 : (upd G202 o203 (.dK [])) o203 = some (.dK []) := upd_same
        generalize upd G202 o203 (.dK []) = G203 at E203 F203
        refine ⟨by show 2 ≤ sizeLine; decide, fun o204 n204 => ?_⟩
        have E204 : Ex G203 (upd G203 o204 (.lst [(.int 0), (.ref o203)])) := Ex.nw n204
        have F204 : (upd G203 o204 (.lst [(.int 0), (.ref o203)])) o204 = some (.lst [(.int 0), (.ref o203)]) := upd_same
        generalize upd G203 o204 (.lst [(.int 0), (.ref o203)]) = G204 at E204 F204
        refine ⟨by show 1 ≤ sizeLine; decide, fun o205 n205 => ?_⟩
        have E205 : Ex G204 (upd G204 o205 (.tup [(.int 0)])) := Ex.nw n205
        have F205 : (upd G204 o205 (.tup [(.int 0)])) o205 = some (.tup [(.int 0)]) := upd_same
        generalize upd G204 o205 (.tup [(.int 0)]) = G205 at E205 F205
        refine ⟨by show 2 ≤ sizeLine; decide, fun o206 n206 => ?_⟩
        have E206 : Ex G205 (upd G205 o206 (.lst [(.ref o205), (.int 1)])) := Ex.nw n206
        have F206 : (upd G205 o206 (.lst [(.ref o205), (.int 1)])) o206 = some (.lst [(.ref o205), (.int 1)]) := upd_same
        generalize upd G205 o206 (.lst [(.ref o205), (.int 1)]) = G206 at E206 F206
        refine ⟨by show 3 ≤ sizeLine; decide, fun o207 n207 => ?_⟩
        have E207 : Ex G206 (upd G206 o207 (.lst [(.ref o202), (.ref o204), (.ref o206)])) := Ex.nw n207
        have F207 : (upd G206 o207 (.lst [(.ref o202), (.ref o204), (.ref o206)])) o207 = some (.lst [(.ref o202), (.ref o204), (.ref o206)]) := upd_same
        generalize upd G206 o207 (.lst [(.ref o202), (.ref o204), (.ref o206)]) = G207 at E207 F207
        have p0 : ∃ d, Da K G207 d (.ref o202) ∧ Sh 41 40000 40 d ∧ ordB d 2 = false := ⟨(.list [(.list [(.int 0)]), (.int 1)]), ⟨o202, _, rfl, (E203.tr (E204.tr (E205.tr (E206.tr E207)))) _ _ F202, ⟨_, _, rfl, ⟨o201, _, rfl, (E202.tr (E203.tr (E204.tr (E205.tr (E206.tr E207))))) _ _ F201, ⟨_, _, rfl, rfl, rfl⟩, by show 1 ≤ 100000; decide⟩, ⟨_, _, rfl, rfl, rfl⟩⟩, by show 2 ≤ 100000; decide⟩, (shB_sh (by decide +kernel)), ordB_no (fun o h => by have h := PyData.list.inj h; have e := congrArg Nw.intsOf h; rw [intsOf_map] at e; cases e)⟩
        have p1 : ∃ d, Da K G207 d (.ref o204) ∧ Sh 41 40000 40 d ∧ ordB d 2 = false := ⟨(.list [(.int 0), (.dict [])]), ⟨o204, _, rfl, (E205.tr (E206.tr E207)) _ _ F204, ⟨_, _, rfl, rfl, ⟨_, _, rfl, ⟨o203, [], rfl, (E204.tr (E205.tr (E206.tr E207))) _ _ F203, rfl, rfl⟩, rfl⟩⟩, by show 2 ≤ 100000; decide⟩, (shB_sh (by decide +kernel)), ordB_no (fun o h => by have h := PyData.list.inj h; have e := congrArg Nw.intsOf h; rw [intsOf_map] at e; cases e)⟩
        have p2 : ∃ d, Da K G207 d (.ref o206) ∧ Sh 41 40000 40 d ∧ ordB d 2 = false := ⟨(.list [(.tuple [(.int 0)]), (.int 1)]), ⟨o206, _, rfl, E207 _ _ F206, ⟨_, _, rfl, ⟨o205, _, rfl, (E206.tr E207) _ _ F205, ⟨_, _, rfl, rfl, rfl⟩⟩, ⟨_, _, rfl, rfl, rfl⟩⟩, by show 2 ≤ 100000; decide⟩, (shB_sh (by decide +kernel)), ordB_no (fun o h => by have h := PyData.list.inj h; have e := congrArg Nw.intsOf h; rw [intsOf_map] at e; cases e)⟩
        have hb : BadL0 K G207 (fun d => ordB d 2 = false) [(.ref o202), (.ref o204), (.ref o206)] := ⟨p0, p1, p2, trivial⟩
        have sB : SqL K G207 o207 [(.ref o202), (.ref o204), (.ref o206)] := .inl (.inl F207)
        have k2 := k1.tr (E201.tr (E202.tr (E203.tr (E204.tr (E205.tr (E206.tr E207))))))
        have sh8 := u8_ok.sh.wide (m := 40000) (j := 40) (by omega) (by omega)
        refine ⟨o207, rfl, ⟨_, sB⟩, ?_⟩
        refine for_by 3 (fun j σ H' => ∃ y1 y2 y3 y8 y9, σ = [some (V.ref a), y1, y2, y3, some (.ref o6), some (.ref o11), some (.ref o14), some (.ref o19), y8, y9] ∧ Ex G207 H')
          ⟨_, _, _, _, _, rfl, Ex.rfl⟩ (fun j σ H' hj p => ?_) (fun σ H' p => ?_) ?_ ?_
        · obtain ⟨_, _, _, _, _, _, h4⟩ := p
          exact itl_go (h4.l sB) Ex.rfl hj
        · obtain ⟨_, _, _, _, _, _, h4⟩ := p
          exact itl_stop (h4.l sB) Ex.rfl
        · rintro j2 σ L1 z L2' hj2 ⟨y1, y2, y3, y8, y9, rfl, l1⟩ y
          obtain ⟨rfl, hz⟩ := itl_yld y (l1.l sB) Ex.rfl
          obtain ⟨dd, c1, c2, c3⟩ := hb.at hz
          refine ⟨_, rfl, _, rfl, by show 3 ≤ sizeLine; decide, fun ol nl => ?_⟩
          have l2 := l1.tr (Ex.nw nl (o := .lst [(.ref o6), z, .non]))
          refine ⟨6, ol, _, _, _, u8.d, dd, .none, rfl, by decide, upd_same, d8.up (k2.tr l2), c1.up l2, rfl, sh8, c2, sh_n9, fun T1 t1 => ?_⟩
          rw [tv6 c3]
          refine ⟨_, rfl, by show 3 ≤ sizeLine; decide, fun om nm => ?_⟩
          have l3 := (l2.tr t1).tr (Ex.nw nm (o := .lst [(.ref o6), .non, .non]))
          refine ⟨6, om, _, _, _, u8.d, .none, .none, rfl, by decide, upd_same, d8.up (k2.tr l3), rfl, rfl, sh8, sh_n9, sh_n9, fun T2 t2 => ?_⟩
          rw [tv6 (d := .none) (ordB_no (fun o h => nomatch h))]
          refine ⟨_, _, dpi 5, dpi 5, shi _, shi _, false, rfl, ite2 (fun h => Bool.noConfusion h) (fun _ => ?_)⟩
          exact ⟨_, _, _, _, _, rfl, l3.tr t2⟩
        · rintro σ L1 ⟨y1, y2, y3, y8, y9, rfl, l1⟩
          refine ⟨_, rfl, by show 3 ≤ sizeLine; decide, fun ol nl => ?_⟩
          have E1' : Ex L1 (upd L1 ol (.lst [.int 7, .int 8, .int 9])) := Ex.nw nl
          have F1' : (upd L1 ol (.lst [.int 7, .int 8, .int 9])) ol = some (.lst [.int 7, .int 8, .int 9]) := upd_same
          generalize upd L1 ol (.lst [.int 7, .int 8, .int 9]) = L3 at E1' F1'
          have k3 := k2.tr (l1.tr E1')
          refine ⟨dInts [7, 8, 9], dInts [7, 8, 9], (dInts_of (r := [7, 8, 9]) (k3 _ _ fT) (by decide)).dInts, (dInts_of (r := [7, 8, 9]) F1' (by decide)).dInts, sh_dInts _, sh_dInts _, ?_⟩
          rw [eqv_dInts, decide_eq_true rfl]
          refine ⟨true, rfl, ?_⟩
          refine ite2 (fun _ => ?_) (fun h => absurd rfl h)
          refine ⟨_, rfl, Nat.zero_le _, fun oe ne => ?_⟩
          have E2' : Ex L3 (upd L3 oe (.lst [])) := Ex.nw ne
          have F2' : (upd L3 oe (.lst [])) oe = some (.lst []) := upd_same
          generalize upd L3 oe (.lst []) = L4 at E2' F2'
          refine ⟨by show 3 ≤ sizeLine; decide, fun om nm => ?_⟩
          have l5 := E2'.tr (Ex.nw nm (o := .lst [(.ref o6), .ref oe, .non]))
          refine ⟨4, om, _, _, _, u8.d, dInts [], .none, rfl, by decide, upd_same, d8.up (k3.tr l5), dInts_of (r := []) ((Ex.nw nm) _ _ F2') (by decide), rfl, sh8, shB_sh (by decide +kernel), sh_n9, fun T1 t1 => ?_⟩
          rw [tv4']
          refine ⟨_, _, dpi 3, dpi 3, shi _, shi _, ?_⟩
          rw [show PyData.eqv (.int 3) (.int 3) = true from rfl]
          exact q _ (e2.tr (k3.tr (l5.tr t1)))
end

end K46
namespace K46
open PySem PySem.Spec PyProof.Rows L2 Nw
theorem all_mk {l : PySem.W.OpenLaw} {w : World} {K : PySem.W.Frag} {h : Heap} {mg : Str → Option Value} {fa : Addr} (X : K.In h) (G : h.Ns mainGlobals mg) (hfa : mg "law" = some (.ref fa))
    {f0 f1 f2 f3 f4 f5 f6 f7 f8 f9 f10 f11 f12 f13 f14 f15 f16 f17 f18 f19 f20 f21 f22 f23 f24 f25 f26 f27 f28 f29 f30 f31 f32 f33 f34 f35 f36 f37 f38 f39 f40 f41 f42 : Addr} {od0 an0 od1 an1 od2 an2 od3 an3 od4 an4 od5 an5 od6 an6 od7 an7 od8 an8 od9 an9 od10 an10 od11 an11 od12 an12 od13 an13 od14 an14 od15 an15 od16 an16 od17 an17 od18 an18 od19 an19 od20 an20 od21 an21 od22 an22 od23 an23 od24 an24 od25 an25 od26 an26 od27 an27 od28 an28 od29 an29 od30 an30 od31 an31 od32 an32 od33 an33 od34 an34 od35 an35 od36 an36 od37 an37 od38 an38 od39 an39 od40 an40 od41 an41 od42 an42 : Option Addr} {sl0 sl1 sl2 sl3 sl4 sl5 sl6 sl7 sl8 sl9 sl10 sl11 sl12 sl13 sl14 sl15 sl16 sl17 sl18 sl19 sl20 sl21 sl22 sl23 sl24 sl25 sl26 sl27 sl28 sl29 sl30 sl31 sl32 sl33 sl34 sl35 sl36 sl37 sl38 sl39 sl40 sl41 sl42 : Array (Option Value)}
    {oc0 kV0 dc0 pm0 cd0 ct0 oc1 kV1 dc1 pm1 cd1 ct1 oc2 kV2 dc2 pm2 cd2 ct2 oc3 kV3 dc3 pm3 cd3 ct3 oc4 kV4 dc4 pm4 cd4 ct4 oc5 kV5 dc5 pm5 cd5 ct5 oc6 kV6 dc6 pm6 cd6 ct6 oc7 kV7 dc7 pm7 cd7 ct7 oc8 kV8 dc8 pm8 cd8 ct8 oc9 kV9 dc9 pm9 cd9 ct9 oc10 kV10 dc10 pm10 cd10 ct10 oc11 kV11 dc11 pm11 cd11 ct11 oc12 kV12 dc12 pm12 cd12 ct12 oc13 kV13 dc13 pm13 cd13 ct13 oc14 kV14 dc14 pm14 cd14 ct14 oc15 kV15 dc15 pm15 cd15 ct15 oc16 kV16 dc16 pm16 cd16 ct16 oc17 kV17 dc17 pm17 cd17 ct17 oc18 kV18 dc18 pm18 cd18 ct18 oc19 kV19 dc19 pm19 cd19 ct19 oc20 kV20 dc20 pm20 cd20 ct20 oc21 kV21 dc21 pm21 cd21 ct21 oc22 kV22 dc22 pm22 cd22 ct22 oc23 kV23 dc23 pm23 cd23 ct23 oc24 kV24 dc24 pm24 cd24 ct24 oc25 kV25 dc25 pm25 cd25 ct25 oc26 kV26 dc26 pm26 cd26 ct26 oc27 kV27 dc27 pm27 cd27 ct27 oc28 kV28 dc28 pm28 cd28 ct28 oc29 kV29 dc29 pm29 cd29 ct29 oc30 kV30 dc30 pm30 cd30 ct30 oc31 kV31 dc31 pm31 cd31 ct31 oc32 kV32 dc32 pm32 cd32 ct32 oc33 kV33 dc33 pm33 cd33 ct33 oc34 kV34 dc34 pm34 cd34 ct34 oc35 kV35 dc35 pm35 cd35 ct35 oc36 kV36 dc36 pm36 cd36 ct36 oc37 kV37 dc37 pm37 cd37 ct37 oc38 kV38 dc38 pm38 cd38 ct38 oc39 kV39 dc39 pm39 cd39 ct39 oc40 kV40 dc40 pm40 cd40 ct40 oc41 kV41 dc41 pm41 cd41 ct41 oc42 kV42 dc42 pm42 cd42 ct42 : Value}
    (a0 : PySem.W.nsIn K mainGlobals "_law_purse" = some (some (.ref f0))) (l0 : K.lookup f0 = some ⟨oc0, od0, .func (PySem.W.fnOf "_law_purse" "_law_purse" (defArgs s_purse) (defBody s_purse) (defScope s_purse) .none kV0 dc0 pm0 an0 cd0 ct0), sl0⟩) (c0 : PySem.W.codeIn K cd0 "_law_purse" = true) (k0 : PySem.W.keepIn K (.ref f0) = true)
    (a1 : PySem.W.nsIn K mainGlobals "_law_kind" = some (some (.ref f1))) (l1 : K.lookup f1 = some ⟨oc1, od1, .func (PySem.W.fnOf "_law_kind" "_law_kind" (defArgs s_kind) (defBody s_kind) (defScope s_kind) .none kV1 dc1 pm1 an1 cd1 ct1), sl1⟩) (c1 : PySem.W.codeIn K cd1 "_law_kind" = true) (k1 : PySem.W.keepIn K (.ref f1) = true)
    (a2 : PySem.W.nsIn K mainGlobals "is_integer" = some (some (.ref f2))) (l2 : K.lookup f2 = some ⟨oc2, od2, .func (PySem.W.fnOf "is_integer" "is_integer" (defArgs s_is_integer) (defBody s_is_integer) (defScope s_is_integer) .none kV2 dc2 pm2 an2 cd2 ct2), sl2⟩) (c2 : PySem.W.codeIn K cd2 "is_integer" = true) (k2 : PySem.W.keepIn K (.ref f2) = true)
    (a3 : PySem.W.nsIn K mainGlobals "is_number_below" = some (some (.ref f3))) (l3 : K.lookup f3 = some ⟨oc3, od3, .func (PySem.W.fnOf "is_number_below" "is_number_below" (defArgs s_is_number_below) (defBody s_is_number_below) (defScope s_is_number_below) .none kV3 dc3 pm3 an3 cd3 ct3), sl3⟩) (c3 : PySem.W.codeIn K cd3 "is_number_below" = true) (k3 : PySem.W.keepIn K (.ref f3) = true)
    (a4 : PySem.W.nsIn K mainGlobals "is_tuple_below" = some (some (.ref f4))) (l4 : K.lookup f4 = some ⟨oc4, od4, .func (PySem.W.fnOf "is_tuple_below" "is_tuple_below" (defArgs s_is_tuple_below) (defBody s_is_tuple_below) (defScope s_is_tuple_below) .none kV4 dc4 pm4 an4 cd4 ct4), sl4⟩) (c4 : PySem.W.codeIn K cd4 "is_tuple_below" = true) (k4 : PySem.W.keepIn K (.ref f4) = true)
    (a5 : PySem.W.nsIn K mainGlobals "are_ascending" = some (some (.ref f5))) (l5 : K.lookup f5 = some ⟨oc5, od5, .func (PySem.W.fnOf "are_ascending" "are_ascending" (defArgs s_are_ascending) (defBody s_are_ascending) (defScope s_are_ascending) .none kV5 dc5 pm5 an5 cd5 ct5), sl5⟩) (c5 : PySem.W.codeIn K cd5 "are_ascending" = true) (k5 : PySem.W.keepIn K (.ref f5) = true)
    (a6 : PySem.W.nsIn K mainGlobals "are_ascending_tuples" = some (some (.ref f6))) (l6 : K.lookup f6 = some ⟨oc6, od6, .func (PySem.W.fnOf "are_ascending_tuples" "are_ascending_tuples" (defArgs s_are_ascending_tuples) (defBody s_are_ascending_tuples) (defScope s_are_ascending_tuples) .none kV6 dc6 pm6 an6 cd6 ct6), sl6⟩) (c6 : PySem.W.codeIn K cd6 "are_ascending_tuples" = true) (k6 : PySem.W.keepIn K (.ref f6) = true)
    (a7 : PySem.W.nsIn K mainGlobals "are_below" = some (some (.ref f7))) (l7 : K.lookup f7 = some ⟨oc7, od7, .func (PySem.W.fnOf "are_below" "are_below" (defArgs s_are_below) (defBody s_are_below) (defScope s_are_below) .none kV7 dc7 pm7 an7 cd7 ct7), sl7⟩) (c7 : PySem.W.codeIn K cd7 "are_below" = true) (k7 : PySem.W.keepIn K (.ref f7) = true)
    (a8 : PySem.W.nsIn K mainGlobals "are_targets" = some (some (.ref f8))) (l8 : K.lookup f8 = some ⟨oc8, od8, .func (PySem.W.fnOf "are_targets" "are_targets" (defArgs s_are_targets) (defBody s_are_targets) (defScope s_are_targets) .none kV8 dc8 pm8 an8 cd8 ct8), sl8⟩) (c8 : PySem.W.codeIn K cd8 "are_targets" = true) (k8 : PySem.W.keepIn K (.ref f8) = true)
    (a9 : PySem.W.nsIn K mainGlobals "are_nudges" = some (some (.ref f9))) (l9 : K.lookup f9 = some ⟨oc9, od9, .func (PySem.W.fnOf "are_nudges" "are_nudges" (defArgs s_are_nudges) (defBody s_are_nudges) (defScope s_are_nudges) .none kV9 dc9 pm9 an9 cd9 ct9), sl9⟩) (c9 : PySem.W.codeIn K cd9 "are_nudges" = true) (k9 : PySem.W.keepIn K (.ref f9) = true)
    (a10 : PySem.W.nsIn K mainGlobals "has_web_shape" = some (some (.ref f10))) (l10 : K.lookup f10 = some ⟨oc10, od10, .func (PySem.W.fnOf "has_web_shape" "has_web_shape" (defArgs s_has_web_shape) (defBody s_has_web_shape) (defScope s_has_web_shape) .none kV10 dc10 pm10 an10 cd10 ct10), sl10⟩) (c10 : PySem.W.codeIn K cd10 "has_web_shape" = true) (k10 : PySem.W.keepIn K (.ref f10) = true)
    (a11 : PySem.W.nsIn K mainGlobals "check_web" = some (some (.ref f11))) (l11 : K.lookup f11 = some ⟨oc11, od11, .func (PySem.W.fnOf "check_web" "check_web" (defArgs s_check_web) (defBody s_check_web) (defScope s_check_web) .none kV11 dc11 pm11 an11 cd11 ct11), sl11⟩) (c11 : PySem.W.codeIn K cd11 "check_web" = true) (k11 : PySem.W.keepIn K (.ref f11) = true)
    (a12 : PySem.W.nsIn K mainGlobals "check_source" = some (some (.ref f12))) (l12 : K.lookup f12 = some ⟨oc12, od12, .func (PySem.W.fnOf "check_source" "check_source" (defArgs s_check_source) (defBody s_check_source) (defScope s_check_source) .none kV12 dc12 pm12 an12 cd12 ct12), sl12⟩) (c12 : PySem.W.codeIn K cd12 "check_source" = true) (k12 : PySem.W.keepIn K (.ref f12) = true)
    (a13 : PySem.W.nsIn K mainGlobals "all_lines" = some (some (.ref f13))) (l13 : K.lookup f13 = some ⟨oc13, od13, .func (PySem.W.fnOf "all_lines" "all_lines" (defArgs s_all_lines) (defBody s_all_lines) (defScope s_all_lines) .none kV13 dc13 pm13 an13 cd13 ct13), sl13⟩) (c13 : PySem.W.codeIn K cd13 "all_lines" = true) (k13 : PySem.W.keepIn K (.ref f13) = true)
    (a14 : PySem.W.nsIn K mainGlobals "target_rows" = some (some (.ref f14))) (l14 : K.lookup f14 = some ⟨oc14, od14, .func (PySem.W.fnOf "target_rows" "target_rows" (defArgs s_target_rows) (defBody s_target_rows) (defScope s_target_rows) .none kV14 dc14 pm14 an14 cd14 ct14), sl14⟩) (c14 : PySem.W.codeIn K cd14 "target_rows" = true) (k14 : PySem.W.keepIn K (.ref f14) = true)
    (a15 : PySem.W.nsIn K mainGlobals "targets_of" = some (some (.ref f15))) (l15 : K.lookup f15 = some ⟨oc15, od15, .func (PySem.W.fnOf "targets_of" "targets_of" (defArgs s_targets_of) (defBody s_targets_of) (defScope s_targets_of) .none kV15 dc15 pm15 an15 cd15 ct15), sl15⟩) (c15 : PySem.W.codeIn K cd15 "targets_of" = true) (k15 : PySem.W.keepIn K (.ref f15) = true)
    (a16 : PySem.W.nsIn K mainGlobals "check_quantity" = some (some (.ref f16))) (l16 : K.lookup f16 = some ⟨oc16, od16, .func (PySem.W.fnOf "check_quantity" "check_quantity" (defArgs s_check_quantity) (defBody s_check_quantity) (defScope s_check_quantity) .none kV16 dc16 pm16 an16 cd16 ct16), sl16⟩) (c16 : PySem.W.codeIn K cd16 "check_quantity" = true) (k16 : PySem.W.keepIn K (.ref f16) = true)
    (a17 : PySem.W.nsIn K mainGlobals "source_rows" = some (some (.ref f17))) (l17 : K.lookup f17 = some ⟨oc17, od17, .func (PySem.W.fnOf "source_rows" "source_rows" (defArgs s_source_rows) (defBody s_source_rows) (defScope s_source_rows) .none kV17 dc17 pm17 an17 cd17 ct17), sl17⟩) (c17 : PySem.W.codeIn K cd17 "source_rows" = true) (k17 : PySem.W.keepIn K (.ref f17) = true)
    (a18 : PySem.W.nsIn K mainGlobals "sources_of" = some (some (.ref f18))) (l18 : K.lookup f18 = some ⟨oc18, od18, .func (PySem.W.fnOf "sources_of" "sources_of" (defArgs s_sources_of) (defBody s_sources_of) (defScope s_sources_of) .none kV18 dc18 pm18 an18 cd18 ct18), sl18⟩) (c18 : PySem.W.codeIn K cd18 "sources_of" = true) (k18 : PySem.W.keepIn K (.ref f18) = true)
    (a19 : PySem.W.nsIn K mainGlobals "lines_of" = some (some (.ref f19))) (l19 : K.lookup f19 = some ⟨oc19, od19, .func (PySem.W.fnOf "lines_of" "lines_of" (defArgs s_lines_of) (defBody s_lines_of) (defScope s_lines_of) .none kV19 dc19 pm19 an19 cd19 ct19), sl19⟩) (c19 : PySem.W.codeIn K cd19 "lines_of" = true) (k19 : PySem.W.keepIn K (.ref f19) = true)
    (a20 : PySem.W.nsIn K mainGlobals "copied_nudges" = some (some (.ref f20))) (l20 : K.lookup f20 = some ⟨oc20, od20, .func (PySem.W.fnOf "copied_nudges" "copied_nudges" (defArgs s_copied_nudges) (defBody s_copied_nudges) (defScope s_copied_nudges) .none kV20 dc20 pm20 an20 cd20 ct20), sl20⟩) (c20 : PySem.W.codeIn K cd20 "copied_nudges" = true) (k20 : PySem.W.keepIn K (.ref f20) = true)
    (a21 : PySem.W.nsIn K mainGlobals "with_pair" = some (some (.ref f21))) (l21 : K.lookup f21 = some ⟨oc21, od21, .func (PySem.W.fnOf "with_pair" "with_pair" (defArgs s_with_pair) (defBody s_with_pair) (defScope s_with_pair) .none kV21 dc21 pm21 an21 cd21 ct21), sl21⟩) (c21 : PySem.W.codeIn K cd21 "with_pair" = true) (k21 : PySem.W.keepIn K (.ref f21) = true)
    (a22 : PySem.W.nsIn K mainGlobals "without_pair" = some (some (.ref f22))) (l22 : K.lookup f22 = some ⟨oc22, od22, .func (PySem.W.fnOf "without_pair" "without_pair" (defArgs s_without_pair) (defBody s_without_pair) (defScope s_without_pair) .none kV22 dc22 pm22 an22 cd22 ct22), sl22⟩) (c22 : PySem.W.codeIn K cd22 "without_pair" = true) (k22 : PySem.W.keepIn K (.ref f22) = true)
    (a23 : PySem.W.nsIn K mainGlobals "check_targets" = some (some (.ref f23))) (l23 : K.lookup f23 = some ⟨oc23, od23, .func (PySem.W.fnOf "check_targets" "check_targets" (defArgs s_check_targets) (defBody s_check_targets) (defScope s_check_targets) .none kV23 dc23 pm23 an23 cd23 ct23), sl23⟩) (c23 : PySem.W.codeIn K cd23 "check_targets" = true) (k23 : PySem.W.keepIn K (.ref f23) = true)
    (a24 : PySem.W.nsIn K mainGlobals "with_nudge" = some (some (.ref f24))) (l24 : K.lookup f24 = some ⟨oc24, od24, .func (PySem.W.fnOf "with_nudge" "with_nudge" (defArgs s_with_nudge) (defBody s_with_nudge) (defScope s_with_nudge) .none kV24 dc24 pm24 an24 cd24 ct24), sl24⟩) (c24 : PySem.W.codeIn K cd24 "with_nudge" = true) (k24 : PySem.W.keepIn K (.ref f24) = true)
    (a25 : PySem.W.nsIn K mainGlobals "check_nudge" = some (some (.ref f25))) (l25 : K.lookup f25 = some ⟨oc25, od25, .func (PySem.W.fnOf "check_nudge" "check_nudge" (defArgs s_check_nudge) (defBody s_check_nudge) (defScope s_check_nudge) .none kV25 dc25 pm25 an25 cd25 ct25), sl25⟩) (c25 : PySem.W.codeIn K cd25 "check_nudge" = true) (k25 : PySem.W.keepIn K (.ref f25) = true)
    (a26 : PySem.W.nsIn K mainGlobals "without_nudge" = some (some (.ref f26))) (l26 : K.lookup f26 = some ⟨oc26, od26, .func (PySem.W.fnOf "without_nudge" "without_nudge" (defArgs s_without_nudge) (defBody s_without_nudge) (defScope s_without_nudge) .none kV26 dc26 pm26 an26 cd26 ct26), sl26⟩) (c26 : PySem.W.codeIn K cd26 "without_nudge" = true) (k26 : PySem.W.keepIn K (.ref f26) = true)
    (a27 : PySem.W.nsIn K mainGlobals "turned" = some (some (.ref f27))) (l27 : K.lookup f27 = some ⟨oc27, od27, .func (PySem.W.fnOf "turned" "turned" (defArgs s_turned) (defBody s_turned) (defScope s_turned) .none kV27 dc27 pm27 an27 cd27 ct27), sl27⟩) (c27 : PySem.W.codeIn K cd27 "turned" = true) (k27 : PySem.W.keepIn K (.ref f27) = true)
    (a28 : PySem.W.nsIn K mainGlobals "are_all_below" = some (some (.ref f28))) (l28 : K.lookup f28 = some ⟨oc28, od28, .func (PySem.W.fnOf "are_all_below" "are_all_below" (defArgs s_are_all_below) (defBody s_are_all_below) (defScope s_are_all_below) .none kV28 dc28 pm28 an28 cd28 ct28), sl28⟩) (c28 : PySem.W.codeIn K cd28 "are_all_below" = true) (k28 : PySem.W.keepIn K (.ref f28) = true)
    (a29 : PySem.W.nsIn K mainGlobals "check_order" = some (some (.ref f29))) (l29 : K.lookup f29 = some ⟨oc29, od29, .func (PySem.W.fnOf "check_order" "check_order" (defArgs s_check_order) (defBody s_check_order) (defScope s_check_order) .none kV29 dc29 pm29 an29 cd29 ct29), sl29⟩) (c29 : PySem.W.codeIn K cd29 "check_order" = true) (k29 : PySem.W.keepIn K (.ref f29) = true)
    (a30 : PySem.W.nsIn K mainGlobals "renumbered" = some (some (.ref f30))) (l30 : K.lookup f30 = some ⟨oc30, od30, .func (PySem.W.fnOf "renumbered" "renumbered" (defArgs s_renumbered) (defBody s_renumbered) (defScope s_renumbered) .none kV30 dc30 pm30 an30 cd30 ct30), sl30⟩) (c30 : PySem.W.codeIn K cd30 "renumbered" = true) (k30 : PySem.W.keepIn K (.ref f30) = true)
    (a31 : PySem.W.nsIn K mainGlobals "check_links" = some (some (.ref f31))) (l31 : K.lookup f31 = some ⟨oc31, od31, .func (PySem.W.fnOf "check_links" "check_links" (defArgs s_check_links) (defBody s_check_links) (defScope s_check_links) .none kV31 dc31 pm31 an31 cd31 ct31), sl31⟩) (c31 : PySem.W.codeIn K cd31 "check_links" = true) (k31 : PySem.W.keepIn K (.ref f31) = true)
    (a32 : PySem.W.nsIn K mainGlobals "joined" = some (some (.ref f32))) (l32 : K.lookup f32 = some ⟨oc32, od32, .func (PySem.W.fnOf "joined" "joined" (defArgs s_joined) (defBody s_joined) (defScope s_joined) .none kV32 dc32 pm32 an32 cd32 ct32), sl32⟩) (c32 : PySem.W.codeIn K cd32 "joined" = true) (k32 : PySem.W.keepIn K (.ref f32) = true)
    (a33 : PySem.W.nsIn K mainGlobals "_law_call" = some (some (.ref f33))) (l33 : K.lookup f33 = some ⟨oc33, od33, .func (PySem.W.fnOf "_law_call" "_law_call" (defArgs s_call) (defBody s_call) (defScope s_call) .none kV33 dc33 pm33 an33 cd33 ct33), sl33⟩) (c33 : PySem.W.codeIn K cd33 "_law_call" = true) (k33 : PySem.W.keepIn K (.ref f33) = true)
    (a34 : PySem.W.nsIn K mainGlobals "_law_told" = some (some (.ref f34))) (l34 : K.lookup f34 = some ⟨oc34, od34, .func (PySem.W.fnOf "_law_told" "_law_told" (defArgs s_told) (defBody s_told) (defScope s_told) .none kV34 dc34 pm34 an34 cd34 ct34), sl34⟩) (c34 : PySem.W.codeIn K cd34 "_law_told" = true) (k34 : PySem.W.keepIn K (.ref f34) = true)
    (a35 : PySem.W.nsIn K mainGlobals "_law_coin" = some (some (.ref f35))) (l35 : K.lookup f35 = some ⟨oc35, od35, .func (PySem.W.fnOf "_law_coin" "_law_coin" (defArgs s_coin) (defBody s_coin) (defScope s_coin) .none kV35 dc35 pm35 an35 cd35 ct35), sl35⟩) (c35 : PySem.W.codeIn K cd35 "_law_coin" = true) (k35 : PySem.W.keepIn K (.ref f35) = true)
    (a36 : PySem.W.nsIn K mainGlobals "_law_targets" = some (some (.ref f36))) (l36 : K.lookup f36 = some ⟨oc36, od36, .func (PySem.W.fnOf "_law_targets" "_law_targets" (defArgs s_targets) (defBody s_targets) (defScope s_targets) .none kV36 dc36 pm36 an36 cd36 ct36), sl36⟩) (c36 : PySem.W.codeIn K cd36 "_law_targets" = true) (k36 : PySem.W.keepIn K (.ref f36) = true)
    (a37 : PySem.W.nsIn K mainGlobals "_law_web" = some (some (.ref f37))) (l37 : K.lookup f37 = some ⟨oc37, od37, .func (PySem.W.fnOf "_law_web" "_law_web" (defArgs s_web) (defBody s_web) (defScope s_web) .none kV37 dc37 pm37 an37 cd37 ct37), sl37⟩) (c37 : PySem.W.codeIn K cd37 "_law_web" = true) (k37 : PySem.W.keepIn K (.ref f37) = true)
    (a38 : PySem.W.nsIn K mainGlobals "_law_numbers" = some (some (.ref f38))) (l38 : K.lookup f38 = some ⟨oc38, od38, .func (PySem.W.fnOf "_law_numbers" "_law_numbers" (defArgs s_numbers) (defBody s_numbers) (defScope s_numbers) .none kV38 dc38 pm38 an38 cd38 ct38), sl38⟩) (c38 : PySem.W.codeIn K cd38 "_law_numbers" = true) (k38 : PySem.W.keepIn K (.ref f38) = true)
    (a39 : PySem.W.nsIn K mainGlobals "_law_bad" = some (some (.ref f39))) (l39 : K.lookup f39 = some ⟨oc39, od39, .func (PySem.W.fnOf "_law_bad" "_law_bad" (defArgs s_bad) (defBody s_bad) (defScope s_bad) .none kV39 dc39 pm39 an39 cd39 ct39), sl39⟩) (c39 : PySem.W.codeIn K cd39 "_law_bad" = true) (k39 : PySem.W.keepIn K (.ref f39) = true)
    (a40 : PySem.W.nsIn K mainGlobals "_law_due" = some (some (.ref f40))) (l40 : K.lookup f40 = some ⟨oc40, od40, .func (PySem.W.fnOf "_law_due" "_law_due" (defArgs s_due) (defBody s_due) (defScope s_due) .none kV40 dc40 pm40 an40 cd40 ct40), sl40⟩) (c40 : PySem.W.codeIn K cd40 "_law_due" = true) (k40 : PySem.W.keepIn K (.ref f40) = true)
    (a41 : PySem.W.nsIn K mainGlobals "_law_right" = some (some (.ref f41))) (l41 : K.lookup f41 = some ⟨oc41, od41, .func (PySem.W.fnOf "_law_right" "_law_right" (defArgs s_right) (defBody s_right) (defScope s_right) .none kV41 dc41 pm41 an41 cd41 ct41), sl41⟩) (c41 : PySem.W.codeIn K cd41 "_law_right" = true) (k41 : PySem.W.keepIn K (.ref f41) = true)
    (a42 : PySem.W.nsIn K mainGlobals "law" = some (some (.ref f42))) (l42 : K.lookup f42 = some ⟨oc42, od42, .func (PySem.W.fnOf "law" "law" (defArgs s_law) (defBody s_law) (defScope s_law) .none kV42 dc42 pm42 an42 cd42 ct42), sl42⟩) (c42 : PySem.W.codeIn K cd42 "law" = true) (k42 : PySem.W.keepIn K (.ref f42) = true)
    (z_isinstance : PySem.W.nsIn K mainGlobals "isinstance" = some none)
    (z_len : PySem.W.nsIn K mainGlobals "len" = some none)
    (z_all : PySem.W.nsIn K mainGlobals "all" = some none)
    (z_repr : PySem.W.nsIn K mainGlobals "repr" = some none)
    (z_abs : PySem.W.nsIn K mainGlobals "abs" = some none)
    (z_max : PySem.W.nsIn K mainGlobals "max" = some none)
    (z_min : PySem.W.nsIn K mainGlobals "min" = some none)
    (z_sorted : PySem.W.nsIn K mainGlobals "sorted" = some none)
    (z_int : PySem.W.nsIn K mainGlobals "int" = some none)
    (z_bool : PySem.W.nsIn K mainGlobals "bool" = some none)
    (z_list : PySem.W.nsIn K mainGlobals "list" = some none)
    (z_tuple : PySem.W.nsIn K mainGlobals "tuple" = some none)
    (z_range : PySem.W.nsIn K mainGlobals "range" = some none)
    (z_enumerate : PySem.W.nsIn K mainGlobals "enumerate" = some none)
    (z_zip : PySem.W.nsIn K mainGlobals "zip" = some none)
    (z_ValueError : PySem.W.nsIn K mainGlobals "ValueError" = some none)
    {t_MOST_QUANTITIES : Tok} (v_MOST_QUANTITIES : PySem.W.nsIn K mainGlobals "MOST_QUANTITIES" = some (some (.int 20 t_MOST_QUANTITIES)))
    {t_MOST_NUDGES : Tok} (v_MOST_NUDGES : PySem.W.nsIn K mainGlobals "MOST_NUDGES" = some (some (.int 8 t_MOST_NUDGES)))
    {C_0 : Addr} {nm_0 q_0 : Str} {N_0 : Addr} {bs_0 : List Value} {sn_0 : List Str} {sub_0 : List Value} {ab_0 : Bool} {col_0 : Option Bool} {dd_0 : Option Addr} {w0_0 w1_0 w2_0 w3_0 w5_0 : Option Value}
    (g_0 : PySem.W.nsIn K mainGlobals "WebError" = some (some (.ref C_0))) (x_0 : K.lookup C_0 = some (excClassObj nm_0 q_0 C_0 N_0 bs_0 errTail true sn_0 sub_0 ab_0 col_0 dd_0 w0_0 w1_0 w2_0 w3_0 w5_0 "ValueError.__new__"))
    (k_0 : PySem.W.keepIn K (.ref C_0) = true) (t_0 : PySem.W.typeIn K (.ref C_0) = some (.type "type"))
    (hg_0 : PySem.W.findIn K (.ref C_0) "__getattribute__" = some (some (.builtin "BaseException.__getattribute__"))) (hk_0 : PySem.W.findIn K (.ref C_0) "__getattr__" = some none) (ha_0 : PySem.W.findIn K (.ref C_0) "__class__" = some (some (.builtin "object.__class__")))
    (e_0 : PySem.W.excIn K C_0 [.type "ValueError", .type "Exception", .type "BaseException", .type "object"] "ValueError.__new__" = true)
    {C_1 : Addr} {nm_1 q_1 : Str} {N_1 : Addr} {bs_1 : List Value} {sn_1 : List Str} {sub_1 : List Value} {ab_1 : Bool} {col_1 : Option Bool} {dd_1 : Option Addr} {w0_1 w1_1 w2_1 w3_1 w5_1 : Option Value}
    (g_1 : PySem.W.nsIn K mainGlobals "InvalidWeb" = some (some (.ref C_1))) (x_1 : K.lookup C_1 = some (excClassObj nm_1 q_1 C_1 N_1 bs_1 (.ref C_0 :: errTail) true sn_1 sub_1 ab_1 col_1 dd_1 w0_1 w1_1 w2_1 w3_1 w5_1 "ValueError.__new__"))
    (k_1 : PySem.W.keepIn K (.ref C_1) = true) (t_1 : PySem.W.typeIn K (.ref C_1) = some (.type "type"))
    (hg_1 : PySem.W.findIn K (.ref C_1) "__getattribute__" = some (some (.builtin "BaseException.__getattribute__"))) (hk_1 : PySem.W.findIn K (.ref C_1) "__getattr__" = some none) (ha_1 : PySem.W.findIn K (.ref C_1) "__class__" = some (some (.builtin "object.__class__")))
    (e_1 : PySem.W.excIn K C_1 [.type "ValueError", .type "Exception", .type "BaseException", .type "object"] "ValueError.__new__" = true)
    {C_2 : Addr} {nm_2 q_2 : Str} {N_2 : Addr} {bs_2 : List Value} {sn_2 : List Str} {sub_2 : List Value} {ab_2 : Bool} {col_2 : Option Bool} {dd_2 : Option Addr} {w0_2 w1_2 w2_2 w3_2 w5_2 : Option Value}
    (g_2 : PySem.W.nsIn K mainGlobals "InvalidSource" = some (some (.ref C_2))) (x_2 : K.lookup C_2 = some (excClassObj nm_2 q_2 C_2 N_2 bs_2 (.ref C_0 :: errTail) true sn_2 sub_2 ab_2 col_2 dd_2 w0_2 w1_2 w2_2 w3_2 w5_2 "ValueError.__new__"))
    (k_2 : PySem.W.keepIn K (.ref C_2) = true) (t_2 : PySem.W.typeIn K (.ref C_2) = some (.type "type"))
    (hg_2 : PySem.W.findIn K (.ref C_2) "__getattribute__" = some (some (.builtin "BaseException.__getattribute__"))) (hk_2 : PySem.W.findIn K (.ref C_2) "__getattr__" = some none) (ha_2 : PySem.W.findIn K (.ref C_2) "__class__" = some (some (.builtin "object.__class__")))
    (e_2 : PySem.W.excIn K C_2 [.type "ValueError", .type "Exception", .type "BaseException", .type "object"] "ValueError.__new__" = true)
    {C_3 : Addr} {nm_3 q_3 : Str} {N_3 : Addr} {bs_3 : List Value} {sn_3 : List Str} {sub_3 : List Value} {ab_3 : Bool} {col_3 : Option Bool} {dd_3 : Option Addr} {w0_3 w1_3 w2_3 w3_3 w5_3 : Option Value}
    (g_3 : PySem.W.nsIn K mainGlobals "InvalidQuantity" = some (some (.ref C_3))) (x_3 : K.lookup C_3 = some (excClassObj nm_3 q_3 C_3 N_3 bs_3 (.ref C_0 :: errTail) true sn_3 sub_3 ab_3 col_3 dd_3 w0_3 w1_3 w2_3 w3_3 w5_3 "ValueError.__new__"))
    (k_3 : PySem.W.keepIn K (.ref C_3) = true) (t_3 : PySem.W.typeIn K (.ref C_3) = some (.type "type"))
    (hg_3 : PySem.W.findIn K (.ref C_3) "__getattribute__" = some (some (.builtin "BaseException.__getattribute__"))) (hk_3 : PySem.W.findIn K (.ref C_3) "__getattr__" = some none) (ha_3 : PySem.W.findIn K (.ref C_3) "__class__" = some (some (.builtin "object.__class__")))
    (e_3 : PySem.W.excIn K C_3 [.type "ValueError", .type "Exception", .type "BaseException", .type "object"] "ValueError.__new__" = true)
    {C_4 : Addr} {nm_4 q_4 : Str} {N_4 : Addr} {bs_4 : List Value} {sn_4 : List Str} {sub_4 : List Value} {ab_4 : Bool} {col_4 : Option Bool} {dd_4 : Option Addr} {w0_4 w1_4 w2_4 w3_4 w5_4 : Option Value}
    (g_4 : PySem.W.nsIn K mainGlobals "InvalidTargets" = some (some (.ref C_4))) (x_4 : K.lookup C_4 = some (excClassObj nm_4 q_4 C_4 N_4 bs_4 (.ref C_0 :: errTail) true sn_4 sub_4 ab_4 col_4 dd_4 w0_4 w1_4 w2_4 w3_4 w5_4 "ValueError.__new__"))
    (k_4 : PySem.W.keepIn K (.ref C_4) = true) (t_4 : PySem.W.typeIn K (.ref C_4) = some (.type "type"))
    (hg_4 : PySem.W.findIn K (.ref C_4) "__getattribute__" = some (some (.builtin "BaseException.__getattribute__"))) (hk_4 : PySem.W.findIn K (.ref C_4) "__getattr__" = some none) (ha_4 : PySem.W.findIn K (.ref C_4) "__class__" = some (some (.builtin "object.__class__")))
    (e_4 : PySem.W.excIn K C_4 [.type "ValueError", .type "Exception", .type "BaseException", .type "object"] "ValueError.__new__" = true)
    {C_5 : Addr} {nm_5 q_5 : Str} {N_5 : Addr} {bs_5 : List Value} {sn_5 : List Str} {sub_5 : List Value} {ab_5 : Bool} {col_5 : Option Bool} {dd_5 : Option Addr} {w0_5 w1_5 w2_5 w3_5 w5_5 : Option Value}
    (g_5 : PySem.W.nsIn K mainGlobals "InvalidNudge" = some (some (.ref C_5))) (x_5 : K.lookup C_5 = some (excClassObj nm_5 q_5 C_5 N_5 bs_5 (.ref C_0 :: errTail) true sn_5 sub_5 ab_5 col_5 dd_5 w0_5 w1_5 w2_5 w3_5 w5_5 "ValueError.__new__"))
    (k_5 : PySem.W.keepIn K (.ref C_5) = true) (t_5 : PySem.W.typeIn K (.ref C_5) = some (.type "type"))
    (hg_5 : PySem.W.findIn K (.ref C_5) "__getattribute__" = some (some (.builtin "BaseException.__getattribute__"))) (hk_5 : PySem.W.findIn K (.ref C_5) "__getattr__" = some none) (ha_5 : PySem.W.findIn K (.ref C_5) "__class__" = some (some (.builtin "object.__class__")))
    (e_5 : PySem.W.excIn K C_5 [.type "ValueError", .type "Exception", .type "BaseException", .type "object"] "ValueError.__new__" = true)
    {C_6 : Addr} {nm_6 q_6 : Str} {N_6 : Addr} {bs_6 : List Value} {sn_6 : List Str} {sub_6 : List Value} {ab_6 : Bool} {col_6 : Option Bool} {dd_6 : Option Addr} {w0_6 w1_6 w2_6 w3_6 w5_6 : Option Value}
    (g_6 : PySem.W.nsIn K mainGlobals "InvalidOrder" = some (some (.ref C_6))) (x_6 : K.lookup C_6 = some (excClassObj nm_6 q_6 C_6 N_6 bs_6 (.ref C_0 :: errTail) true sn_6 sub_6 ab_6 col_6 dd_6 w0_6 w1_6 w2_6 w3_6 w5_6 "ValueError.__new__"))
    (k_6 : PySem.W.keepIn K (.ref C_6) = true) (t_6 : PySem.W.typeIn K (.ref C_6) = some (.type "type"))
    (hg_6 : PySem.W.findIn K (.ref C_6) "__getattribute__" = some (some (.builtin "BaseException.__getattribute__"))) (hk_6 : PySem.W.findIn K (.ref C_6) "__getattr__" = some none) (ha_6 : PySem.W.findIn K (.ref C_6) "__class__" = some (some (.builtin "object.__class__")))
    (e_6 : PySem.W.excIn K C_6 [.type "ValueError", .type "Exception", .type "BaseException", .type "object"] "ValueError.__new__" = true)
    {C_7 : Addr} {nm_7 q_7 : Str} {N_7 : Addr} {bs_7 : List Value} {sn_7 : List Str} {sub_7 : List Value} {ab_7 : Bool} {col_7 : Option Bool} {dd_7 : Option Addr} {w0_7 w1_7 w2_7 w3_7 w5_7 : Option Value}
    (g_7 : PySem.W.nsIn K mainGlobals "InvalidLinks" = some (some (.ref C_7))) (x_7 : K.lookup C_7 = some (excClassObj nm_7 q_7 C_7 N_7 bs_7 (.ref C_0 :: errTail) true sn_7 sub_7 ab_7 col_7 dd_7 w0_7 w1_7 w2_7 w3_7 w5_7 "ValueError.__new__"))
    (k_7 : PySem.W.keepIn K (.ref C_7) = true) (t_7 : PySem.W.typeIn K (.ref C_7) = some (.type "type"))
    (hg_7 : PySem.W.findIn K (.ref C_7) "__getattribute__" = some (some (.builtin "BaseException.__getattribute__"))) (hk_7 : PySem.W.findIn K (.ref C_7) "__getattr__" = some none) (ha_7 : PySem.W.findIn K (.ref C_7) "__class__" = some (some (.builtin "object.__class__")))
    (e_7 : PySem.W.excIn K C_7 [.type "ValueError", .type "Exception", .type "BaseException", .type "object"] "ValueError.__new__" = true)
    {C_8 : Addr} {nm_8 q_8 : Str} {N_8 : Addr} {bs_8 : List Value} {sn_8 : List Str} {sub_8 : List Value} {ab_8 : Bool} {col_8 : Option Bool} {dd_8 : Option Addr} {w0_8 w1_8 w2_8 w3_8 w5_8 : Option Value}
    (g_8 : PySem.W.nsIn K mainGlobals "NoLine" = some (some (.ref C_8))) (x_8 : K.lookup C_8 = some (excClassObj nm_8 q_8 C_8 N_8 bs_8 (.ref C_0 :: errTail) true sn_8 sub_8 ab_8 col_8 dd_8 w0_8 w1_8 w2_8 w3_8 w5_8 "ValueError.__new__"))
    (k_8 : PySem.W.keepIn K (.ref C_8) = true) (t_8 : PySem.W.typeIn K (.ref C_8) = some (.type "type"))
    (hg_8 : PySem.W.findIn K (.ref C_8) "__getattribute__" = some (some (.builtin "BaseException.__getattribute__"))) (hk_8 : PySem.W.findIn K (.ref C_8) "__getattr__" = some none) (ha_8 : PySem.W.findIn K (.ref C_8) "__class__" = some (some (.builtin "object.__class__")))
    (e_8 : PySem.W.excIn K C_8 [.type "ValueError", .type "Exception", .type "BaseException", .type "object"] "ValueError.__new__" = true)
    {C_9 : Addr} {nm_9 q_9 : Str} {N_9 : Addr} {bs_9 : List Value} {sn_9 : List Str} {sub_9 : List Value} {ab_9 : Bool} {col_9 : Option Bool} {dd_9 : Option Addr} {w0_9 w1_9 w2_9 w3_9 w5_9 : Option Value}
    (g_9 : PySem.W.nsIn K mainGlobals "LineThere" = some (some (.ref C_9))) (x_9 : K.lookup C_9 = some (excClassObj nm_9 q_9 C_9 N_9 bs_9 (.ref C_0 :: errTail) true sn_9 sub_9 ab_9 col_9 dd_9 w0_9 w1_9 w2_9 w3_9 w5_9 "ValueError.__new__"))
    (k_9 : PySem.W.keepIn K (.ref C_9) = true) (t_9 : PySem.W.typeIn K (.ref C_9) = some (.type "type"))
    (hg_9 : PySem.W.findIn K (.ref C_9) "__getattribute__" = some (some (.builtin "BaseException.__getattribute__"))) (hk_9 : PySem.W.findIn K (.ref C_9) "__getattr__" = some none) (ha_9 : PySem.W.findIn K (.ref C_9) "__class__" = some (some (.builtin "object.__class__")))
    (e_9 : PySem.W.excIn K C_9 [.type "ValueError", .type "Exception", .type "BaseException", .type "object"] "ValueError.__new__" = true)
    {C_10 : Addr} {nm_10 q_10 : Str} {N_10 : Addr} {bs_10 : List Value} {sn_10 : List Str} {sub_10 : List Value} {ab_10 : Bool} {col_10 : Option Bool} {dd_10 : Option Addr} {w0_10 w1_10 w2_10 w3_10 w5_10 : Option Value}
    (g_10 : PySem.W.nsIn K mainGlobals "TooLarge" = some (some (.ref C_10))) (x_10 : K.lookup C_10 = some (excClassObj nm_10 q_10 C_10 N_10 bs_10 (.ref C_0 :: errTail) true sn_10 sub_10 ab_10 col_10 dd_10 w0_10 w1_10 w2_10 w3_10 w5_10 "ValueError.__new__"))
    (k_10 : PySem.W.keepIn K (.ref C_10) = true) (t_10 : PySem.W.typeIn K (.ref C_10) = some (.type "type"))
    (hg_10 : PySem.W.findIn K (.ref C_10) "__getattribute__" = some (some (.builtin "BaseException.__getattribute__"))) (hk_10 : PySem.W.findIn K (.ref C_10) "__getattr__" = some none) (ha_10 : PySem.W.findIn K (.ref C_10) "__class__" = some (some (.builtin "object.__class__")))
    (hn_ : PySem.W.specialIn K (.builtin "object.__class__") "__get__" = some (some (.builtin "getset_descriptor.__get__"))) (ht_ : PySem.W.takesIn K (.builtin "object.__class__") = some true)
    {fI_10 : Addr} {odI_10 anI_10 : Option Addr} {slI_10 : Array (Option Value)} {ocI_10 dcI_10 pmI_10 cdI_10 ctI_10 : Value} {p1_10 p2_10 q1_10 q2_10 q3_10 q4_10 : Pos}
    (sa_10 : PySem.W.findIn K (.ref C_10) "__setattr__" = some (some (.builtin "object.__setattr__"))) (nb_10 : PySem.W.findIn K (.ref C_10) "limit" = some none) (aI_10 : PySem.W.findIn K (.ref C_10) "__init__" = some (some (.ref fI_10)))
    (tI_10 : PySem.W.typeIn K (.ref fI_10) = some (.type "function")) (lI_10 : K.lookup fI_10 = some ⟨ocI_10, odI_10, .func (PySem.W.fnOf "__init__" "TooLarge.__init__" (PySem.BigX.iA p1_10 p2_10) (PySem.BigX.iB q1_10 q2_10 q3_10 q4_10) PySem.BigX.iS .none .none dcI_10 pmI_10 anI_10 cdI_10 ctI_10), slI_10⟩) (cI_10 : PySem.W.codeIn K cdI_10 "TooLarge.__init__" = true)
    (nd_ : [C_0, C_1, C_2, C_3, C_4, C_5, C_6, C_7, C_8, C_9, C_10].Nodup)
    : ∃ fd : FuncData, (∀ (s : Shared) (v : Value), BindsTo s fd ⟨[v], []⟩ [("_law_script", v)]) ∧ ∀ base : Heap, K.In base → base.Ns mainGlobals mg → SysAt base → FnG l.prog w K mg base CX0 12 fa fd ["_law_script"] (sp_law K) := by
  have e := hfa.symm.trans (PySem.W.mg_of X G a42)
  cases e
  have ap : ∀ i j, i < 11 → j < 11 → ([C_0, C_1, C_2, C_3, C_4, C_5, C_6, C_7, C_8, C_9, C_10].getD i 0 = [C_0, C_1, C_2, C_3, C_4, C_5, C_6, C_7, C_8, C_9, C_10].getD j 0 ↔ i = j) := fun i j hi hj => apart_at nd_ hi hj
  have M_0 : MroAt K C_0 C_0 := mroAt_base x_0
  have M_1 : MroAt K C_0 C_1 := mroAt_of x_1 fun z => absurd ((ap 1 0 (by decide) (by decide)).mp z) (by decide)
  have M_2 : MroAt K C_0 C_2 := mroAt_of x_2 fun z => absurd ((ap 2 0 (by decide) (by decide)).mp z) (by decide)
  have M_3 : MroAt K C_0 C_3 := mroAt_of x_3 fun z => absurd ((ap 3 0 (by decide) (by decide)).mp z) (by decide)
  have M_4 : MroAt K C_0 C_4 := mroAt_of x_4 fun z => absurd ((ap 4 0 (by decide) (by decide)).mp z) (by decide)
  have M_5 : MroAt K C_0 C_5 := mroAt_of x_5 fun z => absurd ((ap 5 0 (by decide) (by decide)).mp z) (by decide)
  have M_6 : MroAt K C_0 C_6 := mroAt_of x_6 fun z => absurd ((ap 6 0 (by decide) (by decide)).mp z) (by decide)
  have M_7 : MroAt K C_0 C_7 := mroAt_of x_7 fun z => absurd ((ap 7 0 (by decide) (by decide)).mp z) (by decide)
  have M_8 : MroAt K C_0 C_8 := mroAt_of x_8 fun z => absurd ((ap 8 0 (by decide) (by decide)).mp z) (by decide)
  have M_9 : MroAt K C_0 C_9 := mroAt_of x_9 fun z => absurd ((ap 9 0 (by decide) (by decide)).mp z) (by decide)
  have M_10 : MroAt K C_0 C_10 := mroAt_of x_10 fun z => absurd ((ap 10 0 (by decide) (by decide)).mp z) (by decide)
  have M : ∀ i, i < 11 → MroAt K C_0 ([C_0, C_1, C_2, C_3, C_4, C_5, C_6, C_7, C_8, C_9, C_10].getD i 0) := fun i hi => match i, hi with | 0, _ => M_0 | 1, _ => M_1 | 2, _ => M_2 | 3, _ => M_3 | 4, _ => M_4 | 5, _ => M_5 | 6, _ => M_6 | 7, _ => M_7 | 8, _ => M_8 | 9, _ => M_9 | 10, _ => M_10 | (k + 11), h => absurd h (Nat.not_lt.mpr (Nat.le_add_left _ _))
  have Y : ∀ i, i < 11 → PySem.W.typeIn K (.ref ([C_0, C_1, C_2, C_3, C_4, C_5, C_6, C_7, C_8, C_9, C_10].getD i 0)) = some (.type "type") := fun i hi => match i, hi with | 0, _ => t_0 | 1, _ => t_1 | 2, _ => t_2 | 3, _ => t_3 | 4, _ => t_4 | 5, _ => t_5 | 6, _ => t_6 | 7, _ => t_7 | 8, _ => t_8 | 9, _ => t_9 | 10, _ => t_10 | (k + 11), h => absurd h (Nat.not_lt.mpr (Nat.le_add_left _ _))
  have Q : ∀ i, i < 11 → L2.ExcC K ([C_0, C_1, C_2, C_3, C_4, C_5, C_6, C_7, C_8, C_9, C_10].getD i 0) := fun i hi => match i, hi with | 0, _ => excC_of M_0 hg_0 hk_0 ha_0 hn_ ht_ | 1, _ => excC_of M_1 hg_1 hk_1 ha_1 hn_ ht_ | 2, _ => excC_of M_2 hg_2 hk_2 ha_2 hn_ ht_ | 3, _ => excC_of M_3 hg_3 hk_3 ha_3 hn_ ht_ | 4, _ => excC_of M_4 hg_4 hk_4 ha_4 hn_ ht_ | 5, _ => excC_of M_5 hg_5 hk_5 ha_5 hn_ ht_ | 6, _ => excC_of M_6 hg_6 hk_6 ha_6 hn_ ht_ | 7, _ => excC_of M_7 hg_7 hk_7 ha_7 hn_ ht_ | 8, _ => excC_of M_8 hg_8 hk_8 ha_8 hn_ ht_ | 9, _ => excC_of M_9 hg_9 hk_9 ha_9 hn_ ht_ | 10, _ => excC_of M_10 hg_10 hk_10 ha_10 hn_ ht_ | (k + 11), h => absurd h (Nat.not_lt.mpr (Nat.le_add_left _ _))
  have big : PySem.BigX.BigTxt K mg C_10 fI_10 :=
    { gC := PySem.W.mg_of X G g_10, cls := ⟨_, _, _, _, _, _, _, _, _, _, _, _, _, _, _, x_10, by rfl⟩, sa := sa_10, ga := hg_10, gg := hk_10, noN := nb_10, iC := aI_10, tC := tI_10, kC := k_10, exC := (Q 10 (by decide)).hs, tyC := t_10, hdC := (Q 10 (by decide)).hd, te := exm_of (Q 10 (by decide)).hs (by obtain ⟨cd, h1, _⟩ := M_10; unfold PySem.W.isClsIn; rw [h1]; rfl) t_10 ((mro_ref M_10).trans (congrArg some (decide_eq_true (.inl rfl)))), fn := ⟨_, _, _, _, _, _, _, _, _, _, _, _, _, _, lI_10, cI_10⟩ }
  have FM : Fam K mg (fun i => [C_0, C_1, C_2, C_3, C_4, C_5, C_6, C_7, C_8, C_9, C_10].getD i 0) fI_10 fI_10 :=
    ⟨PySem.W.mg_of X G g_0, PySem.W.mg_of X G g_1, PySem.W.mg_of X G g_2, PySem.W.mg_of X G g_3, PySem.W.mg_of X G g_4, PySem.W.mg_of X G g_5, PySem.W.mg_of X G g_6, PySem.W.mg_of X G g_7, PySem.W.mg_of X G g_8, PySem.W.mg_of X G g_9, PySem.W.mg_of X G g_10,
      fun i hi => match i, hi with | 0, _ => g_0 | 1, _ => g_1 | 2, _ => g_2 | 3, _ => g_3 | 4, _ => g_4 | 5, _ => g_5 | 6, _ => g_6 | 7, _ => g_7 | 8, _ => g_8 | 9, _ => g_9 | 10, _ => g_10 | (k + 11), h => absurd h (Nat.not_lt.mpr (Nat.le_add_left _ _)),
      fun i hi => match i, hi with | 0, _ => k_0 | 1, _ => k_1 | 2, _ => k_2 | 3, _ => k_3 | 4, _ => k_4 | 5, _ => k_5 | 6, _ => k_6 | 7, _ => k_7 | 8, _ => k_8 | 9, _ => k_9 | 10, _ => k_10 | (k + 11), h => absurd h (Nat.not_lt.mpr (Nat.le_add_left _ _)),
      fun i hi => match i, hi with | 0, _ => e_0 | 1, _ => e_1 | 2, _ => e_2 | 3, _ => e_3 | 4, _ => e_4 | 5, _ => e_5 | 6, _ => e_6 | 7, _ => e_7 | 8, _ => e_8 | 9, _ => e_9 | (k + 10), h => absurd h (Nat.not_lt.mpr (Nat.le_add_left _ _)),
      Q,
      fun i j hi hj => (kit_ref (M i hi) (M j hj) (Y j hj)).trans (congrArg some (decide_eq_decide.mpr (or_congr (ap i j hi hj) (ap j 0 hj (by decide))))),
      fun i hi => kit_val (M i hi), big, fun i hi => exm_two (Q 0 (by decide)).hs (by obtain ⟨cd, h1, _⟩ := M_0; unfold PySem.W.isClsIn; show (PySem.W.clsIn K C_0).isSome = true; rw [h1]; rfl) t_0 ((mro_ref (M i hi)).trans (congrArg some (decide_eq_true (.inr rfl)))), Y⟩
  have T : Txt K mg := ⟨PySem.W.mg_none_of X G z_isinstance, PySem.W.mg_none_of X G z_len, PySem.W.mg_none_of X G z_all, PySem.W.mg_none_of X G z_repr, PySem.W.mg_none_of X G z_abs, PySem.W.mg_none_of X G z_max, PySem.W.mg_none_of X G z_min, PySem.W.mg_none_of X G z_sorted, PySem.W.mg_none_of X G z_int, PySem.W.mg_none_of X G z_bool, PySem.W.mg_none_of X G z_list, PySem.W.mg_none_of X G z_tuple, PySem.W.mg_none_of X G z_range, PySem.W.mg_none_of X G z_enumerate, PySem.W.mg_none_of X G z_zip, PySem.W.mg_none_of X G z_ValueError, ⟨_, PySem.W.mg_of X G v_MOST_QUANTITIES⟩, ⟨_, PySem.W.mg_of X G v_MOST_NUDGES⟩, ⟨_, _, _, FM⟩⟩
  refine ⟨PySem.W.fnOf "law" "law" (defArgs s_law) (defBody s_law) (defScope s_law) .none kV42 dc42 pm42 an42 cd42 ct42, fun s v => .of_eq rfl, fun base _ _ SM => ?_⟩
  have F0 := fun_mk (st := s_purse) l0 c0 k0
  have G0 := ok_purse (P := l.prog) (w := w) (base := base) T F0 
  have B0 := F0.binds (ps := P_purse) fun _ _ _ _ _ _ us hl => match us, hl with | [_, _], _ => rfl
  have D_purse : DefOk l.prog w K mg base CX0 1 "_law_purse" P_purse (sp_purse K) := ⟨f0, _, G0, PySem.W.mg_of X G a0, k0, B0⟩
  have F1 := fun_mk (st := s_kind) l1 c1 k1
  have G1 := ok_kind (P := l.prog) (w := w) (base := base) T F1 
  have B1 := F1.binds (ps := P_kind) fun _ _ _ _ _ _ us hl => match us, hl with | [_], _ => rfl
  have D_kind : DefOk l.prog w K mg base CX0 1 "_law_kind" P_kind (sp_kind K) := ⟨f1, _, G1, PySem.W.mg_of X G a1, k1, B1⟩
  have F2 := fun_mk (st := s_is_integer) l2 c2 k2
  have G2 := ok_is_integer (P := l.prog) (w := w) (base := base) T F2 
  have B2 := F2.binds (ps := P_is_integer) fun _ _ _ _ _ _ us hl => match us, hl with | [_], _ => rfl
  have D_is_integer : DefOk l.prog w K mg base CX0 1 "is_integer" P_is_integer (sp_is_integer K) := ⟨f2, _, G2, PySem.W.mg_of X G a2, k2, B2⟩
  have F3 := fun_mk (st := s_is_number_below) l3 c3 k3
  have G3 := ok_is_number_below (P := l.prog) (w := w) (base := base) T F3 D_is_integer
  have B3 := F3.binds (ps := P_is_number_below) fun _ _ _ _ _ _ us hl => match us, hl with | [_, _], _ => rfl
  have D_is_number_below : DefOk l.prog w K mg base CX0 2 "is_number_below" P_is_number_below (sp_is_number_below K) := ⟨f3, _, G3, PySem.W.mg_of X G a3, k3, B3⟩
  have F4 := fun_mk (st := s_is_tuple_below) l4 c4 k4
  have G4 := ok_is_tuple_below (P := l.prog) (w := w) (base := base) T F4 D_is_number_below
  have B4 := F4.binds (ps := P_is_tuple_below) fun _ _ _ _ _ _ us hl => match us, hl with | [_, _, _], _ => rfl
  have D_is_tuple_below : DefOk l.prog w K mg base CX0 3 "is_tuple_below" P_is_tuple_below (sp_is_tuple_below K) := ⟨f4, _, G4, PySem.W.mg_of X G a4, k4, B4⟩
  have F5 := fun_mk (st := s_are_ascending) l5 c5 k5
  have G5 := ok_are_ascending (P := l.prog) (w := w) (base := base) T F5 
  have B5 := F5.binds (ps := P_are_ascending) fun _ _ _ _ _ _ us hl => match us, hl with | [_], _ => rfl
  have D_are_ascending : DefOk l.prog w K mg base CX0 1 "are_ascending" P_are_ascending (sp_are_ascending K) := ⟨f5, _, G5, PySem.W.mg_of X G a5, k5, B5⟩
  have F6 := fun_mk (st := s_are_ascending_tuples) l6 c6 k6
  have G6 := ok_are_ascending_tuples (P := l.prog) (w := w) (base := base) T F6 D_is_tuple_below D_are_ascending
  have B6 := F6.binds (ps := P_are_ascending_tuples) fun _ _ _ _ _ _ us hl => match us, hl with | [_, _, _], _ => rfl
  have D_are_ascending_tuples : DefOk l.prog w K mg base CX0 4 "are_ascending_tuples" P_are_ascending_tuples (sp_are_ascending_tuples K) := ⟨f6, _, G6, PySem.W.mg_of X G a6, k6, B6⟩
  have F7 := fun_mk (st := s_are_below) l7 c7 k7
  have G7 := ok_are_below (P := l.prog) (w := w) (base := base) T F7 D_is_number_below
  have B7 := F7.binds (ps := P_are_below) fun _ _ _ _ _ _ us hl => match us, hl with | [_, _], _ => rfl
  have D_are_below : DefOk l.prog w K mg base CX0 3 "are_below" P_are_below (sp_are_below K) := ⟨f7, _, G7, PySem.W.mg_of X G a7, k7, B7⟩
  have F8 := fun_mk (st := s_are_targets) l8 c8 k8
  have G8 := ok_are_targets (P := l.prog) (w := w) (base := base) T F8 D_are_below D_are_ascending
  have B8 := F8.binds (ps := P_are_targets) fun _ _ _ _ _ _ us hl => match us, hl with | [_, _], _ => rfl
  have D_are_targets : DefOk l.prog w K mg base CX0 4 "are_targets" P_are_targets (sp_are_targets K) := ⟨f8, _, G8, PySem.W.mg_of X G a8, k8, B8⟩
  have F9 := fun_mk (st := s_are_nudges) l9 c9 k9
  have G9 := ok_are_nudges (P := l.prog) (w := w) (base := base) T F9 D_are_targets
  have B9 := F9.binds (ps := P_are_nudges) fun _ _ _ _ _ _ us hl => match us, hl with | [_, _], _ => rfl
  have D_are_nudges : DefOk l.prog w K mg base CX0 5 "are_nudges" P_are_nudges (sp_are_nudges K) := ⟨f9, _, G9, PySem.W.mg_of X G a9, k9, B9⟩
  have F10 := fun_mk (st := s_has_web_shape) l10 c10 k10
  have G10 := ok_has_web_shape (P := l.prog) (w := w) (base := base) T F10 D_is_integer D_are_ascending_tuples D_are_nudges
  have B10 := F10.binds (ps := P_has_web_shape) fun _ _ _ _ _ _ us hl => match us, hl with | [_], _ => rfl
  have D_has_web_shape : DefOk l.prog w K mg base CX0 6 "has_web_shape" P_has_web_shape (sp_has_web_shape K) := ⟨f10, _, G10, PySem.W.mg_of X G a10, k10, B10⟩
  have F11 := fun_mk (st := s_check_web) l11 c11 k11
  have G11 := ok_check_web (P := l.prog) (w := w) (base := base) T F11 D_has_web_shape
  have B11 := F11.binds (ps := P_check_web) fun _ _ _ _ _ _ us hl => match us, hl with | [_], _ => rfl
  have D_check_web : DefOk l.prog w K mg base (L2.CX l.prog w) 7 "check_web" P_check_web (sp_check_web K) := ⟨f11, _, G11, PySem.W.mg_of X G a11, k11, B11⟩
  have F12 := fun_mk (st := s_check_source) l12 c12 k12
  have G12 := ok_check_source (P := l.prog) (w := w) (base := base) T F12 D_is_number_below
  have B12 := F12.binds (ps := P_check_source) fun _ _ _ _ _ _ us hl => match us, hl with | [_, _], _ => rfl
  have D_check_source : DefOk l.prog w K mg base (L2.CX l.prog w) 3 "check_source" P_check_source (sp_check_source K) := ⟨f12, _, G12, PySem.W.mg_of X G a12, k12, B12⟩
  have F13 := fun_mk (st := s_all_lines) l13 c13 k13
  have G13 := ok_all_lines (P := l.prog) (w := w) (base := base) T F13 
  have B13 := F13.binds (ps := P_all_lines) fun _ _ _ _ _ _ us hl => match us, hl with | [_], _ => rfl
  have D_all_lines : DefOk l.prog w K mg base CX0 1 "all_lines" P_all_lines (sp_all_lines K) := ⟨f13, _, G13, PySem.W.mg_of X G a13, k13, B13⟩
  have F14 := fun_mk (st := s_target_rows) l14 c14 k14
  have G14 := ok_target_rows (P := l.prog) (w := w) (base := base) T F14 D_all_lines
  have B14 := F14.binds (ps := P_target_rows) fun _ _ _ _ _ _ us hl => match us, hl with | [_], _ => rfl
  have D_target_rows : DefOk l.prog w K mg base CX0 2 "target_rows" P_target_rows (sp_target_rows K) := ⟨f14, _, G14, PySem.W.mg_of X G a14, k14, B14⟩
  have F15 := fun_mk (st := s_targets_of) l15 c15 k15
  have G15 := ok_targets_of (P := l.prog) (w := w) (base := base) T F15 D_check_web D_check_source D_target_rows
  have B15 := F15.binds (ps := P_targets_of) fun _ _ _ _ _ _ us hl => match us, hl with | [_, _], _ => rfl
  have D_targets_of : DefOk l.prog w K mg base (L2.CX l.prog w) 8 "targets_of" P_targets_of (sp_targets_of K) := ⟨f15, _, G15, PySem.W.mg_of X G a15, k15, B15⟩
  have F16 := fun_mk (st := s_check_quantity) l16 c16 k16
  have G16 := ok_check_quantity (P := l.prog) (w := w) (base := base) T F16 D_is_number_below
  have B16 := F16.binds (ps := P_check_quantity) fun _ _ _ _ _ _ us hl => match us, hl with | [_, _], _ => rfl
  have D_check_quantity : DefOk l.prog w K mg base (L2.CX l.prog w) 3 "check_quantity" P_check_quantity (sp_check_quantity K) := ⟨f16, _, G16, PySem.W.mg_of X G a16, k16, B16⟩
  have F17 := fun_mk (st := s_source_rows) l17 c17 k17
  have G17 := ok_source_rows (P := l.prog) (w := w) (base := base) T F17 D_all_lines
  have B17 := F17.binds (ps := P_source_rows) fun _ _ _ _ _ _ us hl => match us, hl with | [_], _ => rfl
  have D_source_rows : DefOk l.prog w K mg base CX0 2 "source_rows" P_source_rows (sp_source_rows K) := ⟨f17, _, G17, PySem.W.mg_of X G a17, k17, B17⟩
  have F18 := fun_mk (st := s_sources_of) l18 c18 k18
  have G18 := ok_sources_of (P := l.prog) (w := w) (base := base) T F18 D_check_web D_check_quantity D_source_rows
  have B18 := F18.binds (ps := P_sources_of) fun _ _ _ _ _ _ us hl => match us, hl with | [_, _], _ => rfl
  have D_sources_of : DefOk l.prog w K mg base (L2.CX l.prog w) 8 "sources_of" P_sources_of (sp_sources_of K) := ⟨f18, _, G18, PySem.W.mg_of X G a18, k18, B18⟩
  have F19 := fun_mk (st := s_lines_of) l19 c19 k19
  have G19 := ok_lines_of (P := l.prog) (w := w) (base := base) T F19 D_check_web D_all_lines
  have B19 := F19.binds (ps := P_lines_of) fun _ _ _ _ _ _ us hl => match us, hl with | [_], _ => rfl
  have D_lines_of : DefOk l.prog w K mg base (L2.CX l.prog w) 8 "lines_of" P_lines_of (sp_lines_of K) := ⟨f19, _, G19, PySem.W.mg_of X G a19, k19, B19⟩
  have F20 := fun_mk (st := s_copied_nudges) l20 c20 k20
  have G20 := ok_copied_nudges (P := l.prog) (w := w) (base := base) T F20 
  have B20 := F20.binds (ps := P_copied_nudges) fun _ _ _ _ _ _ us hl => match us, hl with | [_], _ => rfl
  have D_copied_nudges : DefOk l.prog w K mg base CX0 1 "copied_nudges" P_copied_nudges (sp_copied_nudges K) := ⟨f20, _, G20, PySem.W.mg_of X G a20, k20, B20⟩
  have F21 := fun_mk (st := s_with_pair) l21 c21 k21
  have G21 := ok_with_pair (P := l.prog) (w := w) (base := base) T F21 D_check_web D_check_quantity D_copied_nudges
  have B21 := F21.binds (ps := P_with_pair) fun _ _ _ _ _ _ us hl => match us, hl with | [_, _, _], _ => rfl
  have D_with_pair : DefOk l.prog w K mg base (L2.CX l.prog w) 8 "with_pair" P_with_pair (sp_with_pair K) := ⟨f21, _, G21, PySem.W.mg_of X G a21, k21, B21⟩
  have F22 := fun_mk (st := s_without_pair) l22 c22 k22
  have G22 := ok_without_pair (P := l.prog) (w := w) (base := base) T F22 D_check_web D_check_quantity D_copied_nudges
  have B22 := F22.binds (ps := P_without_pair) fun _ _ _ _ _ _ us hl => match us, hl with | [_, _, _], _ => rfl
  have D_without_pair : DefOk l.prog w K mg base (L2.CX l.prog w) 8 "without_pair" P_without_pair (sp_without_pair K) := ⟨f22, _, G22, PySem.W.mg_of X G a22, k22, B22⟩
  have F23 := fun_mk (st := s_check_targets) l23 c23 k23
  have G23 := ok_check_targets (P := l.prog) (w := w) (base := base) T F23 D_are_targets
  have B23 := F23.binds (ps := P_check_targets) fun _ _ _ _ _ _ us hl => match us, hl with | [_, _], _ => rfl
  have D_check_targets : DefOk l.prog w K mg base (L2.CX l.prog w) 5 "check_targets" P_check_targets (sp_check_targets K) := ⟨f23, _, G23, PySem.W.mg_of X G a23, k23, B23⟩
  have F24 := fun_mk (st := s_with_nudge) l24 c24 k24
  have G24 := ok_with_nudge (P := l.prog) (w := w) (base := base) T F24 D_check_web D_check_targets D_copied_nudges
  have B24 := F24.binds (ps := P_with_nudge) fun _ _ _ _ _ _ us hl => match us, hl with | [_, _], _ => rfl
  have D_with_nudge : DefOk l.prog w K mg base (L2.CX l.prog w) 8 "with_nudge" P_with_nudge (sp_with_nudge K) := ⟨f24, _, G24, PySem.W.mg_of X G a24, k24, B24⟩
  have F25 := fun_mk (st := s_check_nudge) l25 c25 k25
  have G25 := ok_check_nudge (P := l.prog) (w := w) (base := base) T F25 D_is_number_below
  have B25 := F25.binds (ps := P_check_nudge) fun _ _ _ _ _ _ us hl => match us, hl with | [_, _], _ => rfl
  have D_check_nudge : DefOk l.prog w K mg base (L2.CX l.prog w) 3 "check_nudge" P_check_nudge (sp_check_nudge K) := ⟨f25, _, G25, PySem.W.mg_of X G a25, k25, B25⟩
  have F26 := fun_mk (st := s_without_nudge) l26 c26 k26
  have G26 := ok_without_nudge (P := l.prog) (w := w) (base := base) T F26 D_check_web D_check_nudge D_copied_nudges
  have B26 := F26.binds (ps := P_without_nudge) fun _ _ _ _ _ _ us hl => match us, hl with | [_, _], _ => rfl
  have D_without_nudge : DefOk l.prog w K mg base (L2.CX l.prog w) 8 "without_nudge" P_without_nudge (sp_without_nudge K) := ⟨f26, _, G26, PySem.W.mg_of X G a26, k26, B26⟩
  have F27 := fun_mk (st := s_turned) l27 c27 k27
  have G27 := ok_turned (P := l.prog) (w := w) (base := base) T F27 D_check_web D_copied_nudges
  have B27 := F27.binds (ps := P_turned) fun _ _ _ _ _ _ us hl => match us, hl with | [_], _ => rfl
  have D_turned : DefOk l.prog w K mg base (L2.CX l.prog w) 8 "turned" P_turned (sp_turned K) := ⟨f27, _, G27, PySem.W.mg_of X G a27, k27, B27⟩
  have F28 := fun_mk (st := s_are_all_below) l28 c28 k28
  have G28 := ok_are_all_below (P := l.prog) (w := w) (base := base) T F28 D_are_below
  have B28 := F28.binds (ps := P_are_all_below) fun _ _ _ _ _ _ us hl => match us, hl with | [_, _], _ => rfl
  have D_are_all_below : DefOk l.prog w K mg base CX0 4 "are_all_below" P_are_all_below (sp_are_all_below K) := ⟨f28, _, G28, PySem.W.mg_of X G a28, k28, B28⟩
  have F29 := fun_mk (st := s_check_order) l29 c29 k29
  have G29 := ok_check_order (P := l.prog) (w := w) (base := base) T F29 D_are_all_below
  have B29 := F29.binds (ps := P_check_order) fun _ _ _ _ _ _ us hl => match us, hl with | [_, _], _ => rfl
  have D_check_order : DefOk l.prog w K mg base (L2.CX l.prog w) 5 "check_order" P_check_order (sp_check_order K) := ⟨f29, _, G29, PySem.W.mg_of X G a29, k29, B29⟩
  have F30 := fun_mk (st := s_renumbered) l30 c30 k30
  have G30 := ok_renumbered (P := l.prog) (w := w) (base := base) T F30 D_check_web D_check_order
  have B30 := F30.binds (ps := P_renumbered) fun _ _ _ _ _ _ us hl => match us, hl with | [_, _], _ => rfl
  have D_renumbered : DefOk l.prog w K mg base (L2.CX l.prog w) 8 "renumbered" P_renumbered (sp_renumbered K) := ⟨f30, _, G30, PySem.W.mg_of X G a30, k30, B30⟩
  have F31 := fun_mk (st := s_check_links) l31 c31 k31
  have G31 := ok_check_links (P := l.prog) (w := w) (base := base) T F31 D_are_ascending_tuples
  have B31 := F31.binds (ps := P_check_links) fun _ _ _ _ _ _ us hl => match us, hl with | [_, _, _], _ => rfl
  have D_check_links : DefOk l.prog w K mg base (L2.CX l.prog w) 5 "check_links" P_check_links (sp_check_links K) := ⟨f31, _, G31, PySem.W.mg_of X G a31, k31, B31⟩
  have F32 := fun_mk (st := s_joined) l32 c32 k32
  have G32 := ok_joined (P := l.prog) (w := w) (base := base) T F32 D_check_web D_check_links D_copied_nudges
  have B32 := F32.binds (ps := P_joined) fun _ _ _ _ _ _ us hl => match us, hl with | [_, _, _], _ => rfl
  have D_joined : DefOk l.prog w K mg base (L2.CX l.prog w) 8 "joined" P_joined (sp_joined K) := ⟨f32, _, G32, PySem.W.mg_of X G a32, k32, B32⟩
  have F33 := fun_mk (st := s_call) l33 c33 k33
  have G33 := ok_call (P := l.prog) (w := w) (base := base) T F33 D_targets_of D_sources_of D_lines_of D_with_pair D_without_pair D_with_nudge D_without_nudge D_turned D_renumbered D_joined
  have B33 := F33.binds (ps := P_call) fun _ _ _ _ _ _ us hl => match us, hl with | [_, _], _ => rfl
  have D_call : DefOk l.prog w K mg base (L2.CX l.prog w) 9 "_law_call" P_call (sp_call K) := ⟨f33, _, G33, PySem.W.mg_of X G a33, k33, B33⟩
  have F34 := fun_mk (st := s_told) l34 c34 k34
  have G34 := ok_told (P := l.prog) (w := w) (base := base) T F34 SM D_kind D_call
  have B34 := F34.binds (ps := P_told) fun _ _ _ _ _ _ us hl => match us, hl with | [_, _], _ => rfl
  have D_told : DefOk l.prog w K mg base CX0 10 "_law_told" P_told (sp_told K) := ⟨f34, _, G34, PySem.W.mg_of X G a34, k34, B34⟩
  have F35 := fun_mk (st := s_coin) l35 c35 k35
  have G35 := ok_coin (P := l.prog) (w := w) (base := base) T F35 
  have B35 := F35.binds (ps := P_coin) fun _ _ _ _ _ _ us hl => match us, hl with | [_, _], _ => rfl
  have D_coin : DefOk l.prog w K mg base CX0 1 "_law_coin" P_coin (sp_coin K) := ⟨f35, _, G35, PySem.W.mg_of X G a35, k35, B35⟩
  have F36 := fun_mk (st := s_targets) l36 c36 k36
  have G36 := ok_targets (P := l.prog) (w := w) (base := base) T F36 D_coin
  have B36 := F36.binds (ps := P_targets) fun _ _ _ _ _ _ us hl => match us, hl with | [_, _], _ => rfl
  have D_targets : DefOk l.prog w K mg base CX0 2 "_law_targets" P_targets (sp_targets K) := ⟨f36, _, G36, PySem.W.mg_of X G a36, k36, B36⟩
  have F37 := fun_mk (st := s_web) l37 c37 k37
  have G37 := ok_web (P := l.prog) (w := w) (base := base) T F37 D_coin D_targets
  have B37 := F37.binds (ps := P_web) fun _ _ _ _ _ _ us hl => match us, hl with | [_, _, _], _ => rfl
  have D_web : DefOk l.prog w K mg base CX0 3 "_law_web" P_web (sp_web K) := ⟨f37, _, G37, PySem.W.mg_of X G a37, k37, B37⟩
  have F38 := fun_mk (st := s_numbers) l38 c38 k38
  have G38 := ok_numbers (P := l.prog) (w := w) (base := base) T F38 
  have B38 := F38.binds (ps := P_numbers) fun _ _ _ _ _ _ us hl => match us, hl with | [_], _ => rfl
  have D_numbers : DefOk l.prog w K mg base CX0 1 "_law_numbers" P_numbers (sp_numbers K) := ⟨f38, _, G38, PySem.W.mg_of X G a38, k38, B38⟩
  have F39 := fun_mk (st := s_bad) l39 c39 k39
  have G39 := ok_bad (P := l.prog) (w := w) (base := base) T F39 D_numbers
  have B39 := F39.binds (ps := P_bad) fun _ _ _ _ _ _ us hl => match us, hl with | [_, _], _ => rfl
  have D_bad : DefOk l.prog w K mg base CX0 2 "_law_bad" P_bad (sp_bad K) := ⟨f39, _, G39, PySem.W.mg_of X G a39, k39, B39⟩
  have F40 := fun_mk (st := s_due) l40 c40 k40
  have G40 := ok_due (P := l.prog) (w := w) (base := base) T F40 
  have B40 := F40.binds (ps := P_due) fun _ _ _ _ _ _ us hl => match us, hl with | [_, _, _], _ => rfl
  have D_due : DefOk l.prog w K mg base CX0 1 "_law_due" P_due (sp_due K) := ⟨f40, _, G40, PySem.W.mg_of X G a40, k40, B40⟩
  have F41 := fun_mk (st := s_right) l41 c41 k41
  have G41 := ok_right (P := l.prog) (w := w) (base := base) T F41 D_coin D_web D_told D_bad D_due
  have B41 := F41.binds (ps := P_right) fun _ _ _ _ _ _ us hl => match us, hl with | [_, _], _ => rfl
  have D_right : DefOk l.prog w K mg base CX0 11 "_law_right" P_right (sp_right K) := ⟨f41, _, G41, PySem.W.mg_of X G a41, k41, B41⟩
  have F42 := fun_mk (st := s_law) l42 c42 k42
  have G42 := ok_law (P := l.prog) (w := w) (base := base) T F42 D_purse D_told D_right
  exact G42
theorem walk {l : PySem.W.OpenLaw} {q : Program} {loose : List Str} {XP : (Str → Option Value) → Heap → Prop} {YP : World → Heap → Prop} {d : DefRec} {K : Params → PySem.W.Frag} (hi : PyProof.Rows.importsNone q = true) (hn : l.most = some 63) (hdf : d.params.defaults = [])
    (hY : ∀ (w : World) (h : Heap), YP w h → (K w.params).In h)
    (F : ∀ (w : World) (mg : Str → Option Value) (fa : Addr) (h : Heap), (K w.params).In h → h.Ns mainGlobals mg → mg d.name = some (.ref fa) →
      ∃ fd : FuncData, (∀ (s : Shared) (u : Value), BindsTo s fd ⟨[u], []⟩ [("_law_script", u)]) ∧ ∀ base : Heap, (K w.params).In base → base.Ns mainGlobals mg → SysAt base → FnG l.prog w (K w.params) mg base CX0 12 fa fd ["_law_script"] (sp_law (K w.params))) :
    PySem.W.WalkO q loose XP YP l.row.toRowW d [] (fun f vs => PySem.call f vs) :=
  walkS (n := 63) (k := 12) (x := "_law_script") (CX := fun _ => CX0) (sp := fun w => sp_law (K w.params)) hi hn (by decide) hdf ⟨rfl, by decide, by decide⟩ hY F (fun _ H a ns hl _ hS => sp_law_start hl hS) fun _ _ _ _ _ z => z
end K46
open PySem PySem.W PyProof.Rows in
set_option maxRecDepth 100000 in
set_option maxHeartbeats 0 in
theorem PySem.Challenge.cw_nudgewebs_k46_errors_of_webs_holds : PySem.Challenge.rw_nudgewebs_k46_errors_of_webs.Holds := by
  w_on; o_law; k_head; (case hw => w_witness2)
  k_fill
  refine K46.walk (l := PySem.Challenge.rw_nudgewebs_k46_errors_of_webs) (by decide +kernel) rfl rfl (fun w h Y => PySem.W.kIn_of Y) ?F
  case F =>
    intro w mg fa h KX G hmg
    refine' K46.all_mk KX G hmg ?a0 ?l0 ?c0 ?k0 ?a1 ?l1 ?c1 ?k1 ?a2 ?l2 ?c2 ?k2 ?a3 ?l3 ?c3 ?k3 ?a4 ?l4 ?c4 ?k4 ?a5 ?l5 ?c5 ?k5 ?a6 ?l6 ?c6 ?k6 ?a7 ?l7 ?c7 ?k7 ?a8 ?l8 ?c8 ?k8 ?a9 ?l9 ?c9 ?k9 ?a10 ?l10 ?c10 ?k10 ?a11 ?l11 ?c11 ?k11 ?a12 ?l12 ?c12 ?k12 ?a13 ?l13 ?c13 ?k13 ?a14 ?l14 ?c14 ?k14 ?a15 ?l15 ?c15 ?k15 ?a16 ?l16 ?c16 ?k16 ?a17 ?l17 ?c17 ?k17 ?a18 ?l18 ?c18 ?k18 ?a19 ?l19 ?c19 ?k19 ?a20 ?l20 ?c20 ?k20 ?a21 ?l21 ?c21 ?k21 ?a22 ?l22 ?c22 ?k22 ?a23 ?l23 ?c23 ?k23 ?a24 ?l24 ?c24 ?k24 ?a25 ?l25 ?c25 ?k25 ?a26 ?l26 ?c26 ?k26 ?a27 ?l27 ?c27 ?k27 ?a28 ?l28 ?c28 ?k28 ?a29 ?l29 ?c29 ?k29 ?a30 ?l30 ?c30 ?k30 ?a31 ?l31 ?c31 ?k31 ?a32 ?l32 ?c32 ?k32 ?a33 ?l33 ?c33 ?k33 ?a34 ?l34 ?c34 ?k34 ?a35 ?l35 ?c35 ?k35 ?a36 ?l36 ?c36 ?k36 ?a37 ?l37 ?c37 ?k37 ?a38 ?l38 ?c38 ?k38 ?a39 ?l39 ?c39 ?k39 ?a40 ?l40 ?c40 ?k40 ?a41 ?l41 ?c41 ?k41 ?a42 ?l42 ?c42 ?k42 ?z_isinstance ?z_len ?z_all ?z_repr ?z_abs ?z_max ?z_min ?z_sorted ?z_int ?z_bool ?z_list ?z_tuple ?z_range ?z_enumerate ?z_zip ?z_ValueError ?v_MOST_QUANTITIES ?v_MOST_NUDGES ?g_0 ?x_0 ?k_0 ?t_0 ?hg_0 ?hk_0 ?ha_0 ?e_0 ?g_1 ?x_1 ?k_1 ?t_1 ?hg_1 ?hk_1 ?ha_1 ?e_1 ?g_2 ?x_2 ?k_2 ?t_2 ?hg_2 ?hk_2 ?ha_2 ?e_2 ?g_3 ?x_3 ?k_3 ?t_3 ?hg_3 ?hk_3 ?ha_3 ?e_3 ?g_4 ?x_4 ?k_4 ?t_4 ?hg_4 ?hk_4 ?ha_4 ?e_4 ?g_5 ?x_5 ?k_5 ?t_5 ?hg_5 ?hk_5 ?ha_5 ?e_5 ?g_6 ?x_6 ?k_6 ?t_6 ?hg_6 ?hk_6 ?ha_6 ?e_6 ?g_7 ?x_7 ?k_7 ?t_7 ?hg_7 ?hk_7 ?ha_7 ?e_7 ?g_8 ?x_8 ?k_8 ?t_8 ?hg_8 ?hk_8 ?ha_8 ?e_8 ?g_9 ?x_9 ?k_9 ?t_9 ?hg_9 ?hk_9 ?ha_9 ?e_9 ?g_10 ?x_10 ?k_10 ?t_10 ?hg_10 ?hk_10 ?ha_10 ?hn_ ?ht_ ?sa_10 ?nb_10 ?aI_10 ?tI_10 ?lI_10 ?cI_10 ?nd_
    (case a0 => k_is)
    (case l0 => k_is)
    (case c0 => k_is)
    (case k0 => k_is)
    (case a1 => k_is)
    (case l1 => k_is)
    (case c1 => k_is)
    (case k1 => k_is)
    (case a2 => k_is)
    (case l2 => k_is)
    (case c2 => k_is)
    (case k2 => k_is)
    (case a3 => k_is)
    (case l3 => k_is)
    (case c3 => k_is)
    (case k3 => k_is)
    (case a4 => k_is)
    (case l4 => k_is)
    (case c4 => k_is)
    (case k4 => k_is)
    (case a5 => k_is)
    (case l5 => k_is)
    (case c5 => k_is)
    (case k5 => k_is)
    (case a6 => k_is)
    (case l6 => k_is)
    (case c6 => k_is)
    (case k6 => k_is)
    (case a7 => k_is)
    (case l7 => k_is)
    (case c7 => k_is)
    (case k7 => k_is)
    (case a8 => k_is)
    (case l8 => k_is)
    (case c8 => k_is)
    (case k8 => k_is)
    (case a9 => k_is)
    (case l9 => k_is)
    (case c9 => k_is)
    (case k9 => k_is)
    (case a10 => k_is)
    (case l10 => k_is)
    (case c10 => k_is)
    (case k10 => k_is)
    (case a11 => k_is)
    (case l11 => k_is)
    (case c11 => k_is)
    (case k11 => k_is)
    (case a12 => k_is)
    (case l12 => k_is)
    (case c12 => k_is)
    (case k12 => k_is)
    (case a13 => k_is)
    (case l13 => k_is)
    (case c13 => k_is)
    (case k13 => k_is)
    (case a14 => k_is)
    (case l14 => k_is)
    (case c14 => k_is)
    (case k14 => k_is)
    (case a15 => k_is)
    (case l15 => k_is)
    (case c15 => k_is)
    (case k15 => k_is)
    (case a16 => k_is)
    (case l16 => k_is)
    (case c16 => k_is)
    (case k16 => k_is)
    (case a17 => k_is)
    (case l17 => k_is)
    (case c17 => k_is)
    (case k17 => k_is)
    (case a18 => k_is)
    (case l18 => k_is)
    (case c18 => k_is)
    (case k18 => k_is)
    (case a19 => k_is)
    (case l19 => k_is)
    (case c19 => k_is)
    (case k19 => k_is)
    (case a20 => k_is)
    (case l20 => k_is)
    (case c20 => k_is)
    (case k20 => k_is)
    (case a21 => k_is)
    (case l21 => k_is)
    (case c21 => k_is)
    (case k21 => k_is)
    (case a22 => k_is)
    (case l22 => k_is)
    (case c22 => k_is)
    (case k22 => k_is)
    (case a23 => k_is)
    (case l23 => k_is)
    (case c23 => k_is)
    (case k23 => k_is)
    (case a24 => k_is)
    (case l24 => k_is)
    (case c24 => k_is)
    (case k24 => k_is)
    (case a25 => k_is)
    (case l25 => k_is)
    (case c25 => k_is)
    (case k25 => k_is)
    (case a26 => k_is)
    (case l26 => k_is)
    (case c26 => k_is)
    (case k26 => k_is)
    (case a27 => k_is)
    (case l27 => k_is)
    (case c27 => k_is)
    (case k27 => k_is)
    (case a28 => k_is)
    (case l28 => k_is)
    (case c28 => k_is)
    (case k28 => k_is)
    (case a29 => k_is)
    (case l29 => k_is)
    (case c29 => k_is)
    (case k29 => k_is)
    (case a30 => k_is)
    (case l30 => k_is)
    (case c30 => k_is)
    (case k30 => k_is)
    (case a31 => k_is)
    (case l31 => k_is)
    (case c31 => k_is)
    (case k31 => k_is)
    (case a32 => k_is)
    (case l32 => k_is)
    (case c32 => k_is)
    (case k32 => k_is)
    (case a33 => k_is)
    (case l33 => k_is)
    (case c33 => k_is)
    (case k33 => k_is)
    (case a34 => k_is)
    (case l34 => k_is)
    (case c34 => k_is)
    (case k34 => k_is)
    (case a35 => k_is)
    (case l35 => k_is)
    (case c35 => k_is)
    (case k35 => k_is)
    (case a36 => k_is)
    (case l36 => k_is)
    (case c36 => k_is)
    (case k36 => k_is)
    (case a37 => k_is)
    (case l37 => k_is)
    (case c37 => k_is)
    (case k37 => k_is)
    (case a38 => k_is)
    (case l38 => k_is)
    (case c38 => k_is)
    (case k38 => k_is)
    (case a39 => k_is)
    (case l39 => k_is)
    (case c39 => k_is)
    (case k39 => k_is)
    (case a40 => k_is)
    (case l40 => k_is)
    (case c40 => k_is)
    (case k40 => k_is)
    (case a41 => k_is)
    (case l41 => k_is)
    (case c41 => k_is)
    (case k41 => k_is)
    (case a42 => k_is)
    (case l42 => k_is)
    (case c42 => k_is)
    (case k42 => k_is)
    (case z_isinstance => k_is)
    (case z_len => k_is)
    (case z_all => k_is)
    (case z_repr => k_is)
    (case z_abs => k_is)
    (case z_max => k_is)
    (case z_min => k_is)
    (case z_sorted => k_is)
    (case z_int => k_is)
    (case z_bool => k_is)
    (case z_list => k_is)
    (case z_tuple => k_is)
    (case z_range => k_is)
    (case z_enumerate => k_is)
    (case z_zip => k_is)
    (case z_ValueError => k_is)
    (case v_MOST_QUANTITIES => k_is)
    (case v_MOST_NUDGES => k_is)
    (case g_0 => k_is)
    (case x_0 => k_is)
    (case k_0 => k_is)
    (case t_0 => k_is)
    (case hg_0 => k_is)
    (case hk_0 => k_is)
    (case ha_0 => k_is)
    (case e_0 => k_exc)
    (case g_1 => k_is)
    (case x_1 => k_is)
    (case k_1 => k_is)
    (case t_1 => k_is)
    (case hg_1 => k_is)
    (case hk_1 => k_is)
    (case ha_1 => k_is)
    (case e_1 => k_exc)
    (case g_2 => k_is)
    (case x_2 => k_is)
    (case k_2 => k_is)
    (case t_2 => k_is)
    (case hg_2 => k_is)
    (case hk_2 => k_is)
    (case ha_2 => k_is)
    (case e_2 => k_exc)
    (case g_3 => k_is)
    (case x_3 => k_is)
    (case k_3 => k_is)
    (case t_3 => k_is)
    (case hg_3 => k_is)
    (case hk_3 => k_is)
    (case ha_3 => k_is)
    (case e_3 => k_exc)
    (case g_4 => k_is)
    (case x_4 => k_is)
    (case k_4 => k_is)
    (case t_4 => k_is)
    (case hg_4 => k_is)
    (case hk_4 => k_is)
    (case ha_4 => k_is)
    (case e_4 => k_exc)
    (case g_5 => k_is)
    (case x_5 => k_is)
    (case k_5 => k_is)
    (case t_5 => k_is)
    (case hg_5 => k_is)
    (case hk_5 => k_is)
    (case ha_5 => k_is)
    (case e_5 => k_exc)
    (case g_6 => k_is)
    (case x_6 => k_is)
    (case k_6 => k_is)
    (case t_6 => k_is)
    (case hg_6 => k_is)
    (case hk_6 => k_is)
    (case ha_6 => k_is)
    (case e_6 => k_exc)
    (case g_7 => k_is)
    (case x_7 => k_is)
    (case k_7 => k_is)
    (case t_7 => k_is)
    (case hg_7 => k_is)
    (case hk_7 => k_is)
    (case ha_7 => k_is)
    (case e_7 => k_exc)
    (case g_8 => k_is)
    (case x_8 => k_is)
    (case k_8 => k_is)
    (case t_8 => k_is)
    (case hg_8 => k_is)
    (case hk_8 => k_is)
    (case ha_8 => k_is)
    (case e_8 => k_exc)
    (case g_9 => k_is)
    (case x_9 => k_is)
    (case k_9 => k_is)
    (case t_9 => k_is)
    (case hg_9 => k_is)
    (case hk_9 => k_is)
    (case ha_9 => k_is)
    (case e_9 => k_exc)
    (case g_10 => k_is)
    (case x_10 => k_is)
    (case k_10 => k_is)
    (case t_10 => k_is)
    (case hg_10 => k_is)
    (case hk_10 => k_is)
    (case ha_10 => k_is)
    (case hn_ => k_is)
    (case ht_ => k_is)
    (case sa_10 => k_is)
    (case nb_10 => k_is)
    (case aI_10 => k_is)
    (case tI_10 => k_is)
    (case lI_10 => k_is)
    (case cI_10 => k_is)
    (case nd_ => decide +kernel)
