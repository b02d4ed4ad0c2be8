import PyProof.Rows.All
import Wide.All
import OpenK.AllK
import Wide.FinOn
import PyProof.EqAt
import PyProof.EqKinds
import PyProof.TupleCall
import PyProof.ReprReads
import HandS.ForMost
import HandS.Exc
import HandS.TryOnly
import HandS.ExcOwn
import HandS.WordsExc
import HandS.Wide
import HandS.IsInst
import HandS.Deep
import HandS.Style
import HandS.Conv
import HandS.Zip
import HandS.SortRule
import HandS.SortInts
import HandS.DictComp
import HandS.FStr
import HandS.RaiseMore
import HandS.TryMany
import HandS.ExcIs
import HandS.ExcValue
import KE.KExcIs
import PySem.Challenge.RW_nudgewebs_k49_errors_made
set_option Elab.async false
set_option linter.all false
set_option maxRecDepth 100000
set_option maxHeartbeats 4000000
/-! The ground: defs that run where nothing is being shown (so that repr may be asked), calls by name, repr of data, powers. -/
namespace Nw
open PySem PySem.Spec PyProof.Rows L2

/-! ### defs that run where no repr is under way -/
abbrev Quiet (A : Around) : Prop := A.guards = some []
structure FnG (P : Program) (w : World) (K : PySem.W.Frag) (mg : Str → Option Value)
    (base : Heap) (CX : CXT) (k : Nat) (f : Addr) (fd : FuncData) (ps : List Str) (sp : Sp) : Prop where
  len : ∀ vs H Q E, sp vs H Q E → vs.length = ps.length
  run : ∀ (A : Around) (outer : List Env) (s : Shared) (H : Hp) (args : Args) (us : List Value) (vs : List V)
    (Q : VK) (E : XK), Room k A → Quiet A → Env0 P w K mg base A outer s H →
    BindsTo s fd args (ps.zip us) → Vals vs us → sp vs H Q E →
    codeAny (model P w) A (.call (.ref f) args) (CR CX outer P w H s Q E) s

section
variable {P : Program} {w : World} {K : PySem.W.Frag} {mg : Str → Option Value} {base : Heap} {CX : CXT}
theorem FnG.mono {j k : Nat} {f : Addr} {fd : FuncData} {ps : List Str} {sp : Sp}
    (F : FnG P w K mg base CX j f fd ps sp) (h : j ≤ k) : FnG P w K mg base CX k f fd ps sp :=
  ⟨F.len, fun A outer s H args us vs Q E hr =>
    F.run A outer s H args us vs Q E (hr.mono h)⟩

theorem fng_of {k : Nat} {f : Addr} {name qual : Str} {params : Arguments} {body : List Stmt} {scope : Scope}
    {dV kV doc pm cdv ct oc : Value} {an od : Option Addr} {osl : Array (Option Value)} {N ps : List Str} {sp : Sp}
    (lk : K.lookup f = some ⟨oc, od, .func (PySem.W.fnOf name qual params body scope dV kV doc pm an cdv ct), osl⟩)
    (hcd : PySem.W.codeIn K cdv qual = true) (S : FnScope N ps scope)
    (len : ∀ vs H Q E, sp vs H Q E → vs.length = ps.length)
    (hbody : ∀ (A : Around) (outer : List Env) (s : Shared) (H : Hp) (vs : List V) (Q : VK) (E : XK),
      Room k (A.deeper (envOfC qual scope s.heap.objs.size f cdv)) → Quiet A → sp vs H Q E →
      ∃ t, PSs (cxOf CX P w K mg base N qual scope f cdv A outer s H E) body t ∧
        t { nx := fun _ H' => Q .non H', rt := Q } (start N vs) H) :
    FnG P w K mg base CX (k + 1) f (PySem.W.fnOf name qual params body scope dV kV doc pm an cdv ct) ps sp := by
  refine ⟨len, ?_⟩
  intro A outer s H args us vs Q E hr hgd e0 hb r hsp
  have hl := len _ _ _ _ hsp
  have old := fun b o (e : base.get? b = some o) => (e0.bs b o e).1
  have kinds : ∀ y ∈ ps.zip us, scope.names.lookup y.1 = some .local ∨
      (scope.names.lookup y.1 = some .cell ∧ ((cellsFrom (s.heap.objs.size + 1) scope.names []).lookup y.1).isSome = true) := by
    rintro ⟨n, v⟩ hy
    rcases S.par n (List.of_mem_zip hy).1 with q | q
    · exact Or.inl q
    · exact Or.inr ⟨q, PySem.W.cellsFrom_some _ _ _ (Or.inl q)⟩
  refine codeAny_call_function hr.depth ((e0.mod.kin.keeps old) _ _ lk) rfl S.co S.gen rfl
    (PySem.W.codeRec_of (e0.mod.kin.keeps old) hcd) (hb _ _ _ _ ?_)
  refine wpAny_newFunctionEnv_cells S.kind kinds fun env he s1 x => ?_
  subst he
  refine ⟨(e0.mod.nolimit.keeps old).keeps x.toInCall.keep, codeAny_func ?_⟩
  obtain ⟨t, ht, hq⟩ := hbody A outer s H vs Q E (hr.deeper _) hgd hsp
  have I0 : Inv (cxOf CX P w K mg base N qual scope f cdv A outer s H E) [] (start N vs) H s1 :=
    inv_start S hr.hd e0 hl r x
  refine wpAny_mono (ht.run [] s1 (start N vs) H _ I0 hq) ?_ (fun e s' hs => hs)
  intro fl s' hs
  cases fl with
  | ret u =>
    obtain ⟨v, σ', H', J, rv, q⟩ := hs
    exact (show CE outer P w H s Q u s' from ⟨v, H', J.os, J.bare, J.base, J.hok, rv, q⟩)
  | next =>
    obtain ⟨σ', H', J, q⟩ := hs
    exact (show CE outer P w H s Q Value.none s' from ⟨V.non, H', J.os, J.bare, J.base, J.hok, rfl, q⟩)
  | brk =>
    obtain ⟨_, _, _, q⟩ := hs
    exact q.elim
  | cont =>
    obtain ⟨_, _, _, q⟩ := hs
    exact q.elim

/-- a def of the text, by its body -/
theorem okG {x qual : Str} {st : Stmt} {f : Addr} {fd : FuncData} {N ps : List Str} {k : Nat} {sp : Sp}
    (F : Fun K x qual st f fd) (S : FnScope N ps (defScope st)) (len : ∀ vs H Q E, sp vs H Q E → vs.length = ps.length)
    (hbody : ∀ (cdv : Value) (A : Around) (outer : List Env) (s : Shared) (H : Hp) (vs : List V) (Q : VK) (E : XK),
      Room k (A.deeper (envOfC qual (defScope st) s.heap.objs.size f cdv)) →
      Quiet (A.deeper (envOfC qual (defScope st) s.heap.objs.size f cdv)) → sp vs H Q E →
      ∃ t, PSs (cxOf CX P w K mg base N qual (defScope st) f cdv A outer s H E) (defBody st) t ∧
        t { nx := fun _ H' => Q .non H', rt := Q } (start N vs) H) : FnG P w K mg base CX (k + 1) f fd ps sp := by
  obtain ⟨oc, od, kV, doc, pm, an, cdv, ct, osl, rfl, lk, hcd⟩ := F.ex
  exact fng_of lk hcd S len fun A outer s H vs Q E hr hq hsp => hbody cdv A outer s H vs Q E hr hq hsp

/-- a def as its callers see it -/
structure DefOk (P : Program) (w : World) (K : PySem.W.Frag) (mg : Str → Option Value) (base : Heap) (CX : CXT)
    (k : Nat) (x : Str) (ps : List Str) (sp : Sp) : Prop where
  ex : ∃ f fd, FnG P w K mg base CX k f fd ps sp ∧ mg x = some (.ref f) ∧
    PySem.W.keepIn K (.ref f) = true ∧ Binds K fd ps []
theorem DefOk.mono {j k : Nat} {x : Str} {ps : List Str} {sp : Sp} (D : DefOk P w K mg base CX j x ps sp) (h : j ≤ k) :
    DefOk P w K mg base CX k x ps sp := by
  obtain ⟨f, fd, F, r⟩ := D.ex
  exact ⟨f, fd, F.mono h, r⟩
end

/-- f(e, ..) -/
def tCallD (sp : Sp) (E : XK) (t : TA) : TE := fun σ H Q => t σ H fun vs H1 => sp vs H1 Q E
section
variable {X : Cx} {CX : CXT} {k : Nat} {ps : List Str} {sp : Sp} {E : XK} {x : Str} {p pos : Pos} {e : Expr} {es : List Expr} {t : TA}
theorem run_fng {f : Addr} {fd : FuncData} {pins : List (Addr × Obj)} {σ : L2.St} {H : Hp} {s : Shared} {Q : VK} {us : List Value} {vs : List V}
    (F : FnG X.prog X.w X.K X.mg X.base CX k f fd ps sp) (hr : Room k X.A) (hgd : Quiet X.A) (hb : Binds X.K fd ps [])
    (hx : Passes CX X E) (I : Inv X pins σ H s) (r : Vals vs us) (h : sp vs H Q E) :
    wpAny (model X.prog X.w) X.A (call (.ref f) us) (EP X pins σ Q) X.xe s := by
  have hl : (us ++ ([] : List Value)).length = ps.length := by
    rw [List.append_nil, ← r.length]
    exact F.len _ _ _ _ h
  have hb2 := hb s us I.kIn hl
  rw [List.append_nil] at hb2
  refine wpAny_call (codeAny_mono (F.run X.A X.stack s H ⟨us, []⟩ us vs Q E hr hgd I.env0 hb2 r h) ?_)
  intro r s' hq
  cases r with
  | error e => exact hx pins σ H s e s' I hq
  | ok fl =>
    cases fl with
    | ret u => exact I.after hq
    | next => exact (show False from hq).elim
    | brk => exact (show False from hq).elim
    | cont => exact (show False from hq).elim

theorem pe_callD (D : DefOk X.prog X.w X.K X.mg X.base CX k x ps sp) (hr : Room k X.A) (hgd : Quiet X.A) (hx : Passes CX X E)
    (ha : PA X (e :: es) t) (hg : Gl X x := by rfl) (hdb : (x == ("__debug__" : Str)) = false := by decide)
    (he : starEach (e :: es) X.env = (false, eval e X.env) :: starEach es X.env := by rfl)
    (hpl : (backTo pos (starEach es X.env)).any (·.1) = false := by rfl) :
    PE X (.Call (.Name x p) (e :: es) [] pos) (tCallD sp E t) := by
  obtain ⟨f, fd, F, hm, hk, hb⟩ := D.ex
  refine ⟨fun pins s σ H Q I h => ?_⟩
  refine wpAny_Call_Name_kw (ld_glob I hg hm ?_ hdb)
  refine PySem.W.callWith_K (h₀ := X.base) I.ok.mod.kin hk (thn (ha.run pos pins s σ H _ I h) ?_) he hpl
  rintro us s1 ⟨vs, H1, I1, r, q⟩
  exact ⟨I1.kIn, run_fng F hr hgd hb hx I1 r q⟩
end

/-! ### the law's end -/
section
variable {P : Program} {w : World} {K : PySem.W.Frag}
theorem law_callG {mg mb : Str → Option Value} {CX : CXT} {k : Nat} {fa a : Addr} {fd : FuncData} {x : Str} {sp : Sp}
    {s1 : Shared} {vs : List Value} {ns : List Int}
    (KX : K.In s1.heap) (hns : s1.heap.Ns mainGlobals mg) (hb : s1.heap.Ns builtinsNs mb)
    (hbb : ∀ x : Str, x ≠ "__name__" → mb x = bootBuiltins x) (hlim : s1.heap.NoLimit) (hg : s1.gens = #[])
    (ha : s1.heap.get? a = some { cls := .type "list", data := .seq vs.toArray }) (hi : IntsAre vs ns)
    (hl : ns.length ≤ sizeLine) (hr : Room k callerA)
    (F : ∀ base : Heap, K.In base → base.Ns mainGlobals mg → FnG P w K mg base CX k fa fd [x] sp)
    (hbind : ∀ (s : Shared) (u : Value), BindsTo s fd ⟨[u], []⟩ [(x, u)])
    (hsp : ∀ H : Hp, Only H → SqL K H a (ns.map V.int) → sp [.ref a] H (fun v _ => v = .bl true) fun _ _ _ => False)
    (hCX : ∀ H e s', CX [] H s1 (fun _ _ _ => False) e s' → False) :
    codeAny (model P w) callerA (.call (.ref fa) ⟨[.ref a], []⟩)
      (fun r s' => r = .ok (.ret (.bool true)) ∧ OldK s1.heap s'.heap ∧ s'.os = s1.os ∧ AllBare s'.gens) s1 := by
  have rv := vals_ints hi
  have lenV := hi.length
  have core : ∀ H : Hp, Only H → SqL K H a (ns.map V.int) → HOk P w H s1.heap →
      (∀ b, H b ≠ none → b = a) → (H a ≠ none → K.lookup a = none) →
      codeAny (model P w) callerA (.call (.ref fa) ⟨[.ref a], []⟩)
        (fun r s' => r = .ok (.ret (.bool true)) ∧ OldK s1.heap s'.heap ∧ s'.os = s1.os ∧ AllBare s'.gens) s1 := by
    intro H hO hS hok hA hK
    have fromH : ∀ {b : Addr} {o : Obj}, s1.heap.get? b = some o → H b = none →
        (hidT s1.heap H).get? b = some o := fun e n => hidT_get e n
    have free : ∀ {b : Addr} {o : Obj} {es : Array DictEntry} {ep : Nat},
        s1.heap.get? b = some o → o.data = .dict es ep → H b = none := by
      intro b o es ep e d
      cases q : H b with
      | none => rfl
      | some u =>
        have e' : b = a := hA b (by rw [q]; exact fun z => nomatch z)
        subst e'
        rw [ha] at e
        cases e
        exact nomatch d
    have nsK : ∀ {b : Addr} {m : Str → Option Value}, s1.heap.Ns b m → (hidT s1.heap H).Ns b m := by
      rintro b m ⟨o, es, ep, e, d, r⟩
      exact ⟨o, es, ep, fromH e (free e d), d, r⟩
    have hKb : K.In (hidT s1.heap H) := by
      intro b o e
      refine fromH (KX b o e) ?_
      cases q : H b with
      | none => rfl
      | some u =>
        have e' : b = a := hA b (by rw [q]; exact fun z => nomatch z)
        subst e'
        rw [hK (by rw [q]; exact fun z => nomatch z)] at e
        cases e
    have hM : Mod K mg (hidT s1.heap H) := by
      obtain ⟨mc, h1, h2⟩ := hlim
      exact ⟨hKb, nsK hns, ⟨mb, nsK hb, hbb⟩, ⟨mc, nsK h1, h2⟩⟩
    have e0 : Env0 P w K mg (hidT s1.heap H) callerA [] s1 H :=
      ⟨rfl, hM, fun b o e => of_hidT e, Nat.le_of_eq (hidT_size _ _), trivial,
        fun b hb => (List.not_mem_nil hb).elim, hok, .of_eq hg⟩
    refine codeAny_mono ((F _ hKb (nsK hns)).run callerA [] s1 H ⟨[.ref a], []⟩ [.ref a] [.ref a] _ _ hr rfl e0
      (hbind s1 (.ref a)) (.cons rfl .nil) (hsp H hO hS)) ?_
    intro r s' h
    cases r with
    | error e => exact (hCX H e s' h).elim
    | ok fl =>
      cases fl with
      | next => exact (show False from h).elim
      | brk => exact (show False from h).elim
      | cont => exact (show False from h).elim
      | ret u =>
        obtain ⟨v, H', os, bare, un, hok', r', q⟩ := h
        have q' : v = .bl true := q
        subst q'
        obtain rfl : u = Value.bool true := r'
        refine ⟨rfl, OldK.of_keep ?_, os, bare⟩
        intro b o e
        cases q : H b with
        | none => exact un.keep b o e q (fun z => (List.not_mem_nil z).elim) (fun z => (List.not_mem_nil z).elim)
        | some u =>
          rcases hO b with z | ⟨ob, xs, z⟩
          · rw [q] at z
            cases z
          · obtain ⟨e1, _⟩ := hok b _ z
            obtain ⟨e2, _⟩ := hok' b _ (un.frzs b ob _ z)
            rw [e] at e1
            cases e1
            exact e2
  cases hk : K.lookup a with
  | some o =>
    have e := KX a o hk
    rw [ha] at e
    cases e
    exact core (fun _ => none) (fun _ => .inl rfl)
      (.inr ⟨_, vs.toArray, _, hk, rfl, rfl, rfl, by rw [List.size_toArray, lenV]; exact hl, by simpa using rv⟩)
      (fun b u z => nomatch z) (fun b z => (z rfl).elim) (fun z => (z rfl).elim)
  | none =>
    refine core (fun b => if b = a then some (.frz { cls := .type "list", data := .seq vs.toArray } (.lst (ns.map V.int))) else none)
      ?_ (.inl (.inr ⟨{ cls := .type "list", data := .seq vs.toArray }, if_pos rfl⟩)) ?_ ?_ (fun _ => hk)
    · intro b
      by_cases hb : b = a
      · exact .inr ⟨_, _, if_pos hb⟩
      · exact .inl (if_neg hb)
    · intro b u z
      by_cases hb : b = a
      · have z' := (if_pos hb).symm.trans z
        cases z'
        subst hb
        exact ⟨ha, by rw [List.length_map]; exact hl, vs, _, rv, ha⟩
      · have z' := (if_neg hb).symm.trans z
        cases z'
    · intro b z
      by_cases hb : b = a
      · exact hb
      · exact (z (if_neg hb)).elim
end

theorem walkG {l : PySem.W.OpenLaw} {n k : Nat} {q : Program} {loose : List Str} {XP : (Str → Option Value) → Heap → Prop}
    {YP : World → Heap → Prop} {d : DefRec} {K : Params → PySem.W.Frag} {CX : World → CXT} {sp : World → Sp} {x : Str}
    (hn : l.most = some n) (hn2 : n ≤ sizeLine) (hdf : d.params.defaults = []) (hr : Room k callerA)
    (hY : ∀ (w : World) (h : Heap), YP w h → (K w.params).In h)
    (F : ∀ (w : World) (mg : Str → Option Value) (fa : Addr) (h : Heap), (K w.params).In h → h.Ns mainGlobals mg →
      mg d.name = some (.ref fa) → ∃ fd : FuncData, (∀ (s : Shared) (u : Value), BindsTo s fd ⟨[u], []⟩ [(x, u)]) ∧
        ∀ base : Heap, (K w.params).In base → base.Ns mainGlobals mg →
          FnG l.prog w (K w.params) mg base (CX w) k fa fd [x] (sp w))
    (hsp : ∀ (w : World) (H : Hp) (a : Addr) (ns : List Int), ns.length ≤ n → Only H →
      SqL (K w.params) H a (ns.map V.int) → sp w [.ref a] H (fun v _ => v = .bl true) fun _ _ _ => False)
    (hCX : ∀ (w : World) (H : Hp) (s : Shared) (e : Value) (s' : Shared), CX w [] H s (fun _ _ _ => False) e s' → False) :
    PySem.W.WalkO q loose XP YP l.row.toRowW d [] (fun f vs => PySem.call f vs) := by
  refine Att.attach_call hn hdf ?_
  intro w s0 s1 mg mb fa o pm cd doc a vs ns G Y ho hd hcd hmg hobj hints hlen hg
  obtain ⟨fd, hb, hF⟩ := F w mg fa _ (hY w _ Y) G.T.g hmg
  exact law_callG (hY w _ Y) G.T.g G.T.b G.T.builtins G.T.nolimit hg hobj hints (Nat.le_trans hlen hn2) hr hF hb
    (fun H hO hS => hsp w H a ns hlen hO hS) (fun H e s' => hCX w H s1 e s')

/-! ### repr of data -/
section
variable {X : Cx}
mutual
theorem dp_noDict {K : PySem.W.Frag} {H : Hp} : ∀ (d : PyData) (v : V), Dp K H v d → d.hasDict = false
  | .none, _, _ => by simp only [PyData.hasDict]
  | .bool _, _, _ => by simp only [PyData.hasDict]
  | .int _, _, _ => by simp only [PyData.hasDict]
  | .str _, _, _ => by simp only [PyData.hasDict]
  | .list ds, _, h => by
    cases h with
    | lst _ ha =>
      simp only [PyData.hasDict]
      exact dp_noDictAll ds _ ha
  | .tuple ds, _, h => by
    cases h with
    | tup _ ha =>
      simp only [PyData.hasDict]
      exact dp_noDictAll ds _ ha
  | .dict _, _, h => by cases h
theorem dp_noDictAll {K : PySem.W.Frag} {H : Hp} : ∀ (ds : List PyData) (vs : List V), DpAll K H vs ds → PyData.hasDictAll ds = false
  | [], _, _ => by simp only [PyData.hasDictAll]
  | d :: ds, _, h => by
    cases h with
    | cons h1 h2 => simp only [PyData.hasDictAll, dp_noDict d _ h1, dp_noDictAll ds _ h2, Bool.or_self]
end
/-- repr(x), x any data without dicts -/
def rReprD (K : PySem.W.Frag) : List V → Hp → VK → Prop := fun xs H Q =>
  ∃ x d, xs = [x] ∧ Dp K H x d ∧ d.showable = true ∧ d.shown.length ≤ sizeLine ∧ d.depth ≤ 60 ∧ Q (.str d.shown) H
end
end Nw
/-! Data as trees over the abstract heap; what is asked of them. -/
namespace Nw
open PySem PySem.Spec PyProof.Rows L2

/-- what is known stays known -/
abbrev Ex (H H' : Hp) : Prop := ∀ b o, H b = some o → H' b = some o
theorem Ex.rfl {H : Hp} : Ex H H := fun _ _ h => h
theorem Ex.tr {H H1 H2 : Hp} (a : Ex H H1) (b : Ex H1 H2) : Ex H H2 := fun c o h => b c o (a c o h)
theorem Ex.nw {H : Hp} {p : Addr} {o : HO} (h : H p = none) : Ex H (upd H p o) := fun b u e => by
  rw [upd_ne (ne_of_none e h)]
  exact e
theorem Ex.nw2 {H H' : Hp} {p : Addr} {o : HO} (e : Ex H H') (h : H' p = none) : Ex H (upd H' p o) := e.tr (Ex.nw h)
theorem Ex.fr {H H' : Hp} (e : Ex H H') {l : Addr} (h : H' l = none) : H l = none := by
  cases q : H l with
  | none => exact Eq.refl _
  | some o =>
    rw [e l o q] at h
    cases h
/-- an object that H does not know may change -/
theorem Ex.wr {H H' : Hp} {p : Addr} {o : HO} (e : Ex H H') (h : H p = none) : Ex H (upd H' p o) := fun a u ha => by
  rw [upd_ne (ne_of_none ha h)]
  exact e a u ha
section
variable {K : PySem.W.Frag} {H H' : Hp}
theorem Ex.rd {a : Addr} {u : HO} (e : Ex H H') (h : Rd H a u) : Rd H' a u := by
  rcases h with h | ⟨o, h⟩
  · exact Or.inl (e a _ h)
  · exact Or.inr ⟨o, e a _ h⟩
theorem Ex.l {a : Addr} {xs : List V} (e : Ex H H') (h : SqL K H a xs) : SqL K H' a xs := by
  rcases h with h | h
  · exact Or.inl (e.rd h)
  · exact Or.inr h
theorem Ex.t {a : Addr} {xs : List V} (e : Ex H H') (h : SqT K H a xs) : SqT K H' a xs := by
  rcases h with h | h
  · exact Or.inl (e.rd h)
  · exact Or.inr h
end

/-! ### data -/
/-- a dict of ints and texts with plain values -/
def keyD : Key → PyData
  | .inl i => .int i
  | .inr x => .str x
mutual
def Da (K : PySem.W.Frag) (H : Hp) : PyData → V → Prop
  | .none, v => v = .non
  | .bool b, v => v = .bl b
  | .int i, v => v = .int i
  | .str x, v => v = .str x
  | .list ds, v => ∃ a xs, v = .ref a ∧ H a = some (.lst xs) ∧ DaAll K H ds xs ∧ ds.length ≤ 100000
  | .tuple ds, v => ∃ a xs, v = .ref a ∧ H a = some (.tup xs) ∧ DaAll K H ds xs
  | .dict kd, v => ∃ a kvs, v = .ref a ∧ H a = some (.dK kvs) ∧ (kvs.map fun kv => keyD kv.1) = kd.map (·.1) ∧ DaKv K H kd (kvs.map (·.2))
def DaAll (K : PySem.W.Frag) (H : Hp) : List PyData → List V → Prop
  | [], vs => vs = []
  | d :: ds, vs => ∃ x xs, vs = x :: xs ∧ Da K H d x ∧ DaAll K H ds xs
def DaKv (K : PySem.W.Frag) (H : Hp) : List (PyData × PyData) → List V → Prop
  | [], vs => vs = []
  | (_, d) :: ds, vs => ∃ x xs, vs = x :: xs ∧ Da K H d x ∧ DaKv K H ds xs
end
section
variable {K : PySem.W.Frag} {H H' : Hp}
mutual
theorem Da.mono (e : Ex H H') : ∀ (d : PyData) (v : V), Da K H d v → Da K H' d v
  | .none, _, h => h
  | .bool _, _, h => h
  | .int _, _, h => h
  | .str _, _, h => h
  | .list ds, v, h => by
    obtain ⟨a, xs, ev, hs, ha, hz⟩ := h
    exact ⟨a, xs, ev, e _ _ hs, DaAll.mono e ds xs ha, hz⟩
  | .tuple ds, v, h => by
    obtain ⟨a, xs, ev, hs, ha⟩ := h
    exact ⟨a, xs, ev, e _ _ hs, DaAll.mono e ds xs ha⟩
  | .dict kd, v, h => by
    obtain ⟨a, kvs, ev, hs, hk, hv⟩ := h
    exact ⟨a, kvs, ev, e _ _ hs, hk, DaKv.mono e kd _ hv⟩
theorem DaAll.mono (e : Ex H H') : ∀ (ds : List PyData) (vs : List V), DaAll K H ds vs → DaAll K H' ds vs
  | [], _, h => h
  | d :: ds, vs, h => by
    obtain ⟨x, xs, ev, h1, h2⟩ := h
    exact ⟨x, xs, ev, Da.mono e d x h1, DaAll.mono e ds xs h2⟩
theorem DaKv.mono (e : Ex H H') : ∀ (ds : List (PyData × PyData)) (vs : List V), DaKv K H ds vs → DaKv K H' ds vs
  | [], _, h => h
  | (_, d) :: ds, vs, h => by
    obtain ⟨x, xs, ev, h1, h2⟩ := h
    exact ⟨x, xs, ev, Da.mono e d x h1, DaKv.mono e ds xs h2⟩
end
theorem Da.up {d : PyData} {v : V} (h : Da K H d v) (e : Ex H H') : Da K H' d v := Da.mono e d v h
theorem DaAll.up {ds : List PyData} {vs : List V} (h : DaAll K H ds vs) (e : Ex H H') : DaAll K H' ds vs := DaAll.mono e ds vs h
mutual
theorem Da.dp : ∀ (d : PyData) (v : V), Da K H d v → d.hasDict = false → Dp K H v d
  | .none, _, h, _ => by
    obtain rfl := h
    exact .non
  | .bool b, _, h, _ => by
    obtain rfl := h
    exact .bl b
  | .int i, _, h, _ => by
    obtain rfl := h
    exact .int i
  | .str x, _, h, _ => by
    obtain rfl := h
    exact .str x
  | .list ds, v, h, hd => by
    obtain ⟨a, xs, rfl, hs, ha, _⟩ := h
    exact .lst (.inl (.inl hs)) (DaAll.dp ds xs ha (by simpa only [PyData.hasDict] using hd))
  | .tuple ds, v, h, hd => by
    obtain ⟨a, xs, rfl, hs, ha⟩ := h
    exact .tup (.inl (.inl hs)) (DaAll.dp ds xs ha (by simpa only [PyData.hasDict] using hd))
  | .dict kd, v, h, hd => by
    simp only [PyData.hasDict] at hd
    cases hd
theorem DaAll.dp : ∀ (ds : List PyData) (vs : List V), DaAll K H ds vs → PyData.hasDictAll ds = false → DpAll K H vs ds
  | [], _, h, _ => by
    obtain rfl := h
    exact .nil
  | d :: ds, vs, h, hd => by
    obtain ⟨x, xs, rfl, h1, h2⟩ := h
    simp only [PyData.hasDictAll, Bool.or_eq_false_iff] at hd
    exact .cons (Da.dp d x h1 hd.1) (DaAll.dp ds xs h2 hd.2)
end
theorem DaAll.len : ∀ {ds : List PyData} {vs : List V}, DaAll K H ds vs → ds.length = vs.length
  | [], _, h => by
    obtain rfl := h
    exact Eq.refl _
  | d :: ds, vs, h => by
    obtain ⟨x, xs, rfl, _, h2⟩ := h
    rw [List.length_cons, List.length_cons, DaAll.len h2]
theorem DaAll.at : ∀ {ds : List PyData} {vs : List V} {i : Nat} {d : PyData}, DaAll K H ds vs → ds[i]? = some d → ∃ x, vs[i]? = some x ∧ Da K H d x
  | [], _, _, _, _, e => by simp at e
  | d :: ds, vs, 0, _, h, e => by
    obtain ⟨x, xs, rfl, h1, _⟩ := h
    cases e
    exact ⟨x, Eq.refl _, h1⟩
  | d :: ds, vs, i + 1, _, h, e => by
    obtain ⟨x, xs, rfl, _, h2⟩ := h
    simp only [List.getElem?_cons_succ] at e ⊢
    exact DaAll.at h2 e
theorem DaAll.at' : ∀ {ds : List PyData} {vs : List V} {i : Nat} {x : V}, DaAll K H ds vs → vs[i]? = some x → ∃ d, ds[i]? = some d ∧ Da K H d x
  | [], _, _, _, h, e => by
    obtain rfl := h
    simp at e
  | d :: ds, vs, 0, _, h, e => by
    obtain ⟨x, xs, rfl, h1, _⟩ := h
    cases e
    exact ⟨d, Eq.refl _, h1⟩
  | d :: ds, vs, i + 1, _, h, e => by
    obtain ⟨x, xs, rfl, _, h2⟩ := h
    simp only [List.getElem?_cons_succ] at e ⊢
    exact DaAll.at' h2 e
theorem DaAll.app : ∀ {ds es : List PyData} {vs ws : List V}, DaAll K H ds vs → DaAll K H es ws → DaAll K H (ds ++ es) (vs ++ ws)
  | [], _, _, _, h, g => by
    obtain rfl := h
    exact g
  | d :: ds, es, vs, ws, h, g => by
    obtain ⟨x, xs, rfl, h1, h2⟩ := h
    exact ⟨x, xs ++ ws, Eq.refl _, h1, DaAll.app h2 g⟩
theorem DaAll.ints : ∀ {ns : List Int} {vs : List V}, DaAll K H (ns.map PyData.int) vs ↔ vs = ns.map V.int
  | [], vs => Iff.rfl
  | n :: ns, vs => by
    constructor
    · rintro ⟨x, xs, rfl, rfl, h2⟩
      rw [List.map_cons, DaAll.ints.mp h2]
    · rintro rfl
      exact ⟨_, _, Eq.refl _, Eq.refl _, DaAll.ints.mpr (Eq.refl _)⟩
theorem DaAll.mem : ∀ {ds : List PyData} {vs : List V}, DaAll K H ds vs → ∀ x ∈ vs, ∃ d ∈ ds, Da K H d x
  | [], _, h, x, hx => by
    obtain rfl := h
    cases hx
  | d :: ds, vs, h, x, hx => by
    obtain ⟨y, ys, rfl, h1, h2⟩ := h
    rcases List.mem_cons.mp hx with rfl | hx
    · exact ⟨d, List.mem_cons_self, h1⟩
    · obtain ⟨e, he, hd⟩ := DaAll.mem h2 x hx
      exact ⟨e, List.mem_cons_of_mem _ he, hd⟩

/-! ### types -/
theorem tyx_l {a : Addr} {xs : List V} (h : SqL K H a xs) : TyX K H (.ref a) (.type "list") := by
  rcases h with (h | ⟨o, h⟩) | ⟨o, its, n, e, c, _⟩
  · exact .base (.lst h)
  · exact .base (.frz h)
  · exact .kList e c
theorem tyx_t {a : Addr} {xs : List V} (h : SqT K H a xs) : TyX K H (.ref a) (.type "tuple") := by
  rcases h with (h | ⟨o, h⟩) | ⟨o, its, n, e, c, _⟩
  · exact .base (.tup h)
  · exact .fTuple h
  · exact .kTuple e c
/-- the name of a datum's type -/
def tyName : PyData → String
  | .none => "NoneType"
  | .bool _ => "bool"
  | .int _ => "int"
  | .str _ => "str"
  | .list _ => "list"
  | .tuple _ => "tuple"
  | .dict _ => "dict"
theorem Da.ty : ∀ {d : PyData} {v : V}, Da K H d v → TyX K H v (.type (tyName d))
  | .none, _, h => by
    obtain rfl := h
    exact .base .non
  | .bool b, _, h => by
    obtain rfl := h
    exact .base (.bl b)
  | .int i, _, h => by
    obtain rfl := h
    exact .base (.int i)
  | .str x, _, h => by
    obtain rfl := h
    exact .base (.str x)
  | .list ds, v, h => by
    obtain ⟨a, xs, rfl, hs, _⟩ := h
    exact tyx_l (.inl (.inl hs))
  | .tuple ds, v, h => by
    obtain ⟨a, xs, rfl, hs, _⟩ := h
    exact tyx_t (.inl (.inl hs))
  | .dict kd, v, h => by
    obtain ⟨a, kvs, rfl, hs, _⟩ := h
    exact .base (.dK hs)
/-- isinstance by the types' names -/
def isN (T n : String) : Bool := T == n || (T == "int" && n == "bool")
/-- isinstance of data: int, bool, list, tuple, str -/
def isA (T : String) (d : PyData) : Bool := isN T (tyName d)
theorem isN_ok (T : String) (hT : T = "int" ∨ T = "bool" ∨ T = "list" ∨ T = "tuple" ∨ T = "str") (n : String)
    (hn : n = "NoneType" ∨ n = "bool" ∨ n = "int" ∨ n = "str" ∨ n = "list" ∨ n = "tuple" ∨ n = "dict") :
    PySem.W.kitOne K (.type n) (.type T) = some (isN T n) := by
  rcases hT with rfl | rfl | rfl | rfl | rfl <;> rcases hn with rfl | rfl | rfl | rfl | rfl | rfl | rfl <;> exact kit_ty (by decide +kernel)
theorem isA_ok (T : String) (hT : T = "int" ∨ T = "bool" ∨ T = "list" ∨ T = "tuple" ∨ T = "str") (d : PyData) :
    PySem.W.kitOne K (.type (tyName d)) (.type T) = some (isA T d) := isN_ok T hT _ (by cases d <;> simp [tyName])
end

/-! ### rules -/
section
variable {X : Cx}
theorem call_reprD {k : Nat} (hq : Quiet X.A) (hr : Room k X.A) : CallR X (.builtin "repr") (rReprD X.K) := by
  intro pins s σ H xs us Q I r h
  obtain ⟨x, d, rfl, hd, hs, hz, hdp, q⟩ := h
  obtain ⟨u, rfl, rx⟩ := Vals.one r
  obtain ⟨as, rd⟩ := Dp.reads I d x u hd rx
  have nd := dp_noDict d x hd
  have hu : X.A.units + 200 < cLine := by have := hr.un; omega
  have fin : ∀ h' u' tk, (∀ b o, s.heap.get? b = some o → h'.get? b = some o) →
      EP X pins σ Q (.str d.shown u') { s with heap := h', toks := tk } :=
    fun h' u' tk hk => ⟨.str d.shown, H, I.kept hk, ⟨_, rfl⟩, q⟩
  cases d with
  | none =>
    cases hd
    obtain rfl : u = Value.none := rx
    exact PySem.P.repr_of_none (fin s.heap _ _ fun _ _ e => e)
  | bool b =>
    cases hd
    obtain rfl : u = Value.bool b := rx
    exact PySem.P.repr_of_bool (fin s.heap _ _ fun _ _ e => e)
  | int i =>
    cases hd
    obtain ⟨t, rfl⟩ := rx
    exact PySem.P.repr_of_int (by simpa only [PyData.showable, decide_eq_true_eq] using hs) (fin s.heap _ _ fun _ _ e => e)
  | str z =>
    cases hd
    obtain ⟨t, rfl⟩ := rx
    exact PySem.P.repr_of_str (fin s.heap _ _ fun _ _ e => e) (by simpa only [PyData.shown] using hz)
  | list ds =>
    cases hd with
    | lst h1 h2 =>
      cases rx
      exact repr_of_reads' rd hs (PyData.noDict_hsm nd) hq (by omega) (fun _ _ e => e) fin hz
  | tuple ds =>
    cases hd with
    | tup h1 h2 =>
      cases rx
      exact repr_of_reads' rd hs (PyData.noDict_hsm nd) hq (by omega) (fun _ _ e => e) fin hz
  | dict kd => cases hd

/-- a ** b of great numbers -/
def CPowW (i j : Int) : Prop := 0 ≤ j ∧ j ≤ 100 ∧ i.natAbs < 2 ^ 10000
theorem op_powW : OpR X (binaryOp .Pow) (rI CPowW fun i j => .int (i ^ j.toNat)) := opI fun i j t u s A E hc q => by
  obtain ⟨h0, h8, hi⟩ := hc
  refine pow_int h0 ?_ q
  have hb : Builtin.Int.intBits i ≤ 10000 := by
    unfold Builtin.Int.intBits
    split
    · omega
    · rename_i hn
      have hne : i.natAbs ≠ 0 := by
        intro e
        exact hn (by simpa using e)
      have := (Nat.log2_lt hne).mpr hi
      omega
  have h1 : (Builtin.Int.intBits i : Int) * j ≤ 10000 * 100 := Int.mul_le_mul (by omega) h8 h0 (by omega)
  omega
end
end Nw
namespace Nw
open PySem PySem.Spec PyProof.Rows L2
section
variable {P : Program} {w : World} {K : PySem.W.Frag} {mg : Str → Option Value} {base : Heap}
/-- a def that lets no exception out -/
theorem okG0 {x qual : Str} {st : Stmt} {f : Addr} {fd : FuncData} {N ps : List Str} {k : Nat} {sp : Sp}
    (F : Fun K x qual st f fd) (S : FnScope N ps (defScope st)) (len : ∀ vs H Q E, sp vs H Q E → vs.length = ps.length)
    (hbody : ∀ (cdv : Value) (A : Around) (outer : List Env) (s : Shared) (H : Hp) (vs : List V) (Q : VK) (E : XK),
      Room k (A.deeper (envOfC qual (defScope st) s.heap.objs.size f cdv)) →
      Quiet (A.deeper (envOfC qual (defScope st) s.heap.objs.size f cdv)) → sp vs H Q E →
      ∃ t, PSs (cxOf CX0 P w K mg base N qual (defScope st) f cdv A outer s H E).nox (defBody st) t ∧
        t { nx := fun _ H' => Q .non H', rt := Q } (start N vs) H) : FnG P w K mg base CX0 (k + 1) f fd ps sp :=
  okG F S len fun cdv A outer s H vs Q E hr hq hsp => by
    obtain ⟨t, h, q⟩ := hbody cdv A outer s H vs Q E hr hq hsp
    exact ⟨t, h.nox, q⟩
end
theorem pe_globI {X : Cx} {x : Str} {n : Int} {pos : Pos} (hm : ∃ t, X.mg x = some (.int n t)) (hg : Gl X x := by rfl)
    (hd : (x == ("__debug__" : Str)) = false := by decide) : PE X (.Name x pos) (tC (.int n)) := by
  obtain ⟨t, h⟩ := hm
  exact pe_glob hg h ⟨t, rfl⟩ hd
theorem pe_bty {X : Cx} {x : Str} {n : String} {pos : Pos} (hm : X.mg x = none) (hv : bootBuiltins x = some (.type n)) (hg : Gl X x := by rfl)
    (hn : x ≠ "__name__" := by decide) (hd : (x == ("__debug__" : Str)) = false := by decide) : PE X (.Name x pos) (tC (.ty n)) :=
  pe_bltn hg hm hv rfl hn hd
theorem bt_isinstance : bootBuiltins "isinstance" = some (.builtin "isinstance") := by decide +kernel
theorem bt_len : bootBuiltins "len" = some (.builtin "len") := by decide +kernel
theorem bt_all : bootBuiltins "all" = some (.builtin "all") := by decide +kernel
theorem bt_any : bootBuiltins "any" = some (.builtin "any") := by decide +kernel
theorem bt_sum : bootBuiltins "sum" = some (.builtin "sum") := by decide +kernel
theorem bt_repr : bootBuiltins "repr" = some (.builtin "repr") := by decide +kernel
theorem bt_abs : bootBuiltins "abs" = some (.builtin "abs") := by decide +kernel
theorem bt_max : bootBuiltins "max" = some (.builtin "max") := by decide +kernel
theorem bt_min : bootBuiltins "min" = some (.builtin "min") := by decide +kernel
theorem bt_sorted : bootBuiltins "sorted" = some (.builtin "sorted") := by decide +kernel
theorem bt_int : bootBuiltins "int" = some (.type "int") := by decide +kernel
theorem bt_bool : bootBuiltins "bool" = some (.type "bool") := by decide +kernel
theorem bt_str : bootBuiltins "str" = some (.type "str") := by decide +kernel
theorem bt_list : bootBuiltins "list" = some (.type "list") := by decide +kernel
theorem bt_tuple : bootBuiltins "tuple" = some (.type "tuple") := by decide +kernel
theorem bt_set : bootBuiltins "set" = some (.type "set") := by decide +kernel
/-- isinstance(x, T) of data -/
theorem isi_da {K : PySem.W.Frag} {H : Hp} {d : PyData} {v : V} {T : String} {Q : VK} (h : Da K H d v)
    (hT : T = "int" ∨ T = "bool" ∨ T = "list" ∨ T = "tuple" ∨ T = "str") (q : Q (.bl (isA T d)) H) : rIsi K [v, .ty T] H Q :=
  ⟨v, .ty T, _, _, _, rfl, .ty T, h.ty, isA_ok T hT d, q⟩
theorem start_eq {N : List Str} {vs : List V} : start N vs = vs.map some ++ List.replicate (N.length - vs.length) none := rfl
end Nw
/-! repr of data with dicts: sys.modules has to be told apart, which the top knows. -/
namespace Nw
open PySem PySem.Spec PyProof.Rows L2
abbrev SysAt (base : Heap) : Prop := ∃ mm, base.Ns sysModules mm
section
variable {X : Cx} {pins : List (Addr × Obj)} {σ : L2.St} {H : Hp} {s : Shared}
theorem sys_no_list (I : Inv X pins σ H s) (SM : SysAt X.base) {a : Addr} {o : Obj} {vs : Array Value} {n : Nat} (h : s.heap.get? a = some o) (hd : o.data = .seq vs n) : a ≠ sysModules := by
  rintro rfl
  obtain ⟨mm, o2, es, ep, e, d, _⟩ := SM
  have h2 := I.bk _ _ e
  rw [h] at h2
  cases h2
  rw [hd] at d
  cases d
theorem reads_keys : ∀ {kd : List PyData} {kvs : List (Key × V)} {vs : List (Key × Value)} {es : List DictEntry} {h : Heap} {P : Program} {w : World}, (kvs.map fun kv => keyD kv.1) = kd → KV kvs vs → Pairs (mixKind P w) es vs →
    ReadsAll h (es.map (·.key)) kd [] ∧ Vals (kvs.map (·.2)) (es.map (·.val))
  | [], [], _, _, _, _, _, _, .nil, .nil => ⟨.nil, .nil⟩
  | [], _ :: _, _, _, _, _, _, hk, _, _ => by simp at hk
  | _ :: _, [], _, _, _, _, _, hk, _, _ => by simp at hk
  | k :: kd, (k', v') :: kvs, _, _, h, P, w, hk, .cons (a := _) (b := q) ⟨e1, r1⟩ t, .cons (e := en) hk2 hv t2 => by
    simp only [List.map_cons, List.cons.injEq] at hk
    obtain ⟨rfl, hk3⟩ := hk
    obtain ⟨ih1, ih2⟩ := reads_keys (h := h) (P := P) (w := w) hk3 t t2
    simp only at e1 r1
    subst e1
    have hkey : Reads h en.key (keyD q.1) [] := by
      rcases keyIs_shape (show keyIs q.1 en.key = true from hk2) with ⟨i, t, e, e'⟩ | ⟨x, t, e, e'⟩
      · rw [e', e]
        exact .int i t
      · rw [e', e]
        exact .str x t
    simp only [List.map_cons]
    rw [hv]
    exact ⟨.cons (as := []) (bs := []) hkey ih1, .cons r1 ih2⟩
mutual
theorem Da.reads (I : Inv X pins σ H s) (SM : SysAt X.base) : ∀ (d : PyData) (v : V) (u : Value), Da X.K H d v → RelV v u → ∃ as, Reads s.heap u d as ∧ sysModules ∉ as
  | .none, _, _, h, r => by
    obtain rfl := h
    cases r
    exact ⟨_, .none, by simp⟩
  | .bool b, _, _, h, r => by
    obtain rfl := h
    cases r
    exact ⟨_, .bool b, by simp⟩
  | .int i, _, _, h, r => by
    obtain rfl := h
    obtain ⟨t, rfl⟩ := r
    exact ⟨_, .int i t, by simp⟩
  | .str x, _, _, h, r => by
    obtain rfl := h
    obtain ⟨t, rfl⟩ := r
    exact ⟨_, .str x t, by simp⟩
  | .list ds, _, _, h, r => by
    obtain ⟨a, xs, rfl, hs, ha, _⟩ := h
    cases r
    obtain ⟨its, rv, ⟨o, n, ho, hc, _, hd⟩, _⟩ := I.list (.inl (.inl hs))
    obtain ⟨as, hr, hn⟩ := Da.readsAll I SM ds _ its ha rv
    refine ⟨_, Reads.list ho hc hd hr, fun hm => ?_⟩
    rcases List.mem_cons.mp hm with e | hm
    · exact sys_no_list I SM ho hd e.symm
    · exact hn hm
  | .tuple ds, _, _, h, r => by
    obtain ⟨a, xs, rfl, hs, ha⟩ := h
    cases r
    obtain ⟨its, rv, ⟨o, ho, hc, n, hd⟩, _⟩ := I.tuple (.inl (.inl hs))
    obtain ⟨as, hr, hn⟩ := Da.readsAll I SM ds _ its ha rv
    exact ⟨_, Reads.tuple ho hc hd hr, hn⟩
  | .dict kd, _, _, h, r => by
    obtain ⟨a, kvs, rfl, hs, hk, hv⟩ := h
    cases r
    obtain ⟨_, lo, vs, rk, o, es, ep, h1, h2, h3, _, h5, _⟩ := dk_of I.hok hs
    obtain ⟨g1, g2⟩ := reads_keys (h := s.heap) hk rk h5
    obtain ⟨as, g3, g4⟩ := Da.readsKv I SM kd _ _ hv g2
    refine ⟨_, Reads.dict h1 h2.1 h3 g1 g3, fun hm => ?_⟩
    rcases List.mem_cons.mp hm with hm | hm
    · rw [← hm] at lo
      simp at lo
    · exact g4 hm
theorem Da.readsAll (I : Inv X pins σ H s) (SM : SysAt X.base) : ∀ (ds : List PyData) (vs : List V) (us : List Value), DaAll X.K H ds vs → Vals vs us → ∃ as, ReadsAll s.heap us ds as ∧ sysModules ∉ as
  | [], _, _, h, r => by
    obtain rfl := h
    cases r
    exact ⟨_, .nil, by simp⟩
  | d :: ds, _, _, h, r => by
    obtain ⟨x, xs, rfl, h1, h2⟩ := h
    cases r with
    | cons r1 r2 =>
      obtain ⟨as, q1, n1⟩ := Da.reads I SM d _ _ h1 r1
      obtain ⟨bs, q2, n2⟩ := Da.readsAll I SM ds _ _ h2 r2
      refine ⟨_, .cons q1 q2, fun hm => ?_⟩
      rcases List.mem_append.mp hm with hm | hm
      · exact n1 hm
      · exact n2 hm
theorem Da.readsKv (I : Inv X pins σ H s) (SM : SysAt X.base) : ∀ (ds : List (PyData × PyData)) (vs : List V) (us : List Value), DaKv X.K H ds vs → Vals vs us → ∃ as, ReadsAll s.heap us (ds.map (·.2)) as ∧ sysModules ∉ as
  | [], _, _, h, r => by
    obtain rfl := h
    cases r
    exact ⟨_, .nil, by simp⟩
  | (_, d) :: ds, _, _, h, r => by
    obtain ⟨x, xs, rfl, h1, h2⟩ := h
    cases r with
    | cons r1 r2 =>
      obtain ⟨as, q1, n1⟩ := Da.reads I SM d _ _ h1 r1
      obtain ⟨bs, q2, n2⟩ := Da.readsKv I SM ds _ _ h2 r2
      refine ⟨_, .cons q1 q2, fun hm => ?_⟩
      rcases List.mem_append.mp hm with hm | hm
      · exact n1 hm
      · exact n2 hm
end
end
/-- repr(x), x any data -/
def rReprS (K : PySem.W.Frag) : List V → Hp → VK → Prop := fun xs H Q =>
  ∃ x d, xs = [x] ∧ Da K H d x ∧ d.showable = true ∧ d.shown.length ≤ sizeLine ∧ d.depth ≤ 60 ∧ Q (.str d.shown) H
section
variable {X : Cx}
theorem call_reprS (K : PySem.W.Frag) {k : Nat} (hq : Quiet X.A) (hr : Room k X.A) (SM : SysAt X.base) (hK : X.K = K := by rfl) : CallR X (.builtin "repr") (rReprS K) := by
  subst hK
  intro pins s σ H xs us Q I r h
  obtain ⟨x, d, rfl, hd, hs, hz, hdp, q⟩ := h
  obtain ⟨u, rfl, rx⟩ := Vals.one r
  obtain ⟨as, rd, hn⟩ := Da.reads I SM d x u hd rx
  have hu : X.A.units + 200 < cLine := by have := hr.un; omega
  have fin : ∀ h' u' tk, (∀ b o, s.heap.get? b = some o → h'.get? b = some o) →
      EP X pins σ Q (.str d.shown u') { s with heap := h', toks := tk } :=
    fun h' u' tk hk => ⟨.str d.shown, H, I.kept hk, ⟨_, rfl⟩, q⟩
  cases d with
  | none =>
    obtain rfl := hd
    obtain rfl : u = Value.none := rx
    exact PySem.P.repr_of_none (fin s.heap _ _ fun _ _ e => e)
  | bool b =>
    obtain rfl := hd
    obtain rfl : u = Value.bool b := rx
    exact PySem.P.repr_of_bool (fin s.heap _ _ fun _ _ e => e)
  | int i =>
    obtain rfl := hd
    obtain ⟨t, rfl⟩ := rx
    exact PySem.P.repr_of_int (by simpa only [PyData.showable, decide_eq_true_eq] using hs) (fin s.heap _ _ fun _ _ e => e)
  | str z =>
    obtain rfl := hd
    obtain ⟨t, rfl⟩ := rx
    exact PySem.P.repr_of_str (fin s.heap _ _ fun _ _ e => e) (by simpa only [PyData.shown] using hz)
  | list ds =>
    obtain ⟨a, xs, rfl, _⟩ := hd
    cases rx
    exact repr_of_reads' rd hs (fun _ => hn) hq (by omega) (fun _ _ e => e) fin hz
  | tuple ds =>
    obtain ⟨a, xs, rfl, _⟩ := hd
    cases rx
    exact repr_of_reads' rd hs (fun _ => hn) hq (by omega) (fun _ _ e => e) fin hz
  | dict kd =>
    obtain ⟨a, xs, rfl, _⟩ := hd
    cases rx
    exact repr_of_reads' rd hs (fun _ => hn) hq (by omega) (fun _ _ e => e) fin hz
end
section
variable {P : Program} {w : World} {K : PySem.W.Frag}
theorem law_callS {mg mb : Str → Option Value} {CX : CXT} {k : Nat} {fa a : Addr} {fd : FuncData} {x : Str} {sp : Sp}
    {s1 : Shared} {vs : List Value} {ns : List Int}
    (KX : K.In s1.heap) (hns : s1.heap.Ns mainGlobals mg) (hb : s1.heap.Ns builtinsNs mb)
    (hbb : ∀ x : Str, x ≠ "__name__" → mb x = bootBuiltins x) (hlim : s1.heap.NoLimit) (hg : s1.gens = #[])
    (ha : s1.heap.get? a = some { cls := .type "list", data := .seq vs.toArray }) (hi : IntsAre vs ns)
    (hl : ns.length ≤ sizeLine) (hr : Room k callerA)
    (hsys : ∃ mm, s1.heap.Ns sysModules mm)
    (F : ∀ base : Heap, K.In base → base.Ns mainGlobals mg → SysAt base → FnG P w K mg base CX k fa fd [x] sp)
    (hbind : ∀ (s : Shared) (u : Value), BindsTo s fd ⟨[u], []⟩ [(x, u)])
    (hsp : ∀ H : Hp, Only H → SqL K H a (ns.map V.int) → sp [.ref a] H (fun v _ => v = .bl true) fun _ _ _ => False)
    (hCX : ∀ H e s', CX [] H s1 (fun _ _ _ => False) e s' → False) :
    codeAny (model P w) callerA (.call (.ref fa) ⟨[.ref a], []⟩)
      (fun r s' => r = .ok (.ret (.bool true)) ∧ OldK s1.heap s'.heap ∧ s'.os = s1.os ∧ AllBare s'.gens) s1 := by
  have rv := vals_ints hi
  have lenV := hi.length
  have core : ∀ H : Hp, Only H → SqL K H a (ns.map V.int) → HOk P w H s1.heap →
      (∀ b, H b ≠ none → b = a) → (H a ≠ none → K.lookup a = none) →
      codeAny (model P w) callerA (.call (.ref fa) ⟨[.ref a], []⟩)
        (fun r s' => r = .ok (.ret (.bool true)) ∧ OldK s1.heap s'.heap ∧ s'.os = s1.os ∧ AllBare s'.gens) s1 := by
    intro H hO hS hok hA hK
    have fromH : ∀ {b : Addr} {o : Obj}, s1.heap.get? b = some o → H b = none →
        (hidT s1.heap H).get? b = some o := fun e n => hidT_get e n
    have free : ∀ {b : Addr} {o : Obj} {es : Array DictEntry} {ep : Nat},
        s1.heap.get? b = some o → o.data = .dict es ep → H b = none := by
      intro b o es ep e d
      cases q : H b with
      | none => rfl
      | some u =>
        have e' : b = a := hA b (by rw [q]; exact fun z => nomatch z)
        subst e'
        rw [ha] at e
        cases e
        exact nomatch d
    have nsK : ∀ {b : Addr} {m : Str → Option Value}, s1.heap.Ns b m → (hidT s1.heap H).Ns b m := by
      rintro b m ⟨o, es, ep, e, d, r⟩
      exact ⟨o, es, ep, fromH e (free e d), d, r⟩
    have hKb : K.In (hidT s1.heap H) := by
      intro b o e
      refine fromH (KX b o e) ?_
      cases q : H b with
      | none => rfl
      | some u =>
        have e' : b = a := hA b (by rw [q]; exact fun z => nomatch z)
        subst e'
        rw [hK (by rw [q]; exact fun z => nomatch z)] at e
        cases e
    have hM : Mod K mg (hidT s1.heap H) := by
      obtain ⟨mc, h1, h2⟩ := hlim
      exact ⟨hKb, nsK hns, ⟨mb, nsK hb, hbb⟩, ⟨mc, nsK h1, h2⟩⟩
    have e0 : Env0 P w K mg (hidT s1.heap H) callerA [] s1 H :=
      ⟨rfl, hM, fun b o e => of_hidT e, Nat.le_of_eq (hidT_size _ _), trivial,
        fun b hb => (List.not_mem_nil hb).elim, hok, .of_eq hg⟩
    refine codeAny_mono ((F _ hKb (nsK hns) (by obtain ⟨mm, hm⟩ := hsys; exact ⟨mm, nsK hm⟩)).run callerA [] s1 H ⟨[.ref a], []⟩ [.ref a] [.ref a] _ _ hr rfl e0
      (hbind s1 (.ref a)) (.cons rfl .nil) (hsp H hO hS)) ?_
    intro r s' h
    cases r with
    | error e => exact (hCX H e s' h).elim
    | ok fl =>
      cases fl with
      | next => exact (show False from h).elim
      | brk => exact (show False from h).elim
      | cont => exact (show False from h).elim
      | ret u =>
        obtain ⟨v, H', os, bare, un, hok', r', q⟩ := h
        have q' : v = .bl true := q
        subst q'
        obtain rfl : u = Value.bool true := r'
        refine ⟨rfl, OldK.of_keep ?_, os, bare⟩
        intro b o e
        cases q : H b with
        | none => exact un.keep b o e q (fun z => (List.not_mem_nil z).elim) (fun z => (List.not_mem_nil z).elim)
        | some u =>
          rcases hO b with z | ⟨ob, xs, z⟩
          · rw [q] at z
            cases z
          · obtain ⟨e1, _⟩ := hok b _ z
            obtain ⟨e2, _⟩ := hok' b _ (un.frzs b ob _ z)
            rw [e] at e1
            cases e1
            exact e2
  cases hk : K.lookup a with
  | some o =>
    have e := KX a o hk
    rw [ha] at e
    cases e
    exact core (fun _ => none) (fun _ => .inl rfl)
      (.inr ⟨_, vs.toArray, _, hk, rfl, rfl, rfl, by rw [List.size_toArray, lenV]; exact hl, by simpa using rv⟩)
      (fun b u z => nomatch z) (fun b z => (z rfl).elim) (fun z => (z rfl).elim)
  | none =>
    refine core (fun b => if b = a then some (.frz { cls := .type "list", data := .seq vs.toArray } (.lst (ns.map V.int))) else none)
      ?_ (.inl (.inr ⟨{ cls := .type "list", data := .seq vs.toArray }, if_pos rfl⟩)) ?_ ?_ (fun _ => hk)
    · intro b
      by_cases hb : b = a
      · exact .inr ⟨_, _, if_pos hb⟩
      · exact .inl (if_neg hb)
    · intro b u z
      by_cases hb : b = a
      · have z' := (if_pos hb).symm.trans z
        cases z'
        subst hb
        exact ⟨ha, by rw [List.length_map]; exact hl, vs, _, rv, ha⟩
      · have z' := (if_neg hb).symm.trans z
        cases z'
    · intro b z
      by_cases hb : b = a
      · exact hb
      · exact (z (if_neg hb)).elim
end

theorem walkS {l : PySem.W.OpenLaw} {n k : Nat} {q : Program} {loose : List Str} {XP : (Str → Option Value) → Heap → Prop}
    {YP : World → Heap → Prop} {d : DefRec} {K : Params → PySem.W.Frag} {CX : World → CXT} {sp : World → Sp} {x : Str}
    (hi : PyProof.Rows.importsNone q = true) (hn : l.most = some n) (hn2 : n ≤ sizeLine) (hdf : d.params.defaults = []) (hr : Room k callerA)
    (hY : ∀ (w : World) (h : Heap), YP w h → (K w.params).In h)
    (F : ∀ (w : World) (mg : Str → Option Value) (fa : Addr) (h : Heap), (K w.params).In h → h.Ns mainGlobals mg →
      mg d.name = some (.ref fa) → ∃ fd : FuncData, (∀ (s : Shared) (u : Value), BindsTo s fd ⟨[u], []⟩ [(x, u)]) ∧
        ∀ base : Heap, (K w.params).In base → base.Ns mainGlobals mg → SysAt base →
          FnG l.prog w (K w.params) mg base (CX w) k fa fd [x] (sp w))
    (hsp : ∀ (w : World) (H : Hp) (a : Addr) (ns : List Int), ns.length ≤ n → Only H →
      SqL (K w.params) H a (ns.map V.int) → sp w [.ref a] H (fun v _ => v = .bl true) fun _ _ _ => False)
    (hCX : ∀ (w : World) (H : Hp) (s : Shared) (e : Value) (s' : Shared), CX w [] H s (fun _ _ _ => False) e s' → False) :
    PySem.W.WalkO q loose XP YP l.row.toRowW d [] (fun f vs => PySem.call f vs) := by
  refine Att.attach_call hn hdf ?_
  intro w s0 s1 mg mb fa o pm cd doc a vs ns G Y ho hd hcd hmg hobj hints hlen hg
  obtain ⟨fd, hb, hF⟩ := F w mg fa _ (hY w _ Y) G.T.g hmg
  exact law_callS (hY w _ Y) G.T.g G.T.b G.T.builtins G.T.nolimit hg hobj hints (Nat.le_trans hlen hn2) hr (by obtain ⟨mm, hm, _⟩ := (G.T.seer hi).mods; exact ⟨mm, hm⟩) hF hb
    (fun H hO hS => hsp w H a ns hlen hO hS) (fun H e s' => hCX w H s1 e s')

end Nw
/-! Walks of anything by one word. -/
namespace Nw
open PySem PySem.Spec PyProof.Rows L2

/-- what a comprehension's reading asks, D its new list -/
abbrev LcW (J : It) (g : TG) (tt : TT) (te : TE) (vs : List Nat) (σ : L2.St) (D : Addr) (H1 : Hp) (Qd : Hp → Prop) : Prop :=
  ∃ W : Nat → Nat → Hp → Prop, (∃ m, W 0 m (upd H1 D (.lst []))) ∧ ∀ i m H, W i m H →
    (J.stop i H ∧ Qd H) ∨ (J.go i H ∧ ∃ Nx : Hp → Prop, (∀ H', Nx H' → ∃ m', m' < m ∧ W (i + 1) m' H') ∧
      ∀ x H', J.yld i H x H' → g x (wipe σ vs) H' fun σ2 H2 => wipe σ2 vs = wipe σ vs ∧ tt σ2 H2 fun b H3 =>
        if b = true then te σ2 H3 fun y H4 => ∃ acc, H4 D = some (.lst acc) ∧ acc.length < sizeLine ∧
          Nx (upd H4 D (.lst (acc ++ [y]))) else Nx H3)
theorem lc_by {J : It} {g : TG} {tt : TT} {te : TE} {vs : List Nat} {σ : L2.St} {D : Addr} {H1 : Hp} {Qd : Hp → Prop}
    (n : Nat) (Pv : Nat → Hp → Prop) (h0 : Pv 0 (upd H1 D (.lst [])))
    (hgo : ∀ i H, i < n → Pv i H → J.go i H) (hst : ∀ H, Pv n H → J.stop n H)
    (hs : ∀ i H x H', i < n → Pv i H → J.yld i H x H' → g x (wipe σ vs) H' fun σ2 H2 => wipe σ2 vs = wipe σ vs ∧
      tt σ2 H2 fun b H3 => if b = true then te σ2 H3 fun y H4 => ∃ acc, H4 D = some (.lst acc) ∧ acc.length < sizeLine ∧
        Pv (i + 1) (upd H4 D (.lst (acc ++ [y]))) else Pv (i + 1) H3)
    (hd : ∀ H, Pv n H → Qd H) : LcW J g tt te vs σ D H1 Qd := by
  refine ⟨fun i m H => m = n - i ∧ i ≤ n ∧ Pv i H, ⟨n, by omega, Nat.zero_le _, h0⟩, ?_⟩
  rintro i m H ⟨rfl, hi, p⟩
  by_cases hlt : i < n
  · refine .inr ⟨hgo i H hlt p, Pv (i + 1), fun H' p' => ⟨n - (i + 1), by omega, rfl, hlt, p'⟩, ?_⟩
    intro x H' y
    exact hs i H x H' hlt p y
  · have e : i = n := by omega
    subst e
    exact .inl ⟨hst H p, hd H p⟩
theorem for_by {J : It} {g : TG} {tb : TS} {D : Ends} {σ : L2.St} {H1 : Hp} (n : Nat) (Pv : Nat → L2.St → Hp → Prop) (h0 : Pv 0 σ H1)
    (hgo : ∀ i σ H, i < n → Pv i σ H → J.go i H) (hst : ∀ σ H, Pv n σ H → J.stop n H)
    (hs : ∀ i σ H x H', i < n → Pv i σ H → J.yld i H x H' →
      g x σ H' fun σ2 H2 => tb { D with nx := Pv (i + 1), ct := Pv (i + 1), bk := D.nx } σ2 H2)
    (hd : ∀ σ H, Pv n σ H → D.nx σ H) :
    ∃ W : Nat → Nat → L2.St → Hp → Prop, (∃ m, W 0 m σ H1) ∧ ∀ i m σ H, W i m σ H →
      (J.stop i H ∧ D.nx σ H) ∨ (J.go i H ∧ ∃ N : L2.St → Hp → Prop, (∀ σ' H', N σ' H' → ∃ m', m' < m ∧ W (i + 1) m' σ' H') ∧
        ∀ x H', J.yld i H x H' → g x σ H' fun σ2 H2 => tb { D with nx := N, ct := N, bk := D.nx } σ2 H2) := by
  refine ⟨fun i m σ H => m = n - i ∧ i ≤ n ∧ Pv i σ H, ⟨n, by omega, Nat.zero_le _, h0⟩, ?_⟩
  rintro i m σ H ⟨rfl, hi, p⟩
  by_cases hlt : i < n
  · refine .inr ⟨hgo i σ H hlt p, Pv (i + 1), fun σ' H' p' => ⟨n - (i + 1), by omega, rfl, hlt, p'⟩, ?_⟩
    intro x H' y
    exact hs i σ H x H' hlt p y
  · have e : i = n := by omega
    subst e
    exact .inl ⟨hst σ H p, hd σ H p⟩

/-- what is known but at D stays known -/
abbrev ExD (D : Addr) (H H' : Hp) : Prop := ∀ b o, b ≠ D → H b = some o → H' b = some o
theorem Ex.d {D : Addr} {H H' : Hp} (e : Ex H H') : ExD D H H' := fun b o _ h => e b o h
theorem ExD.put {D : Addr} {H : Hp} {o : HO} : ExD D H (upd H D o) := fun b u n h => by
  rw [upd_ne n]
  exact h
theorem ExD.tr {D : Addr} {H H1 H2 : Hp} (a : ExD D H H1) (b : ExD D H1 H2) : ExD D H H2 := fun c o n h => b c o n (a c o n h)
/-- item by item over the turns that give -/
def Given (n : Nat) (f : Nat → Bool) (R : Nat → V → Prop) (ys : List V) : Prop := Paired R ((List.range n).filter f) ys
theorem Given.nil {f : Nat → Bool} {R : Nat → V → Prop} : Given 0 f R [] := Paired.nil
theorem paired_app {α β : Type} {F : α → β → Prop} : ∀ {as : List α} {bs : List β} {as' : List α} {bs' : List β}, Paired F as bs → Paired F as' bs' → Paired F (as ++ as') (bs ++ bs')
  | _, _, _, _, .nil, h => h
  | _, _, _, _, .cons r t, h => .cons r (paired_app t h)
theorem Given.yes {n : Nat} {f : Nat → Bool} {R : Nat → V → Prop} {ys : List V} {y : V} (h : Given n f R ys) (hf : f n = true) (r : R n y) : Given (n + 1) f R (ys ++ [y]) := by
  unfold Given
  rw [List.range_succ, List.filter_append, List.filter_cons, if_pos hf]
  exact paired_app h (Paired.cons r Paired.nil)
theorem Given.no {n : Nat} {f : Nat → Bool} {R : Nat → V → Prop} {ys : List V} (h : Given n f R ys) (hf : f n = false) : Given (n + 1) f R ys := by
  unfold Given
  rw [List.range_succ, List.filter_append, List.filter_cons, if_neg (by rw [hf]; decide)]
  rw [List.filter_nil, List.append_nil]
  exact h
theorem paired_imp {α β : Type} {F G : α → β → Prop} (h : ∀ a b, F a b → G a b) : ∀ {as : List α} {bs : List β}, Paired F as bs → Paired G as bs
  | _, _, .nil => .nil
  | _, _, .cons r t => .cons (h _ _ r) (paired_imp h t)
theorem Given.imp {n : Nat} {f : Nat → Bool} {R S : Nat → V → Prop} {ys : List V} (g : Given n f R ys) (h : ∀ i y, R i y → S i y) : Given n f S ys := paired_imp h g
theorem Given.len {n : Nat} {f : Nat → Bool} {R : Nat → V → Prop} {ys : List V} (g : Given n f R ys) : ys.length ≤ n := by
  have h := Paired.length g
  have h2 := List.length_filter_le f (List.range n)
  rw [List.length_range] at h2
  omega
theorem paired_eq {α β : Type} {v : α → β} : ∀ {as : List α} {bs : List β}, Paired (fun a b => b = v a) as bs → bs = as.map v
  | _, _, .nil => rfl
  | _, _, .cons r t => by
    rw [List.map_cons, ← r, ← paired_eq t]
/-- what each turn gives is told outright -/
theorem Given.eq {n : Nat} {f : Nat → Bool} {v : Nat → V} {ys : List V} (g : Given n f (fun i y => y = v i) ys) : ys = ((List.range n).filter f).map v := paired_eq g
theorem filter_true {α : Type} (l : List α) : l.filter (fun _ => true) = l := List.filter_eq_self.mpr fun _ _ => rfl
theorem Given.all {n : Nat} {v : Nat → V} {ys : List V} (g : Given n (fun _ => true) (fun i y => y = v i) ys) : ys = (List.range n).map v := by
  have h := g.eq
  rw [filter_true] at h
  exact h

/-- a comprehension that changes nothing that was there: f which turns give, R what (not hanging on D) -/
theorem lc_ev {J : It} {g : TG} {tt : TT} {te : TE} {vs : List Nat} {σ : L2.St} {D : Addr} {H1 : Hp} {Qd : Hp → Prop}
    (n : Nat) (f : Nat → Bool) (R : Nat → V → Hp → Prop) (hz : n ≤ 100000) (hD : H1 D = none)
    (mono : ∀ i y H H', ExD D H H' → R i y H → R i y H')
    (hgo : ∀ i H, i < n → Ex H1 H → J.go i H) (hst : ∀ H, Ex H1 H → J.stop n H)
    (hs : ∀ i H x H', i < n → Ex H1 H → (∃ acc, H D = some (.lst acc)) → J.yld i H x H' → ∀ (Q : V → Hp → Prop) (N : Hp → Prop),
      (f i = true → ∀ y H4, Ex H H4 → R i y H4 → Q y H4) → (f i = false → ∀ H4, Ex H H4 → N H4) →
      g x (wipe σ vs) H' fun σ2 H2 => wipe σ2 vs = wipe σ vs ∧ tt σ2 H2 fun b H3 => if b = true then te σ2 H3 Q else N H3)
    (hd : ∀ ys H, Ex H1 H → H D = some (.lst ys) → Given n f (fun i y => R i y H) ys → Qd H) : LcW J g tt te vs σ D H1 Qd := by
  refine lc_by n (fun i H => Ex H1 H ∧ ∃ ys, H D = some (.lst ys) ∧ Given i f (fun i y => R i y H) ys)
    ⟨Ex.nw hD, [], upd_same, .nil⟩ (fun i H hi p => hgo i H hi p.1) (fun H p => hst H p.1) ?_ ?_
  · rintro i H x H' hi ⟨e, ys, hy, gv⟩ y
    refine hs i H x H' hi e ⟨_, hy⟩ y _ _ ?_ ?_
    · intro hf z H4 e4 r
      refine ⟨ys, e4 D _ hy, by have := gv.len; have e1 : sizeLine = 16777216 := sizeLine_eq; omega, (e.tr e4).wr hD, _, upd_same, ?_⟩
      exact (gv.imp fun j y r' => mono j y _ _ (e4.d.tr ExD.put) r').yes hf (mono i z _ _ ExD.put r)
    · intro hf H4 e4
      exact ⟨e.tr e4, ys, e4 D _ hy, (gv.imp fun j y r' => mono j y _ _ e4.d r').no hf⟩
  · rintro H ⟨e, ys, hy, gv⟩
    exact hd ys H e hy gv
/-- turns over a list that stands -/
theorem itl_go {K : PySem.W.Frag} {H H' : Hp} {a : Addr} {xs : List V} (h : SqL K H a xs) (e : Ex H H') {i : Nat} (hi : i < xs.length) : (Itl K a).go i H' :=
  ⟨xs, xs[i], e.l h, List.getElem?_eq_getElem hi⟩
theorem itl_stop {K : PySem.W.Frag} {H H' : Hp} {a : Addr} {xs : List V} (h : SqL K H a xs) (e : Ex H H') : (Itl K a).stop xs.length H' :=
  ⟨xs, e.l h, Nat.le_refl _⟩
theorem itl_yld {K : PySem.W.Frag} {H H' H'' : Hp} {a : Addr} {xs : List V} {i : Nat} {x : V} (y : (Itl K a).yld i H' x H'') (h : SqL K H a xs) (e : Ex H H') : H'' = H' ∧ xs[i]? = some x :=
  ⟨y.1, y.2 xs (e.l h)⟩
theorem itz_go {K : PySem.W.Frag} {H H' : Hp} {a b : Addr} {xs ys : List V} (h : SqL K H a xs) (g : SqL K H b ys) (e : Ex H H') {i : Nat} (hi : i < min xs.length ys.length) : (Itz K a b).go i H' :=
  ⟨xs, ys, xs[i]'(by omega), ys[i]'(by omega), e.l h, e.l g, List.getElem?_eq_getElem _, List.getElem?_eq_getElem _⟩
theorem itz_stop {K : PySem.W.Frag} {H H' : Hp} {a b : Addr} {xs ys : List V} (h : SqL K H a xs) (g : SqL K H b ys) (e : Ex H H') : (Itz K a b).stop (min xs.length ys.length) H' :=
  ⟨xs, ys, e.l h, e.l g, by omega⟩
theorem ite_go {K : PySem.W.Frag} {H H' : Hp} {a : Addr} {xs : List V} (h : SqL K H a xs) (e : Ex H H') {i : Nat} (hi : i < xs.length) : (Ite K a).go i H' :=
  ⟨xs, xs[i], e.l h, List.getElem?_eq_getElem hi⟩
theorem ite_stop {K : PySem.W.Frag} {H H' : Hp} {a : Addr} {xs : List V} (h : SqL K H a xs) (e : Ex H H') : (Ite K a).stop xs.length H' :=
  ⟨xs, e.l h, Nat.le_refl _⟩
theorem cut1 (xs : List V) : cutV xs (some 1) none = xs.drop 1 := by
  unfold cutV
  rw [show HT.sIx xs.length 0 (some 1) = min 1 xs.length from HT.sIx_nat xs.length 0 1, HT.sIx_none]
  cases xs with
  | nil => rfl
  | cons x r =>
    have e : min 1 (x :: r).length = 1 := by
      rw [List.length_cons]
      omega
    rw [e]
    show List.take ((x :: r).length - 1) r = r
    rw [List.length_cons, Nat.add_sub_cancel]
    exact List.take_length
end Nw
namespace Nw
open PySem PySem.Spec PyProof.Rows L2
/-- the inner loop of a comprehension of two clauses -/
abbrev LcI (J1 : It) (g1 : TG) (tt1 : TT) (te : TE) (vs1 : List Nat) (σ2 : L2.St) (D : Addr) (H4 : Hp) (Nx : Hp → Prop) : Prop :=
  ∃ W1 : Nat → Nat → Hp → Prop, (∃ m, W1 0 m H4) ∧ ∀ j k H, W1 j k H →
    (J1.stop j H ∧ Nx H) ∨ (J1.go j H ∧ ∃ Nx1 : Hp → Prop, (∀ H', Nx1 H' → ∃ k', k' < k ∧ W1 (j + 1) k' H') ∧
      ∀ x H', J1.yld j H x H' → g1 x (wipe σ2 vs1) H' fun σ3 H5 => wipe σ3 vs1 = wipe σ2 vs1 ∧ tt1 σ3 H5 fun b H6 =>
        if b = true then te σ3 H6 fun y H7 => ∃ acc, H7 D = some (.lst acc) ∧ acc.length < sizeLine ∧
          Nx1 (upd H7 D (.lst (acc ++ [y]))) else Nx1 H6)
theorem lci_by {J1 : It} {g1 : TG} {tt1 : TT} {te : TE} {vs1 : List Nat} {σ2 : L2.St} {D : Addr} {H4 : Hp} {Nx : Hp → Prop}
    (n : Nat) (Pv : Nat → Hp → Prop) (h0 : Pv 0 H4) (hgo : ∀ i H, i < n → Pv i H → J1.go i H) (hst : ∀ H, Pv n H → J1.stop n H)
    (hs : ∀ i H x H', i < n → Pv i H → J1.yld i H x H' → g1 x (wipe σ2 vs1) H' fun σ3 H5 => wipe σ3 vs1 = wipe σ2 vs1 ∧
      tt1 σ3 H5 fun b H6 => if b = true then te σ3 H6 fun y H7 => ∃ acc, H7 D = some (.lst acc) ∧ acc.length < sizeLine ∧
        Pv (i + 1) (upd H7 D (.lst (acc ++ [y]))) else Pv (i + 1) H6)
    (hd : ∀ H, Pv n H → Nx H) : LcI J1 g1 tt1 te vs1 σ2 D H4 Nx := by
  refine ⟨fun i m H => m = n - i ∧ i ≤ n ∧ Pv i H, ⟨n, by omega, Nat.zero_le _, h0⟩, ?_⟩
  rintro i m H ⟨rfl, hi, p⟩
  by_cases hlt : i < n
  · refine .inr ⟨hgo i H hlt p, Pv (i + 1), fun H' p' => ⟨n - (i + 1), by omega, rfl, hlt, p'⟩, ?_⟩
    intro x H' y
    exact hs i H x H' hlt p y
  · have e : i = n := by omega
    subst e
    exact .inl ⟨hst H p, hd H p⟩
theorem lc2_by {J : It} {g : TG} {tt : TT} {wi1 : TI} {g1 : TG} {tt1 : TT} {te : TE} {vs vs1 : List Nat} {σ : L2.St} {D : Addr} {H1 : Hp} {Qd : Hp → Prop}
    (n : Nat) (Pv : Nat → Hp → Prop) (h0 : Pv 0 (upd H1 D (.lst [])))
    (hgo : ∀ i H, i < n → Pv i H → J.go i H) (hst : ∀ H, Pv n H → J.stop n H)
    (hs : ∀ i H x H', i < n → Pv i H → J.yld i H x H' → g x (wipe σ vs) H' fun σ2 H2 => wipe σ2 vs = wipe σ vs ∧
      tt σ2 H2 fun b H3 => if b = true then wi1 σ2 H3 fun J1 H4 => LcI J1 g1 tt1 te vs1 σ2 D H4 (Pv (i + 1)) else Pv (i + 1) H3)
    (hd : ∀ H, Pv n H → Qd H) :
    ∃ W : Nat → Nat → Hp → Prop, (∃ m, W 0 m (upd H1 D (.lst []))) ∧ ∀ i m H, W i m H →
      (J.stop i H ∧ Qd H) ∨ (J.go i H ∧ ∃ Nx : Hp → Prop, (∀ H', Nx H' → ∃ m', m' < m ∧ W (i + 1) m' H') ∧ ∀ x H', J.yld i H x H' →
        g x (wipe σ vs) H' fun σ2 H2 => wipe σ2 vs = wipe σ vs ∧ tt σ2 H2 fun b H3 =>
          if b = true then wi1 σ2 H3 fun J1 H4 => LcI J1 g1 tt1 te vs1 σ2 D H4 Nx else Nx H3) := by
  refine ⟨fun i m H => m = n - i ∧ i ≤ n ∧ Pv i H, ⟨n, by omega, Nat.zero_le _, h0⟩, ?_⟩
  rintro i m H ⟨rfl, hi, p⟩
  by_cases hlt : i < n
  · refine .inr ⟨hgo i H hlt p, Pv (i + 1), fun H' p' => ⟨n - (i + 1), by omega, rfl, hlt, p'⟩, ?_⟩
    intro x H' y
    exact hs i H x H' hlt p y
  · have e : i = n := by omega
    subst e
    exact .inl ⟨hst H p, hd H p⟩
end Nw
/-! Rules told over the written part by its own name, so that a comprehension's block may use them. -/
namespace Nw
open PySem PySem.Spec PyProof.Rows L2
section
variable {X : Cx} {K : PySem.W.Frag}
theorem op_eqDk (K : PySem.W.Frag) (hu : X.A.units + 64 < cLine) (hK : X.K = K := by rfl) : OpR X (compareOp .Eq) (rEqD K) := by
  subst hK
  exact op_eqD hu
theorem op_neDk (K : PySem.W.Frag) (hu : X.A.units + 64 < cLine) (hK : X.K = K := by rfl) : OpR X (compareOp .NotEq) (rNeD K) := by
  subst hK
  exact op_neD hu
theorem op_inK (K : PySem.W.Frag) (hK : X.K = K := by rfl) : OpR X (compareOp .In) (rIn K false) := by
  subst hK
  exact op_in_seq
theorem op_notInK (K : PySem.W.Frag) (hK : X.K = K := by rfl) : OpR X (compareOp .NotIn) (rIn K true) := by
  subst hK
  exact op_notIn_seq
theorem op_inDk (K : PySem.W.Frag) {k : Nat} (hr : Room k X.A) (hK : X.K = K := by rfl) : OpR X (compareOp .In) (rInD K) := by
  subst hK
  exact op_inD (by have := hr.un; omega)
theorem op_notInDk (K : PySem.W.Frag) {k : Nat} (hr : Room k X.A) (hK : X.K = K := by rfl) : OpR X (compareOp .NotIn) (rNotInD K) := by
  subst hK
  exact op_notInD (by have := hr.un; omega)
/-- < of ints, of tuples of ints -/
def rLtA (K : PySem.W.Frag) : R2 := fun x y H Q => (∃ i j, x = .int i ∧ y = .int j ∧ Q (.bl (decide (i < j))) H) ∨ rLtT K x y H Q
theorem op_ltA (K : PySem.W.Frag) (hu : X.A.units < cLine) (hK : X.K = K := by rfl) : OpR X (compareOp .Lt) (rLtA K) := by
  subst hK
  intro pins s σ H x y v u Q I rx ry q
  rcases q with q | q
  · exact op_lt pins s σ H x y v u Q I rx ry q
  · exact op_ltT hu pins s σ H x y v u Q I rx ry q
theorem op_catTk (K : PySem.W.Frag) (hK : X.K = K := by rfl) : OpR X (binaryOp .Add) (rCatT K) := by
  subst hK
  exact op_catT
theorem ix_listK (K : PySem.W.Frag) (hK : X.K = K := by rfl) : IxR X (rIxL K) := by
  subst hK
  exact ix_list
theorem ix_tupK (K : PySem.W.Frag) (hK : X.K = K := by rfl) : IxR X (rIxT K) := by
  subst hK
  exact ix_tup
theorem ix_seqK (K : PySem.W.Frag) (hK : X.K = K := by rfl) : IxR X (rIx K) := by
  subst hK
  exact ix_seq
theorem sl_listK (K : PySem.W.Frag) (hK : X.K = K := by rfl) : SlR X (rSlL K) := by
  subst hK
  exact sl_list
theorem sl_tupK (K : PySem.W.Frag) (hK : X.K = K := by rfl) : SlR X (rSlT K) := by
  subst hK
  exact sl_tup
def rLenQ (K : PySem.W.Frag) : List V → Hp → VK → Prop := fun xs H Q => ∃ p ys, xs = [.ref p] ∧ (SqL K H p ys ∨ SqT K H p ys) ∧ Q (.int ys.length) H
theorem call_lenK (K : PySem.W.Frag) (hK : X.K = K := by rfl) : CallR X (.builtin "len") (rLenQ K) := by
  subst hK
  exact call_len_seq
def rListQ (K : PySem.W.Frag) : List V → Hp → VK → Prop := fun xs H Q => ∃ p ys, xs = [.ref p] ∧ (SqL K H p ys ∨ SqT K H p ys) ∧ ∀ l, H l = none → Q (.ref l) (upd H l (.lst ys))
theorem call_listK (K : PySem.W.Frag) (hK : X.K = K := by rfl) : CallR X (.type "list") (rListQ K) := by
  subst hK
  exact call_list_of
theorem call_reprK (K : PySem.W.Frag) {k : Nat} (hq : Quiet X.A) (hr : Room k X.A) (hK : X.K = K := by rfl) : CallR X (.builtin "repr") (rReprD K) := by
  subst hK
  exact call_reprD hq hr
theorem call_isiK (K : PySem.W.Frag) (hK : X.K = K := by rfl) : CallR X (.builtin "isinstance") (rIsi K) := by
  subst hK
  exact call_isi
theorem cr_allK (K : PySem.W.Frag) (hc : X.calm = true) (hK : X.K = K := by rfl) : CallR X (.builtin "all") (rAll K) := by
  subst hK
  exact cr_all hc
theorem cr_anyK (K : PySem.W.Frag) (hc : X.calm = true) (hK : X.K = K := by rfl) : CallR X (.builtin "any") (rAny K) := by
  subst hK
  exact cr_any hc
theorem cr_sumK (K : PySem.W.Frag) (hc : X.calm = true) (hK : X.K = K := by rfl) : CallR X (.builtin "sum") (rSum K) := by
  subst hK
  exact cr_sum hc
theorem cr_maxK (K : PySem.W.Frag) (hc : X.calm = true) (hK : X.K = K := by rfl) : CallR X (.builtin "max") (rMax K) := by
  subst hK
  exact cr_max hc
theorem cr_minK' (K : PySem.W.Frag) (hc : X.calm = true) (hK : X.K = K := by rfl) : CallR X (.builtin "min") (rMin K) := by
  subst hK
  exact cr_min hc
theorem cr_sortedIk (K : PySem.W.Frag) (hK : X.K = K := by rfl) : CallR X (.builtin "sorted") (rSortedI K) := by
  subst hK
  exact cr_sortedI
theorem cr_sortedPOk (K : PySem.W.Frag) (hK : X.K = K := by rfl) : CallR X (.builtin "sorted") (rSortedPO K) := by
  subst hK
  exact cr_sortedPO
theorem pi_listK (K : PySem.W.Frag) {tg l : Expr} {tl : TE} (hl : PE X l tl) (hK : X.K = K := by rfl) : PI X tg l (iList K tl) := by
  subst hK
  exact pi_list hl
theorem pi_tupK (K : PySem.W.Frag) {tg l : Expr} {tl : TE} (hl : PE X l tl) (hK : X.K = K := by rfl) : PI X tg l (iTup K tl) := by
  subst hK
  exact pi_tup hl
theorem pg_tupK (K : PySem.W.Frag) {es : List Expr} {k : Nat} {pos : Pos} {t : TGs} {n : Nat} (hc : X.calm = true) (h : PGs X es t)
    (hn : (assignEach es X.env).length = n := by rfl)
    (hst : (assignEach es X.env).findIdx? (·.1) = none := by rfl) (hK : X.K = K := by rfl) : PG X (.Tuple es k pos) (gTup K n t) := by
  subst hK
  exact pg_tup hc h hn hst
end
end Nw
namespace Nw
open PySem PySem.Spec PyProof.Rows L2
theorem mil {n : Nat} (h : n ≤ 1000000) : n ≤ sizeLine := by
  rw [sizeLine_eq]
  omega
theorem mil' {n : Nat} (h : n < 1000000) : n < sizeLine := by
  rw [sizeLine_eq]
  omega
/-- xs + ys, lists that are read -/
def rCatS (K : PySem.W.Frag) : R2 := fun x y H Q => ∃ l b xs zs, x = .ref l ∧ y = .ref b ∧ SqL K H l xs ∧ SqL K H b zs ∧
  xs.length + zs.length ≤ 1000000 ∧ ∀ p, H p = none → Q (.ref p) (upd H p (.lst (xs ++ zs)))
theorem op_catS {X : Cx} (K : PySem.W.Frag) (hK : X.K = K := by rfl) : OpR X (binaryOp .Add) (rCatS K) := by
  subst hK
  intro pins s σ H x y v u Q I rx ry h
  obtain ⟨l, b, xs, zs, rfl, rfl, hH, hB, hz, q⟩ := h
  cases rx
  cases ry
  obtain ⟨its, r, ⟨⟨cls, dd, data, sl⟩, n, e, hc, hd0, hd⟩, _⟩ := I.list hH
  obtain ⟨its2, r2, ⟨⟨cls2, dd2, data2, sl2⟩, n2, e2, hc2, hd02, hd2⟩, _⟩ := I.list hB
  simp only at hc hd hc2 hd2
  subst hc hd hc2 hd2
  have l1 := r.length
  have l2 := r2.length
  have z : xs.length + zs.length ≤ sizeLine := mil hz
  refine concat_meets ⟨_, e, rfl⟩ ⟨_, e2, rfl⟩ noFill_list_add seq_list_add PySem.F.slot_list_add PySem.F.entry_list_add
    (PySem.F.args_list_add_2 _ _) (list_addW l b its.toArray its2.toArray n n2 dd dd2 sl sl2 (by simp only [List.size_toArray]; omega)) ⟨e, e2, ?_⟩
  have ea : its.toArray ++ its2.toArray = (its ++ its2).toArray := by simp
  rw [ea]
  exact ⟨.ref _, _, I.lnew (t' := s.toks) (r.append r2) (by rw [List.length_append]; omega), rfl, q _ I.fresh⟩
end Nw
/-! What the package's looks at values answer, on data. -/
namespace Nw
open PySem PySem.Spec PyProof.Rows L2

def isInt : PyData → Bool
  | .int _ => true
  | _ => false
theorem isInt_eq (d : PyData) : (isA "int" d && !isA "bool" d) = isInt d := by
  cases d <;> first | rfl | decide +kernel
/-- an int from 0 to m - 1 -/
def numB : PyData → Int → Bool
  | .int i, m => decide (0 ≤ i) && decide (i < m)
  | _, _ => false
def tupB : PyData → Int → Int → Bool
  | .tuple [a, b], m, n => numB a m && numB b n
  | _, _, _ => false
def listB : PyData → Int → Bool
  | .list ds, m => ds.all fun d => numB d m
  | _, _ => false
/-- ascending, by an order on the items -/
def ascB {α : Type} (lt : α → α → Bool) : List α → Bool
  | x :: y :: r => lt x y && ascB lt (y :: r)
  | _ => true
def ltIn (x y : Int) : Bool := decide (x < y)
def ltPr (x y : Int × Int) : Bool := HT.lexLt [x.1, x.2] [y.1, y.2]
def dPair (p : Int × Int) : PyData := .tuple [.int p.1, .int p.2]
/-- the ints of a list of ints, the pairs of a list of pairs -/
def intsOf : List PyData → Option (List Int)
  | [] => some []
  | .int i :: r => (intsOf r).map (i :: ·)
  | _ => none
def pairsOf : List PyData → Option (List (Int × Int))
  | [] => some []
  | .tuple [.int i, .int j] :: r => (pairsOf r).map ((i, j) :: ·)
  | _ => none
theorem intsOf_map : ∀ ns : List Int, intsOf (ns.map PyData.int) = some ns
  | [] => rfl
  | n :: ns => by
    simp only [List.map_cons, intsOf, intsOf_map ns, Option.map_some]
theorem pairsOf_map : ∀ ps : List (Int × Int), pairsOf (ps.map dPair) = some ps
  | [] => rfl
  | (a, b) :: ps => by
    simp only [List.map_cons, dPair, pairsOf, pairsOf_map ps, Option.map_some]
theorem ints_of_all {m : Int} : ∀ {ds : List PyData}, (ds.all fun d => numB d m) = true → ∃ ns : List Int, ds = ns.map PyData.int ∧ ∀ n ∈ ns, 0 ≤ n ∧ n < m
  | [], _ => ⟨[], rfl, fun _ h => nomatch h⟩
  | d :: ds, h => by
    simp only [List.all_cons, Bool.and_eq_true] at h
    obtain ⟨ns, rfl, hn⟩ := ints_of_all h.2
    cases d with
    | int i =>
      have h1 := h.1
      simp only [numB, Bool.and_eq_true, decide_eq_true_eq] at h1
      refine ⟨i :: ns, rfl, ?_⟩
      intro n hm
      rcases List.mem_cons.mp hm with rfl | hm
      · exact h1
      · exact hn n hm
    | _ =>
      have h1 := h.1
      simp [numB] at h1
theorem numB_inv {d : PyData} {m : Int} (h : numB d m = true) : ∃ i, d = .int i ∧ 0 ≤ i ∧ i < m := by
  cases d with
  | int i =>
    simp only [numB, Bool.and_eq_true, decide_eq_true_eq] at h
    exact ⟨i, rfl, h⟩
  | _ => simp [numB] at h
theorem tupB_inv {d : PyData} {m k : Int} (h : tupB d m k = true) : ∃ i j, d = dPair (i, j) ∧ (0 ≤ i ∧ i < m) ∧ (0 ≤ j ∧ j < k) := by
  match d, h with
  | .tuple [a, b], h =>
    simp only [tupB, Bool.and_eq_true] at h
    obtain ⟨i, rfl, hi⟩ := numB_inv h.1
    obtain ⟨j, rfl, hj⟩ := numB_inv h.2
    exact ⟨i, j, rfl, hi, hj⟩
theorem pairs_of_all {m k : Int} : ∀ {ds : List PyData}, (ds.all fun d => tupB d m k) = true →
    ∃ ps : List (Int × Int), ds = ps.map dPair ∧ ∀ p ∈ ps, (0 ≤ p.1 ∧ p.1 < m) ∧ (0 ≤ p.2 ∧ p.2 < k)
  | [], _ => ⟨[], rfl, fun _ h => nomatch h⟩
  | d :: ds, h => by
    simp only [List.all_cons, Bool.and_eq_true] at h
    obtain ⟨ps, rfl, hn⟩ := pairs_of_all h.2
    obtain ⟨i, j, rfl, hi, hj⟩ := tupB_inv h.1
    refine ⟨(i, j) :: ps, rfl, ?_⟩
    intro p hp
    rcases List.mem_cons.mp hp with rfl | hp
    · exact ⟨hi, hj⟩
    · exact hn p hp
def tuplesB : PyData → Int → Int → Bool
  | .list ds, m, n => (ds.all fun d => tupB d m n) && (match pairsOf ds with | some ps => ascB ltPr ps | none => false)
  | _, _, _ => false
def targetsB : PyData → Int → Bool
  | .list ds, m => (ds.all fun d => numB d m) && (decide (0 < ds.length) && (match intsOf ds with | some ns => ascB ltIn ns | none => false))
  | _, _ => false
def nudgesB : PyData → Int → Bool
  | .list ds, m => decide (ds.length ≤ 8) && ds.all fun d => targetsB d m
  | _, _ => false
def webB : PyData → Bool
  | .tuple [.int n, ps, ns] => (decide (1 ≤ n) && decide (n ≤ 20)) && (tuplesB ps n n && nudgesB ns n)
  | _ => false
/-- ascending, turn by turn -/
def ascAt {α : Type} (lt : α → α → Bool) (xs : List α) (i : Nat) : Bool :=
  match xs[i]?, xs[i + 1]? with
  | some x, some y => lt x y
  | _, _ => true
theorem ascB_range {α : Type} (lt : α → α → Bool) : ∀ xs : List α, ((List.range (xs.length - 1)).map fun i => ascAt lt xs i).all id = ascB lt xs
  | [] => rfl
  | [x] => rfl
  | x :: y :: r => by
    have ih := ascB_range lt (y :: r)
    have e : (x :: y :: r).length - 1 = ((y :: r).length - 1) + 1 := by
      simp only [List.length_cons]
      omega
    rw [e, List.range_succ_eq_map, List.map_cons, List.all_cons, List.map_map]
    show (lt x y && _) = (lt x y && ascB lt (y :: r))
    rw [← ih]
    rfl
theorem all_range_get {α : Type} (p : α → Bool) (d : α) : ∀ xs : List α, ((List.range xs.length).map fun i => p (xs.getD i d)).all id = xs.all p
  | [] => rfl
  | x :: xs => by
    rw [List.length_cons, List.range_succ_eq_map, List.map_cons, List.all_cons, List.map_map, List.all_cons]
    show (p x && _) = (p x && xs.all p)
    rw [← all_range_get p d xs]
    rfl
theorem given_bl {n : Nat} {f : Nat → Bool} : ((List.range n).map fun i => V.bl (f i)) = ((List.range n).map f).map V.bl := by
  rw [List.map_map]
  rfl
end Nw
namespace Nw
section
variable {K : PySem.W.Frag}
theorem isa_int (d : PySem.PyData) : PySem.W.kitOne K (.type (tyName d)) (.type "int") = some (isA "int" d) := isA_ok "int" (by simp) d
theorem isa_bool (d : PySem.PyData) : PySem.W.kitOne K (.type (tyName d)) (.type "bool") = some (isA "bool" d) := isA_ok "bool" (by simp) d
theorem isa_list (d : PySem.PyData) : PySem.W.kitOne K (.type (tyName d)) (.type "list") = some (isA "list" d) := isA_ok "list" (by simp) d
theorem isa_tuple (d : PySem.PyData) : PySem.W.kitOne K (.type (tyName d)) (.type "tuple") = some (isA "tuple" d) := isA_ok "tuple" (by simp) d
theorem isa_str (d : PySem.PyData) : PySem.W.kitOne K (.type (tyName d)) (.type "str") = some (isA "str" d) := isA_ok "str" (by simp) d
end
end Nw
namespace Nw
open PySem PySem.Spec PyProof.Rows L2
theorem map_at {α β : Type} {f : α → β} {l : List α} {i : Nat} {y : β} (h : (l.map f)[i]? = some y) : ∃ x, l[i]? = some x ∧ y = f x := by
  rw [List.getElem?_map] at h
  cases e : l[i]? with
  | none =>
    rw [e] at h
    cases h
  | some x =>
    rw [e] at h
    exact ⟨x, rfl, (Option.some.inj h).symm⟩
theorem drop1_at {α : Type} {l : List α} {i : Nat} {y : α} (h : (l.drop 1)[i]? = some y) : l[i + 1]? = some y := by
  rw [List.getElem?_drop, Nat.add_comm] at h
  exact h
theorem min_drop1 {α : Type} (l : List α) : min l.length (l.drop 1).length = l.length - 1 := by
  rw [List.length_drop]
  omega
/-- the pairs that a list of tuples of two ints holds -/
theorem pairs_at {K : PySem.W.Frag} {H : Hp} {ps : List (Int × Int)} {xs : List V} {i : Nat} {x : V} (h : DaAll K H (ps.map dPair) xs) (hx : xs[i]? = some x) :
    ∃ p, ps[i]? = some p ∧ ∃ a, x = .ref a ∧ SqT K H a [.int p.1, .int p.2] := by
  obtain ⟨d, hd, hdx⟩ := h.at' hx
  obtain ⟨p, hp, rfl⟩ := map_at hd
  obtain ⟨a, ys, rfl, hS, z1, r1, rfl, e1, z2, r2, rfl, e2, rfl⟩ := hdx
  obtain rfl := e1
  obtain rfl := e2
  exact ⟨p, hp, a, rfl, .inl (.inl hS)⟩
end Nw
namespace Nw
open PySem PySem.Spec PyProof.Rows L2
end Nw
/-! Webs as numbers. -/
namespace Nw
open PySem PySem.Spec PyProof.Rows L2
structure Wb where
  n : Int
  ps : List (Int × Int)
  ns : List (List Int)
  deriving DecidableEq
def dInts (r : List Int) : PyData := .list (r.map PyData.int)
def dPairs (ps : List (Int × Int)) : PyData := .list (ps.map dPair)
def dRows (ns : List (List Int)) : PyData := .list (ns.map dInts)
def Wb.d (w : Wb) : PyData := .tuple [.int w.n, dPairs w.ps, dRows w.ns]
structure Wb.Ok (w : Wb) : Prop where
  lo : 1 ≤ w.n
  hi : w.n ≤ 20
  ps : ∀ p ∈ w.ps, (0 ≤ p.1 ∧ p.1 < w.n) ∧ (0 ≤ p.2 ∧ p.2 < w.n)
  asc : ascB ltPr w.ps = true
  few : w.ns.length ≤ 8
  ns : ∀ r ∈ w.ns, r ≠ [] ∧ (∀ t ∈ r, 0 ≤ t ∧ t < w.n) ∧ ascB ltIn r = true
theorem targetsB_of {r : List Int} {m : Int} (h0 : r ≠ []) (h1 : ∀ t ∈ r, 0 ≤ t ∧ t < m) (h2 : ascB ltIn r = true) : targetsB (dInts r) m = true := by
  unfold dInts targetsB
  simp only [intsOf_map, h2, Bool.and_true, Bool.and_eq_true, decide_eq_true_eq, List.length_map]
  refine ⟨?_, List.length_pos_iff.mpr h0⟩
  simp only [List.all_map, List.all_eq_true]
  intro t ht
  have := h1 t ht
  simp [numB, this.1, this.2]
theorem tuplesB_of {ps : List (Int × Int)} {m n : Int} (h1 : ∀ p ∈ ps, (0 ≤ p.1 ∧ p.1 < m) ∧ (0 ≤ p.2 ∧ p.2 < n)) (h2 : ascB ltPr ps = true) : tuplesB (dPairs ps) m n = true := by
  unfold dPairs tuplesB
  simp only [pairsOf_map, h2, Bool.and_true]
  simp only [List.all_map, List.all_eq_true]
  intro p hp
  obtain ⟨⟨a, b⟩, c, d⟩ := h1 p hp
  simp [dPair, tupB, numB, a, b, c, d]
theorem Wb.Ok.web {w : Wb} (h : w.Ok) : webB w.d = true := by
  unfold Wb.d webB
  have h1 := h.lo
  have h2 := h.hi
  have h3 := tuplesB_of h.ps h.asc
  have h4 : nudgesB (dRows w.ns) w.n = true := by
    unfold dRows nudgesB
    simp only [List.length_map, h.few, decide_true, Bool.true_and]
    simp only [List.all_map, List.all_eq_true]
    intro r hr
    obtain ⟨a, b, c⟩ := h.ns r hr
    exact targetsB_of a b c
  simp [h1, h2, h3, h4]
/-- how long ascending rows of small numbers may be -/
theorem asc_len {m : Int} : ∀ (r : List Int) (lo : Int), (∀ t ∈ r, lo ≤ t ∧ t < m) → ascB ltIn r = true → (r.length : Int) ≤ max 0 (m - lo)
  | [], lo, _, _ => by
    simp only [List.length_nil]
    omega
  | [x], lo, h, _ => by
    have := h x (by simp)
    simp only [List.length_singleton]
    omega
  | x :: y :: r, lo, h, ha => by
    simp only [ascB, Bool.and_eq_true, ltIn, decide_eq_true_eq] at ha
    have hx := h x (by simp)
    have hy := h y (by simp)
    have key : ∀ (l : List Int) (a : Int), ascB ltIn (a :: l) = true → ∀ t ∈ l, a + 1 ≤ t := by
      intro l
      induction l with
      | nil =>
        intro a _ t ht
        cases ht
      | cons b l ih =>
        intro a hab t ht
        simp only [ascB, Bool.and_eq_true, ltIn, decide_eq_true_eq] at hab
        rcases List.mem_cons.mp ht with rfl | ht
        · omega
        · have := ih b hab.2 t ht
          omega
    have h' : ∀ t ∈ y :: r, x + 1 ≤ t ∧ t < m := by
      intro t ht
      refine ⟨?_, (h t (List.mem_cons_of_mem _ ht)).2⟩
      exact key (y :: r) x (by simp only [ascB, Bool.and_eq_true, ltIn, decide_eq_true_eq]; exact ha) t ht
    have ih := asc_len (y :: r) (x + 1) h' ha.2
    simp only [List.length_cons] at ih ⊢
    omega
theorem Wb.Ok.row {w : Wb} (h : w.Ok) {r : List Int} (hr : r ∈ w.ns) : r.length ≤ 20 := by
  obtain ⟨_, b, c⟩ := h.ns r hr
  have := asc_len r 0 b c
  have := h.hi
  have := h.lo
  omega
/-- the lines of a web -/
def pushedAt (n : Int) (i : Nat) (r : List Int) : List (Int × Int) := r.map fun t => (n + (i : Int), t)
def pushedFrom (n : Int) : Nat → List (List Int) → List (Int × Int)
  | _, [] => []
  | i, r :: rs => pushedAt n i r ++ pushedFrom n (i + 1) rs
def Wb.lines (w : Wb) : List (Int × Int) := w.ps ++ pushedFrom w.n 0 w.ns
theorem pushedFrom_take (n : Int) : ∀ (rs : List (List Int)) (i k : Nat) (r : List Int), rs[k]? = some r →
    pushedFrom n i (rs.take (k + 1)) = pushedFrom n i (rs.take k) ++ pushedAt n (i + k) r
  | [], _, _, _, h => by simp at h
  | a :: rs, i, 0, r, h => by
    obtain rfl : a = r := by simpa using h
    simp [pushedFrom]
  | a :: rs, i, k + 1, r, h => by
    have ih := pushedFrom_take n rs (i + 1) k r (by simpa using h)
    simp only [List.take_succ_cons, pushedFrom]
    rw [ih, List.append_assoc, show i + 1 + k = i + (k + 1) by omega]
theorem take_all {α : Type} (l : List α) : l.take l.length = l := List.take_length
end Nw
namespace Nw
open PySem PySem.Spec PyProof.Rows L2
theorem ltPr_iff {p q : Int × Int} : ltPr p q = true ↔ p.1 < q.1 ∨ (p.1 = q.1 ∧ p.2 < q.2) := by
  unfold ltPr
  rw [HT.lexLt_cons]
  by_cases h : p.1 = q.1
  · rw [if_pos h, HT.lexLt_cons]
    by_cases h2 : p.2 = q.2
    · rw [if_pos h2, HT.lexLt_nil_nil]
      constructor
      · intro e
        cases e
      · intro e
        omega
    · rw [if_neg h2, decide_eq_true_eq]
      omega
  · rw [if_neg h, decide_eq_true_eq]
    omega
theorem asc_code : ∀ {ps : List (Int × Int)}, (∀ p ∈ ps, 0 ≤ p.2 ∧ p.2 < 64) → ascB ltPr ps = true → ascB ltIn (ps.map fun p => 64 * p.1 + p.2) = true
  | [], _, _ => rfl
  | [_], _, _ => rfl
  | p :: q :: r, h, ha => by
    simp only [ascB, Bool.and_eq_true] at ha
    have hp := h p (by simp)
    have hq := h q (by simp)
    have h1 := ltPr_iff.mp ha.1
    have ih := asc_code (ps := q :: r) (fun z hz => h z (List.mem_cons_of_mem _ hz)) ha.2
    simp only [List.map_cons, ascB, Bool.and_eq_true, ltIn, decide_eq_true_eq] at ih ⊢
    exact ⟨by omega, ih⟩
theorem Wb.Ok.len {w : Wb} (h : w.Ok) : w.ps.length ≤ 1300 := by
  have h1 := asc_code (ps := w.ps) (fun p hp => by have := h.ps p hp; have := h.hi; omega) h.asc
  have h2 := asc_len _ 0 (m := 1300) (by
    intro t ht
    obtain ⟨p, hp, rfl⟩ := List.mem_map.mp ht
    have := h.ps p hp
    have := h.hi
    omega) h1
  rw [List.length_map] at h2
  omega
theorem pushed_len (n : Int) : ∀ (rs : List (List Int)) (i : Nat), (∀ r ∈ rs, r.length ≤ 20) → (pushedFrom n i rs).length ≤ 20 * rs.length
  | [], _, _ => by simp [pushedFrom]
  | r :: rs, i, h => by
    have h1 := h r (by simp)
    have h2 := pushed_len n rs (i + 1) (fun z hz => h z (List.mem_cons_of_mem _ hz))
    simp only [pushedFrom, pushedAt, List.length_append, List.length_map, List.length_cons]
    omega
theorem Wb.Ok.lines_len {w : Wb} (h : w.Ok) : w.lines.length ≤ 1500 := by
  have h1 := h.len
  have h2 := pushed_len w.n w.ns 0 (fun r hr => h.row hr)
  have h3 := h.few
  unfold Wb.lines
  rw [List.length_append]
  omega
/-- a web as it stands -/
theorem Wb.at {K : PySem.W.Frag} {H : Hp} {w : Wb} {v : V} (h : Da K H w.d v) : ∃ t x2 x3, v = .ref t ∧ SqT K H t [.int w.n, x2, x3] ∧ Da K H (dPairs w.ps) x2 ∧ Da K H (dRows w.ns) x3 := by
  obtain ⟨t, xs, rfl, hS, x1, r1, rfl, g1, x2, r2, rfl, g2, x3, r3, rfl, g3, rfl⟩ := h
  obtain rfl := g1
  exact ⟨t, x2, x3, rfl, .inl (.inl hS), g2, g3⟩
theorem dInts_at {K : PySem.W.Frag} {H : Hp} {r : List Int} {v : V} (h : Da K H (dInts r) v) : ∃ a, v = .ref a ∧ SqL K H a (r.map V.int) := by
  obtain ⟨a, xs, rfl, hS, hA, _⟩ := h
  obtain rfl := DaAll.ints.mp hA
  exact ⟨a, rfl, .inl (.inl hS)⟩
theorem dInts_of {K : PySem.W.Frag} {H : Hp} {r : List Int} {a : Addr} (h : H a = some (.lst (r.map V.int))) (hz : r.length ≤ 100000) : Da K H (dInts r) (.ref a) :=
  ⟨a, _, rfl, h, DaAll.ints.mpr rfl, by rw [List.length_map]; exact hz⟩
theorem dPair_of {K : PySem.W.Frag} {H : Hp} {p : Int × Int} {a : Addr} (h : H a = some (.tup [.int p.1, .int p.2])) : Da K H (dPair p) (.ref a) :=
  ⟨a, _, rfl, h, _, _, rfl, rfl, _, _, rfl, rfl, rfl⟩
end Nw
namespace Nw
open PySem PySem.Spec PyProof.Rows L2
theorem ExD.t {K : PySem.W.Frag} {D : Addr} {H H' : Hp} {a : Addr} {xs : List V} (e : ExD D H H') (n : a ≠ D) (h : SqT K H a xs) : SqT K H' a xs := by
  rcases h with (h | ⟨o, h⟩) | h
  · exact .inl (.inl (e a _ n h))
  · exact .inl (.inr ⟨o, e a _ n h⟩)
  · exact .inr h
theorem ExD.l {K : PySem.W.Frag} {D : Addr} {H H' : Hp} {a : Addr} {xs : List V} (e : ExD D H H') (n : a ≠ D) (h : SqL K H a xs) : SqL K H' a xs := by
  rcases h with (h | ⟨o, h⟩) | h
  · exact .inl (.inl (e a _ n h))
  · exact .inl (.inr ⟨o, e a _ n h⟩)
  · exact .inr h
/-- items that do not stand at D -/
abbrev OffD (D : Addr) (xs : List V) : Prop := ∀ x ∈ xs, ∃ b, x = .ref b ∧ b ≠ D
theorem OffD.nil {D : Addr} : OffD D [] := fun x h => by cases h
theorem OffD.snoc {D : Addr} {xs : List V} {b : Addr} (h : OffD D xs) (n : b ≠ D) : OffD D (xs ++ [.ref b]) := by
  intro x hx
  rcases List.mem_append.mp hx with hx | hx
  · exact h x hx
  · obtain rfl := List.mem_singleton.mp hx
    exact ⟨b, rfl, n⟩
theorem pairs_keep {K : PySem.W.Frag} {D : Addr} {H H' : Hp} (e : ExD D H H') : ∀ {L : List (Int × Int)} {acc : List V}, DaAll K H (L.map dPair) acc → OffD D acc → DaAll K H' (L.map dPair) acc
  | [], _, h, _ => h
  | p :: L, acc, h, o => by
    obtain ⟨x, xs, rfl, ⟨a, ys, rfl, hS, z1, r1, rfl, e1, z2, r2, rfl, e2, rfl⟩, h2⟩ := h
    obtain rfl := e1
    obtain rfl := e2
    obtain ⟨b, eb, nb⟩ := o (.ref a) (by simp)
    cases eb
    exact ⟨_, _, rfl, dPair_of (e _ _ nb hS), pairs_keep e h2 fun x hx => o x (List.mem_cons_of_mem _ hx)⟩
end Nw
namespace Nw
open PySem PySem.Spec PyProof.Rows L2
theorem pushed_ok {n : Int} {m : Int} : ∀ {rs : List (List Int)} {i : Nat}, (∀ r ∈ rs, ∀ t ∈ r, 0 ≤ t ∧ t < m) → ∀ l ∈ pushedFrom n i rs,
    (n + (i : Int) ≤ l.1 ∧ l.1 < n + (i : Int) + (rs.length : Int)) ∧ (0 ≤ l.2 ∧ l.2 < m)
  | [], _, _, l, hl => by cases hl
  | r :: rs, i, h, l, hl => by
    simp only [pushedFrom, List.mem_append] at hl
    simp only [List.length_cons]
    rcases hl with hl | hl
    · obtain ⟨t, ht, rfl⟩ := List.mem_map.mp hl
      have := h r (by simp) t ht
      exact ⟨⟨by simp, by simp; omega⟩, this⟩
    · have := pushed_ok (i := i + 1) (fun z hz => h z (List.mem_cons_of_mem _ hz)) l hl
      refine ⟨⟨by omega, by omega⟩, this.2⟩
theorem Wb.Ok.line {w : Wb} (h : w.Ok) : ∀ l ∈ w.lines, (0 ≤ l.1 ∧ l.1 < w.n + (w.ns.length : Int)) ∧ (0 ≤ l.2 ∧ l.2 < w.n) := by
  intro l hl
  have h1 := h.lo
  rcases List.mem_append.mp hl with hl | hl
  · have := h.ps l hl
    refine ⟨⟨this.1.1, by omega⟩, this.2⟩
  · have := pushed_ok (fun r hr => (h.ns r hr).2.1) l hl
    refine ⟨⟨by omega, by omega⟩, this.2⟩
/-- the targets that a list of lines gives a source -/
def rowOf (ls : List (Int × Int)) (s : Int) : List Int := (ls.filter fun l => l.1 == s).map (·.2)
theorem rowOf_nil (s : Int) : rowOf [] s = [] := rfl
theorem rowOf_app (a b : List (Int × Int)) (s : Int) : rowOf (a ++ b) s = rowOf a s ++ rowOf b s := by
  unfold rowOf
  rw [List.filter_append, List.map_append]
theorem rowOf_one (p : Int × Int) (s : Int) : rowOf [p] s = if p.1 = s then [p.2] else [] := by
  unfold rowOf
  by_cases h : p.1 = s
  · rw [if_pos h, List.filter_cons, if_pos (by simpa using h)]
    rfl
  · rw [if_neg h, List.filter_cons, if_neg (by simpa using h)]
    rfl
theorem rowOf_len (ls : List (Int × Int)) (s : Int) : (rowOf ls s).length ≤ ls.length := by
  unfold rowOf
  rw [List.length_map]
  exact List.length_filter_le _ _
theorem nodup_snoc {α : Type} {l : List α} {b : α} (h : l.Nodup) (n : b ∉ l) : (l ++ [b]).Nodup := by
  rw [List.nodup_append]
  refine ⟨h, by simp, ?_⟩
  intro a ha c hc e
  obtain rfl := List.mem_singleton.mp hc
  subst e
  exact n ha
theorem nodup_at {α : Type} {l : List α} (h : l.Nodup) {i j : Nat} {a b : α} (hi : l[i]? = some a) (hj : l[j]? = some b) (n : i ≠ j) : a ≠ b := by
  intro e
  subst e
  obtain ⟨h1, e1⟩ := List.getElem?_eq_some_iff.mp hi
  obtain ⟨h2, e2⟩ := List.getElem?_eq_some_iff.mp hj
  exact n ((List.getElem_inj h).mp (e1.trans e2.symm))
theorem atI_int {α : Type} {xs : List α} {s : Int} {v : α} (h0 : 0 ≤ s) (h : xs[s.toNat]? = some v) : atI xs s = some v := by
  have e := atI_nat h
  rw [Int.toNat_of_nonneg h0] at e
  exact e
theorem take_snoc {α : Type} {l : List α} {i : Nat} {x : α} (h : l[i]? = some x) : l.take (i + 1) = l.take i ++ [x] := by
  rw [List.take_add_one, h]
  rfl
end Nw
namespace Nw
open PySem PySem.Spec PyProof.Rows L2
/-- a tuple outlasts what is done to a list -/
theorem SqT.wr {K : PySem.W.Frag} {H : Hp} {b c : Addr} {xs ys : List V} {o : HO} (h : SqT K H b xs) (hc : H c = some (.lst ys)) : SqT K (upd H c o) b xs := by
  rcases h with (h | ⟨z, h⟩) | h
  · refine .inl (.inl ?_)
    rw [upd_ne (fun e => by rw [e, hc] at h; cases h)]
    exact h
  · refine .inl (.inr ⟨z, ?_⟩)
    rw [upd_ne (fun e => by rw [e, hc] at h; cases h)]
    exact h
  · exact .inr h
end Nw
namespace Nw
open PySem PySem.Spec PyProof.Rows L2
/-- the sources that a list of lines gives a quantity -/
def srcsOf (ls : List (Int × Int)) (t : Int) : List Int := (ls.filter fun l => l.2 == t).map (·.1)
theorem filter_range {α β : Type} (d : α) (p : α → Bool) (g : α → β) : ∀ ls : List α, ((List.range ls.length).filter fun i => p (ls.getD i d)).map (fun i => g (ls.getD i d)) = (ls.filter p).map g
  | [] => rfl
  | x :: ls => by
    have ih := filter_range d p g ls
    rw [List.length_cons, List.range_succ_eq_map, List.filter_cons, List.filter_map, List.filter_cons]
    have e : (fun i => p ((x :: ls).getD i d)) ∘ Nat.succ = fun i => p (ls.getD i d) := rfl
    rw [e]
    have e0 : (x :: ls).getD 0 d = x := rfl
    rw [e0]
    by_cases h : p x = true
    · rw [if_pos h, if_pos h, List.map_cons, List.map_cons, List.map_map, ← ih]
      rfl
    · rw [if_neg h, if_neg h, List.map_map, ← ih]
      rfl
theorem srcs_range (ls : List (Int × Int)) (z : Int) : ((List.range ls.length).filter fun i => (ls.getD i (0, 0)).2 == z).map (fun i => V.int (ls.getD i (0, 0)).1) = (srcsOf ls z).map V.int := by
  have h := filter_range (0, 0) (fun l : Int × Int => l.2 == z) (fun l => V.int l.1) ls
  rw [h]
  unfold srcsOf
  rw [List.map_map]
  rfl
end Nw
namespace Nw
open PySem PySem.Spec PyProof.Rows L2
/-- new rows at new places, apart from one another -/
structure RowsAt (H H' : Hp) (p : Addr) (as : List Addr) (n : Nat) (row : Nat → List Int) : Prop where
  new : H p = none
  ex : Ex H H'
  at_ : H' p = some (.lst (as.map V.ref))
  nd : as.Nodup
  off : ∀ b ∈ as, H b = none ∧ b ≠ p
  len : as.length = n
  row : ∀ s b, as[s]? = some b → H' b = some (.lst ((row s).map V.int))
theorem srcsOf_nil (s : Int) : srcsOf [] s = [] := rfl
theorem srcsOf_app (a b : List (Int × Int)) (s : Int) : srcsOf (a ++ b) s = srcsOf a s ++ srcsOf b s := by
  unfold srcsOf
  rw [List.filter_append, List.map_append]
theorem srcsOf_one (p : Int × Int) (s : Int) : srcsOf [p] s = if p.2 = s then [p.1] else [] := by
  unfold srcsOf
  by_cases h : p.2 = s
  · rw [if_pos h, List.filter_cons, if_pos (by simpa using h)]
    rfl
  · rw [if_neg h, List.filter_cons, if_neg (by simpa using h)]
    rfl
theorem srcsOf_len (ls : List (Int × Int)) (s : Int) : (srcsOf ls s).length ≤ ls.length := by
  unfold srcsOf
  rw [List.length_map]
  exact List.length_filter_le _ _
end Nw
/-! What draws are made of: a list of three numbers that each draw changes. -/
namespace Nw
open PySem PySem.Spec PyProof.Rows L2
/-- the heap without what stands at p -/
def rm (H : Hp) (p : Addr) : Hp := fun b => if b = p then none else H b
theorem rm_ex {H : Hp} {p : Addr} : Ex (rm H p) H := fun b o h => by
  unfold rm at h
  split at h
  · cases h
  · exact h
theorem rm_at {H : Hp} {p : Addr} : rm H p p = none := if_pos rfl
theorem rm_ne {H : Hp} {p b : Addr} (h : b ≠ p) : rm H p b = H b := if_neg h
theorem ExD.rm {p : Addr} {H H' : Hp} (e : ExD p H H') : Ex (rm H p) (rm H' p) := fun b o h => by
  by_cases n : b = p
  · subst n
    rw [rm_at] at h
    cases h
  · rw [rm_ne n] at h ⊢
    exact e b o n h
theorem Ex.rm {p : Addr} {H H' : Hp} (e : Ex H H') : Ex (rm H p) (rm H' p) := ExD.rm (Ex.d e)
theorem ExD.rfl {p : Addr} {H : Hp} : ExD p H H := fun _ _ _ h => h
theorem ExD.nw {p q : Addr} {H : Hp} {o : HO} (h : H q = none) : ExD p H (upd H q o) := (Ex.nw h).d
theorem ExD.wr {p q : Addr} {H H' : Hp} {o : HO} (e : ExD p H H') (h : H q = none) : ExD p H (upd H' q o) := fun a u n ha => by
  rw [upd_ne (ne_of_none ha h)]
  exact e a u n ha
theorem ExD.put2 {p : Addr} {H H' : Hp} {o : HO} (e : ExD p H H') : ExD p H (upd H' p o) := e.tr ExD.put
/-- what is new stands elsewhere than the purse -/
theorem ExD.fr {p q : Addr} {H H' : Hp} {o : HO} (e : ExD p H H') (hp : H' p = some o) (h : H' q = none) : H q = none := by
  cases z : H q with
  | none => exact Eq.refl _
  | some u =>
    by_cases n : q = p
    · subst n
      rw [hp] at h
      cases h
    · rw [e q u n z] at h
      cases h
structure Purse (H : Hp) (p : Addr) (m : Nat) : Prop where
  ex : ∃ b c e : Int, H p = some (.lst [.int b, .int c, .int e]) ∧ 0 ≤ b ∧ (0 ≤ c ∧ c < 10 ^ 42) ∧ (0 ≤ e ∧ e ≤ (m : Int))
theorem Purse.mono {H : Hp} {p : Addr} {m n : Nat} (h : Purse H p m) (l : m ≤ n) : Purse H p n := by
  obtain ⟨b, c, e, h1, h2, h3, h4⟩ := h.ex
  exact ⟨b, c, e, h1, h2, h3, h4.1, by omega⟩
theorem Purse.up {H H' : Hp} {p : Addr} {m : Nat} (h : Purse H p m) (e : Ex H H') : Purse H' p m := by
  obtain ⟨b, c, d, h1, h2⟩ := h.ex
  exact ⟨b, c, d, e _ _ h1, h2⟩
theorem Purse.off {H : Hp} {p : Addr} {m : Nat} (h : Purse H p m) {q : Addr} (n : H q = none) : q ≠ p := by
  obtain ⟨b, c, d, h1, h2⟩ := h.ex
  intro e
  rw [e, h1] at n
  cases n
theorem Purse.put {H : Hp} {p q : Addr} {m : Nat} {o : HO} (h : Purse H p m) (n : p ≠ q) : Purse (upd H q o) p m := by
  obtain ⟨b, c, d, h1, h2⟩ := h.ex
  exact ⟨b, c, d, by rw [upd_ne n]; exact h1, h2⟩
theorem Purse.fr {p q : Addr} {H H' : Hp} {m : Nat} (e : ExD p H H') (hp : Purse H' p m) (h : H' q = none) : H q = none := by
  obtain ⟨b, c, d, h1, _⟩ := hp.ex
  exact e.fr h1 h
/-- a remainder by a positive number -/
theorem fmod_in {a m : Int} (h : 0 < m) : 0 ≤ a.fmod m ∧ a.fmod m < m := by
  rw [Int.fmod_eq_emod_of_nonneg a (by omega)]
  exact ⟨Int.emod_nonneg a (by omega), Int.emod_lt_of_pos a h⟩
theorem div_in {a m : Int} (h0 : 0 ≤ a) (h : 0 < m) : 0 ≤ a / m := Int.ediv_nonneg h0 (by omega)
theorem pow_lt_of {i : Int} (h0 : 0 ≤ i) (h : i < 10 ^ 60) : i.natAbs < 2 ^ 10000 := by
  have h1 : (10 : Nat) ^ 60 < 2 ^ 10000 := by decide +kernel
  have h2 : i.natAbs < 10 ^ 60 := by omega
  omega
theorem small_div {m : Int} (h : 0 < m) (h2 : m < 1073741824) : CDivW 0 m := wide_div (b := 30) h (by omega) (by omega) (by omega)
theorem great_div {i m : Int} (h : 0 < m) (h2 : m < 1000000000000000000000000000000000000000000000000000000000000) : CDivW i m := wide_div (b := 200) h (by
  have e : (2 : Nat) ^ 200 = 1606938044258990275541962092341162602522202993782792835301376 := by decide +kernel
  rw [e]
  omega) (by omega) (by omega)
theorem small_div' {i m : Int} (h : 0 < m) (h2 : m < 1073741824) : CDivW i m := small_div h h2
end Nw
namespace Nw
open PySem PySem.Spec PyProof.Rows L2
theorem cpow10 {j : Int} (h0 : 0 ≤ j) (h1 : j ≤ 100) : CPowW 10 j := ⟨h0, h1, by
  show (10 : Nat) < 2 ^ 10000
  decide +kernel⟩
theorem cpow3 {i : Int} (h0 : 0 ≤ i) (h : i < 10 ^ 60) : CPowW i 3 := ⟨by decide, by decide, pow_lt_of h0 h⟩
theorem p18 : (10 : Int) ^ Int.toNat 18 = 1000000000000000000 := by decide +kernel
theorem p41 : (10 : Int) ^ Int.toNat 41 = 100000000000000000000000000000000000000000 := by decide +kernel
theorem p42 : (10 : Int) ^ 42 = 1000000000000000000000000000000000000000000 := by decide +kernel
theorem p43 : (10 : Int) ^ Int.toNat 43 = 10000000000000000000000000000000000000000000 := by decide +kernel
theorem p45 : (10 : Int) ^ Int.toNat 45 = 1000000000000000000000000000000000000000000000 := by decide +kernel
theorem p60 : (10 : Int) ^ 60 = 1000000000000000000000000000000000000000000000000000000000000 := by decide +kernel
theorem cube_nn {i : Int} (h : 0 ≤ i) : 0 ≤ i ^ Int.toNat 3 := Int.pow_nonneg h
theorem purse_new {a x k : Int} (hk : 0 ≤ k ∧ k ≤ 63) : 0 ≤ a.fmod (10 ^ Int.toNat 41 + 37) + 90001 * k + 17 ∧ a.fmod (10 ^ Int.toNat 41 + 37) + 90001 * k + 17 < 10 ^ 42 := by
  have h := fmod_in (a := a) (m := 10 ^ Int.toNat 41 + 37) (by rw [p41]; omega)
  rw [p41] at h ⊢
  rw [p42]
  omega
end Nw
namespace Nw
theorem ne41 : (10 : Int) ^ Int.toNat 41 + 37 ≠ 0 := by rw [p41]; decide
theorem ne43 : (10 : Int) ^ Int.toNat 43 + 29 ≠ 0 := by rw [p43]; decide
theorem ne45 : (10 : Int) ^ Int.toNat 45 + 9 ≠ 0 := by rw [p45]; decide
end Nw
/-! Data of webs compared and shown. -/
namespace Nw
open PySem PySem.Spec PyProof.Rows L2
theorem asc_snoc : ∀ {r : List Int} {x : Int}, ascB ltIn r = true → (∀ t ∈ r, t < x) → ascB ltIn (r ++ [x]) = true
  | [], _, _, _ => rfl
  | [a], x, _, h => by
    have := h a (by simp)
    simp [ascB, ltIn, this]
  | a :: b :: r, x, ha, h => by
    simp only [ascB, Bool.and_eq_true] at ha
    have ih := asc_snoc (r := b :: r) (x := x) ha.2 (fun t ht => h t (List.mem_cons_of_mem _ ht))
    simp only [List.cons_append, ascB, Bool.and_eq_true] at ih ⊢
    exact ⟨ha.1, ih⟩
theorem ascP_snoc : ∀ {r : List (Int × Int)} {x : Int × Int}, ascB ltPr r = true → (∀ t ∈ r, ltPr t x = true) → ascB ltPr (r ++ [x]) = true
  | [], _, _, _ => rfl
  | [a], x, _, h => by
    have := h a (by simp)
    simp [ascB, this]
  | a :: b :: r, x, ha, h => by
    simp only [ascB, Bool.and_eq_true] at ha
    have ih := ascP_snoc (r := b :: r) (x := x) ha.2 (fun t ht => h t (List.mem_cons_of_mem _ ht))
    simp only [List.cons_append, ascB, Bool.and_eq_true] at ih ⊢
    exact ⟨ha.1, ih⟩
/-! ### == -/
theorem eqv_ints : ∀ r s : List Int, PyData.eqvAll (r.map PyData.int) (s.map PyData.int) = decide (r = s)
  | [], [] => by simp [PyData.eqvAll]
  | [], _ :: _ => by simp [PyData.eqvAll]
  | _ :: _, [] => by simp [PyData.eqvAll]
  | a :: r, b :: s => by
    simp only [List.map_cons, PyData.eqvAll, eqv_ints r s, PyData.eqv]
    by_cases h : a = b
    · by_cases h2 : r = s <;> simp [h, h2]
    · simp [h]
theorem eqv_dInts (r s : List Int) : PyData.eqv (dInts r) (dInts s) = decide (r = s) := by
  unfold dInts
  simp only [PyData.eqv, eqv_ints]
theorem eqv_dPair (p q : Int × Int) : PyData.eqv (dPair p) (dPair q) = decide (p = q) := by
  obtain ⟨a, b⟩ := p
  obtain ⟨c, d⟩ := q
  unfold dPair
  simp only [PyData.eqv, PyData.eqvAll, Bool.and_true, Prod.mk.injEq]
  by_cases h : a = c <;> by_cases h2 : b = d <;> simp [h, h2]
theorem eqv_pairs : ∀ r s : List (Int × Int), PyData.eqvAll (r.map dPair) (s.map dPair) = decide (r = s)
  | [], [] => by simp [PyData.eqvAll]
  | [], _ :: _ => by simp [PyData.eqvAll]
  | _ :: _, [] => by simp [PyData.eqvAll]
  | a :: r, b :: s => by
    simp only [List.map_cons, PyData.eqvAll, eqv_pairs r s, eqv_dPair]
    by_cases h : a = b
    · by_cases h2 : r = s <;> simp [h, h2]
    · simp [h]
theorem eqv_dPairs (r s : List (Int × Int)) : PyData.eqv (dPairs r) (dPairs s) = decide (r = s) := by
  unfold dPairs
  simp only [PyData.eqv, eqv_pairs]
theorem eqv_rows : ∀ r s : List (List Int), PyData.eqvAll (r.map dInts) (s.map dInts) = decide (r = s)
  | [], [] => by simp [PyData.eqvAll]
  | [], _ :: _ => by simp [PyData.eqvAll]
  | _ :: _, [] => by simp [PyData.eqvAll]
  | a :: r, b :: s => by
    simp only [List.map_cons, PyData.eqvAll, eqv_rows r s, eqv_dInts]
    by_cases h : a = b
    · by_cases h2 : r = s <;> simp [h, h2]
    · simp [h]
theorem eqv_dRows (r s : List (List Int)) : PyData.eqv (dRows r) (dRows s) = decide (r = s) := by
  unfold dRows
  simp only [PyData.eqv, eqv_rows]
theorem eqv_web (u v : Wb) : PyData.eqv u.d v.d = decide (u = v) := by
  obtain ⟨a, b, c⟩ := u
  obtain ⟨d, e, f⟩ := v
  unfold Wb.d
  simp only [PyData.eqv, PyData.eqvAll, eqv_dPairs, eqv_dRows, Bool.and_true, Wb.mk.injEq]
  by_cases h : a = d <;> by_cases h2 : b = e <;> by_cases h3 : c = f <;> simp [h, h2, h3]
/-! ### shape -/
theorem shaped_of {d : PyData} (h : d.canLay0 = true) (h2 : d.depth ≤ 64) : SeqAt.shaped d = true := by
  unfold SeqAt.shaped
  rw [h, decide_eq_true h2]
  rfl
theorem lay_ints : ∀ r : List Int, PyData.canLayAll0 (r.map PyData.int) = true
  | [] => by simp [PyData.canLayAll0]
  | a :: r => by simp [PyData.canLayAll0, PyData.canLay0, lay_ints r]
theorem lay_pairs : ∀ r : List (Int × Int), PyData.canLayAll0 (r.map dPair) = true
  | [] => by simp [PyData.canLayAll0]
  | a :: r => by simp [PyData.canLayAll0, PyData.canLay0, dPair, lay_pairs r]
theorem lay_rows : ∀ r : List (List Int), PyData.canLayAll0 (r.map dInts) = true
  | [] => by simp [PyData.canLayAll0]
  | a :: r => by simp [PyData.canLayAll0, PyData.canLay0, dInts, lay_rows r, lay_ints]
theorem dep_ints : ∀ r : List Int, PyData.depthAll (r.map PyData.int) = 0
  | [] => by simp [PyData.depthAll]
  | a :: r => by simp [PyData.depthAll, PyData.depth, dep_ints r]
theorem dep_pairs : ∀ r : List (Int × Int), PyData.depthAll (r.map dPair) ≤ 1
  | [] => by simp [PyData.depthAll]
  | a :: r => by
    have := dep_pairs r
    simp [PyData.depthAll, PyData.depth, dPair]
    omega
theorem dep_rows : ∀ r : List (List Int), PyData.depthAll (r.map dInts) ≤ 1
  | [] => by simp [PyData.depthAll]
  | a :: r => by
    have := dep_rows r
    simp [PyData.depthAll, PyData.depth, dInts, dep_ints]
    omega
theorem lay_dInts (r : List Int) : (dInts r).canLay0 = true := by simp [dInts, PyData.canLay0, lay_ints]
theorem lay_dPairs (r : List (Int × Int)) : (dPairs r).canLay0 = true := by simp [dPairs, PyData.canLay0, lay_pairs]
theorem lay_dRows (r : List (List Int)) : (dRows r).canLay0 = true := by simp [dRows, PyData.canLay0, lay_rows]
theorem lay_dPair (p : Int × Int) : (dPair p).canLay0 = true := by simp [dPair, PyData.canLay0, PyData.canLayAll0]
theorem lay_web (u : Wb) : u.d.canLay0 = true := by simp [Wb.d, PyData.canLay0, PyData.canLayAll0, lay_dPairs, lay_dRows]
theorem dep_dInts (r : List Int) : (dInts r).depth ≤ 1 := by simp [dInts, PyData.depth, dep_ints]
theorem dep_dPair (p : Int × Int) : (dPair p).depth ≤ 1 := by simp [dPair, PyData.depth, PyData.depthAll]
theorem dep_dPairs (r : List (Int × Int)) : (dPairs r).depth ≤ 2 := by
  have := dep_pairs r
  simp [dPairs, PyData.depth]
  omega
theorem dep_dRows (r : List (List Int)) : (dRows r).depth ≤ 2 := by
  have := dep_rows r
  simp [dRows, PyData.depth]
  omega
theorem dep_web (u : Wb) : u.d.depth ≤ 3 := by
  have h1 := dep_dPairs u.ps
  have h2 := dep_dRows u.ns
  simp [Wb.d, PyData.depth, PyData.depthAll]
  omega
theorem sh_dInts (r : List Int) : SeqAt.shaped (dInts r) = true := shaped_of (lay_dInts r) (by have := dep_dInts r; omega)
theorem sh_dPair (r : Int × Int) : SeqAt.shaped (dPair r) = true := shaped_of (lay_dPair r) (by have := dep_dPair r; omega)
theorem sh_dPairs (r : List (Int × Int)) : SeqAt.shaped (dPairs r) = true := shaped_of (lay_dPairs r) (by have := dep_dPairs r; omega)
theorem sh_dRows (r : List (List Int)) : SeqAt.shaped (dRows r) = true := shaped_of (lay_dRows r) (by have := dep_dRows r; omega)
theorem sh_web (u : Wb) : SeqAt.shaped u.d = true := shaped_of (lay_web u) (by have := dep_web u; omega)
theorem nd_of_lay {d : PyData} (h : d.canLay0 = true) : d.hasDict = false := PyData.hasDict_of_canLay d h
section
variable {K : PySem.W.Frag} {H : Hp}
theorem Da.dInts {r : List Int} {v : V} (h : Da K H (dInts r) v) : Dp K H v (dInts r) := h.dp _ _ (nd_of_lay (lay_dInts r))
theorem Da.dPairs {r : List (Int × Int)} {v : V} (h : Da K H (dPairs r) v) : Dp K H v (dPairs r) := h.dp _ _ (nd_of_lay (lay_dPairs r))
theorem Da.dPair {r : Int × Int} {v : V} (h : Da K H (dPair r) v) : Dp K H v (dPair r) := h.dp _ _ (nd_of_lay (lay_dPair r))
theorem Da.dRows {r : List (List Int)} {v : V} (h : Da K H (dRows r) v) : Dp K H v (dRows r) := h.dp _ _ (nd_of_lay (lay_dRows r))
theorem Da.web {u : Wb} {v : V} (h : Da K H u.d v) : Dp K H v u.d := h.dp _ _ (nd_of_lay (lay_web u))
/-- a == b, a != b of lists of ints .. as the readings ask -/
theorem eqD_of {d e : PyData} {x y : V} {Q : VK} (hd : Dp K H x d) (he : Dp K H y e) (sd : SeqAt.shaped d = true) (se : SeqAt.shaped e = true) (q : Q (.bl (PyData.eqv d e)) H) : rEqD K x y H Q := ⟨d, e, hd, he, sd, se, q⟩
end
end Nw
namespace Nw
open PySem PySem.Spec PyProof.Rows L2
theorem ex_rm1 {H H' : Hp} {p : Addr} (h : ∀ b o, b ≠ p → H b = some o → H' b = some o) : Ex (rm H p) (rm H' p) := ExD.rm h
theorem ex_rm2 {H H' : Hp} {p q : Addr} (h : ∀ b o, b ≠ p → b ≠ q → H b = some o → H' b = some o) : Ex (rm (rm H p) q) (rm (rm H' p) q) :=
  ExD.rm fun b o n e => by
    by_cases n2 : b = p
    · subst n2
      rw [rm_at] at e
      cases e
    · rw [rm_ne n2] at e ⊢
      exact h b o n2 n e
theorem ex_rm3 {H H' : Hp} {p q r : Addr} (h : ∀ b o, b ≠ p → b ≠ q → b ≠ r → H b = some o → H' b = some o) : Ex (rm (rm (rm H p) q) r) (rm (rm (rm H' p) q) r) :=
  ExD.rm fun b o n e => by
    by_cases n2 : b = q
    · subst n2
      rw [rm_at] at e
      cases e
    · rw [rm_ne n2] at e ⊢
      by_cases n3 : b = p
      · subst n3
        rw [rm_at] at e
        cases e
      · rw [rm_ne n3] at e ⊢
        exact h b o n3 n2 n e
theorem asc_app : ∀ {a b : List (Int × Int)}, ascB ltPr a = true → ascB ltPr b = true → (∀ x ∈ a, ∀ y ∈ b, ltPr x y = true) → ascB ltPr (a ++ b) = true
  | [], _, _, hb, _ => hb
  | [x], [], _, _, _ => rfl
  | [x], y :: b, _, hb, h => by
    show (ltPr x y && ascB ltPr (y :: b)) = true
    rw [hb, h x (by simp) y (by simp)]
    rfl
  | x :: z :: a, b, ha, hb, h => by
    simp only [ascB, Bool.and_eq_true] at ha
    have ih := asc_app (a := z :: a) ha.2 hb (fun x hx => h x (List.mem_cons_of_mem _ hx))
    show (ltPr x z && ascB ltPr (z :: a ++ b)) = true
    rw [ha.1, ih]
    rfl
end Nw
namespace Nw
open PySem PySem.Spec PyProof.Rows L2
theorem rowOf_none {ls : List (Int × Int)} {s : Int} (h : ∀ l ∈ ls, l.1 ≠ s) : rowOf ls s = [] := by
  unfold rowOf
  rw [List.filter_eq_nil_iff.mpr (fun l hl => by simpa using h l hl)]
  rfl
theorem rowOf_pushedAt (n : Int) (i : Nat) (r : List Int) : rowOf (pushedAt n i r) (n + (i : Int)) = r := by
  unfold rowOf pushedAt
  rw [List.filter_eq_self.mpr]
  · rw [List.map_map]
    exact List.map_id _
  · intro l hl
    obtain ⟨t, _, rfl⟩ := List.mem_map.mp hl
    simp
/-- a quantity's row: from the pairs alone -/
theorem row_low {u : Wb} (h : u.Ok) {s : Int} (hs : s < u.n) : rowOf u.lines s = rowOf u.ps s := by
  unfold Wb.lines
  rw [rowOf_app, rowOf_none (ls := pushedFrom u.n 0 u.ns), List.append_nil]
  intro l hl
  have := pushed_ok (fun r hr => (h.ns r hr).2.1) l hl
  omega
theorem row_push {n : Int} {m : Int} : ∀ {rs : List (List Int)} {i k : Nat} {r : List Int}, (∀ r ∈ rs, ∀ t ∈ r, 0 ≤ t ∧ t < m) → rs[k]? = some r →
    rowOf (pushedFrom n i rs) (n + (i : Int) + (k : Int)) = r
  | [], _, _, _, _, e => by simp at e
  | a :: rs, i, 0, r, h, e => by
    obtain rfl : a = r := by simpa using e
    simp only [pushedFrom]
    rw [rowOf_app, show n + (i : Int) + ((0 : Nat) : Int) = n + (i : Int) by omega, rowOf_pushedAt, rowOf_none, List.append_nil]
    intro l hl
    have := pushed_ok (fun z hz => h z (List.mem_cons_of_mem _ hz)) l hl
    omega
  | a :: rs, i, k + 1, r, h, e => by
    simp only [pushedFrom]
    rw [rowOf_app, rowOf_none, List.nil_append]
    · have ih := row_push (n := n) (i := i + 1) (k := k) (r := r) (fun z hz => h z (List.mem_cons_of_mem _ hz)) (by simpa using e)
      rw [show n + (i : Int) + ((k + 1 : Nat) : Int) = n + ((i + 1 : Nat) : Int) + (k : Int) by omega]
      exact ih
    · intro l hl
      obtain ⟨t, _, rfl⟩ := List.mem_map.mp hl
      simp only
      omega
/-- a nudge's row -/
theorem row_high {u : Wb} (h : u.Ok) {k : Nat} {r : List Int} (hr : u.ns[k]? = some r) {s : Int} (hs : s = u.n + (k : Int)) : rowOf u.lines s = r := by
  subst hs
  unfold Wb.lines
  rw [rowOf_app, rowOf_none (ls := u.ps), List.nil_append]
  · have := row_push (n := u.n) (i := 0) (k := k) (fun r hr => (h.ns r hr).2.1) hr
    rw [show u.n + ((0 : Nat) : Int) + (k : Int) = u.n + (k : Int) by omega] at this
    exact this
  · intro l hl
    have := h.ps l hl
    omega
end Nw
/-! Data of webs shown, lines grouped and sorted. -/
namespace Nw
open PySem PySem.Spec PyProof.Rows L2
theorem short_small : ∀ n : Fin 64, ((PyData.shown (.int (n.val : Int))).length ≤ 8 ∧ (((n.val : Int)).natAbs.log2 < 1920) ∧ PyData.weight (.int (n.val : Int)) ≤ 6) := by decide +kernel
theorem short_int {i : Int} (h0 : 0 ≤ i) (h1 : i < 64) : (PyData.shown (.int i)).length ≤ 8 ∧ i.natAbs.log2 < 1920 ∧ PyData.weight (.int i) ≤ 6 := by
  have h := short_small ⟨i.toNat, by omega⟩
  simp only [Int.toNat_of_nonneg h0] at h
  exact h
abbrev Sm (i : Int) : Prop := 0 ≤ i ∧ i < 64
theorem sm_ints : ∀ {r : List Int}, (∀ t ∈ r, Sm t) → PyData.leavesShortAll 8 (r.map PyData.int) = true ∧ PyData.showableAll (r.map PyData.int) = true ∧ PyData.weightAll (r.map PyData.int) ≤ 7 * r.length
  | [], _ => by simp [PyData.leavesShortAll, PyData.showableAll, PyData.weightAll]
  | a :: r, h => by
    obtain ⟨h1, h2, h3⟩ := sm_ints (r := r) fun t ht => h t (List.mem_cons_of_mem _ ht)
    obtain ⟨s1, s2⟩ := h a (by simp)
    obtain ⟨g1, g2, g5⟩ := short_int s1 s2
    refine ⟨?_, ?_, ?_⟩
    · simp only [List.map_cons, PyData.leavesShortAll, PyData.leavesShort, h1, Bool.and_true, decide_eq_true_eq]
      exact g1
    · simp only [List.map_cons, PyData.showableAll, PyData.showable, h2, Bool.and_true, decide_eq_true_eq]
      exact g2
    · simp only [List.map_cons, PyData.weightAll, List.length_cons]
      omega
theorem sm_pairs : ∀ {r : List (Int × Int)}, (∀ t ∈ r, Sm t.1 ∧ Sm t.2) → PyData.leavesShortAll 8 (r.map dPair) = true ∧ PyData.showableAll (r.map dPair) = true ∧ PyData.weightAll (r.map dPair) ≤ 16 * r.length
  | [], _ => by simp [PyData.leavesShortAll, PyData.showableAll, PyData.weightAll]
  | a :: r, h => by
    obtain ⟨h1, h2, h3⟩ := sm_pairs (r := r) fun t ht => h t (List.mem_cons_of_mem _ ht)
    obtain ⟨s1, s2⟩ := h a (by simp)
    obtain ⟨g1, g2, g5⟩ := short_int s1.1 s1.2
    obtain ⟨g3, g4, g6⟩ := short_int s2.1 s2.2
    refine ⟨?_, ?_, ?_⟩
    · simp only [List.map_cons, dPair, PyData.leavesShortAll, PyData.leavesShort, h1, Bool.and_true, decide_eq_true_eq, Bool.and_eq_true]
      exact ⟨g1, g3⟩
    · simp only [List.map_cons, dPair, PyData.showableAll, PyData.showable, h2, Bool.and_true, decide_eq_true_eq, Bool.and_eq_true]
      exact ⟨g2, g4⟩
    · have e : PyData.weight (dPair a) = PyData.weight (.int a.1) + 1 + (PyData.weight (.int a.2) + 1 + 0) := by
        simp only [dPair, PyData.weight, PyData.weightAll]
      simp only [List.map_cons, PyData.weightAll, List.length_cons]
      omega
/-- what repr of a list of small ints asks -/
theorem show_ints {r : List Int} (hs : ∀ t ∈ r, Sm t) (hz : r.length ≤ 30000) : (dInts r).showable = true ∧ (dInts r).shown.length ≤ sizeLine ∧ (dInts r).depth ≤ 60 := by
  obtain ⟨h1, h2, h3⟩ := sm_ints hs
  refine ⟨?_, ?_, ?_⟩
  · simp only [dInts, PyData.showable, h2]
  · refine PyData.shown_fits (B := 8) (by omega) (by omega) ?_ ?_
    · simp only [dInts, PyData.leavesShort, h1]
    · simp only [dInts, PyData.weight]
      omega
  · have := dep_dInts r
    omega
/-- what repr of a list of pairs of small ints asks -/
theorem show_pairs {r : List (Int × Int)} (hs : ∀ t ∈ r, Sm t.1 ∧ Sm t.2) (hz : r.length ≤ 30000) : (dPairs r).showable = true ∧ (dPairs r).shown.length ≤ sizeLine ∧ (dPairs r).depth ≤ 60 := by
  obtain ⟨h1, h2, h3⟩ := sm_pairs hs
  refine ⟨?_, ?_, ?_⟩
  · simp only [dPairs, PyData.showable, h2]
  · refine PyData.shown_fits (B := 8) (by omega) (by omega) ?_ ?_
    · simp only [dPairs, PyData.leavesShort, h1]
    · simp only [dPairs, PyData.weight]
      omega
  · have := dep_dPairs r
    omega
/-! ### lines grouped -/
theorem asc_tail : ∀ {p : Int × Int} {r : List (Int × Int)}, ascB ltPr (p :: r) = true → (∀ q ∈ r, ltPr p q = true) ∧ ascB ltPr r = true
  | p, [], _ => ⟨fun q hq => (by cases hq), rfl⟩
  | p, q :: r, h => by
    simp only [ascB, Bool.and_eq_true] at h
    obtain ⟨h1, h2⟩ := asc_tail (p := q) (r := r) h.2
    refine ⟨fun z hz => ?_, h.2⟩
    rcases List.mem_cons.mp hz with rfl | hz
    · exact h.1
    · have a := ltPr_iff.mp h.1
      have b := ltPr_iff.mp (h1 z hz)
      refine ltPr_iff.mpr ?_
      omega
/-- rising lines, those of the first k sources -/
def upTo (ls : List (Int × Int)) (k : Int) : List (Int × Int) := ls.filter fun l => decide (l.1 < k)
theorem upTo_step : ∀ {ls : List (Int × Int)} (k : Int), ascB ltPr ls = true → upTo ls (k + 1) = upTo ls k ++ (rowOf ls k).map fun t => (k, t)
  | [], k, _ => rfl
  | p :: r, k, h => by
    obtain ⟨h1, h2⟩ := asc_tail h
    have ih := upTo_step (ls := r) k h2
    unfold upTo rowOf at ih ⊢
    by_cases a : p.1 < k
    · rw [List.filter_cons_of_pos (p := fun l : Int × Int => decide (l.1 < k + 1)) (by simp; omega), List.filter_cons_of_pos (p := fun l : Int × Int => decide (l.1 < k)) (by simpa using a),
        List.filter_cons_of_neg (p := fun l : Int × Int => l.1 == k) (by simp; omega), ih]
      rfl
    · have e0 : r.filter (fun l => decide (l.1 < k)) = [] := by
        refine List.filter_eq_nil_iff.mpr fun q hq => ?_
        have := ltPr_iff.mp (h1 q hq)
        simp
        omega
      rw [e0, List.nil_append] at ih
      rw [List.filter_cons_of_neg (p := fun l : Int × Int => decide (l.1 < k)) (by simpa using a), e0, List.nil_append]
      by_cases b : p.1 = k
      · rw [List.filter_cons_of_pos (p := fun l : Int × Int => decide (l.1 < k + 1)) (by simp; omega), List.filter_cons_of_pos (p := fun l : Int × Int => l.1 == k) (by simpa using b), ih, List.map_cons, List.map_cons]
        rw [← b]
      · rw [List.filter_cons_of_neg (p := fun l : Int × Int => decide (l.1 < k + 1)) (by simp; omega), List.filter_cons_of_neg (p := fun l : Int × Int => l.1 == k) (by simpa using b), ih]
theorem upTo_none {ls : List (Int × Int)} {k : Int} (h : ∀ l ∈ ls, k ≤ l.1) : upTo ls k = [] :=
  List.filter_eq_nil_iff.mpr fun l hl => by
    have := h l hl
    simp
    omega
theorem upTo_all {ls : List (Int × Int)} {k : Int} (h : ∀ l ∈ ls, l.1 < k) : upTo ls k = ls :=
  List.filter_eq_self.mpr fun l hl => by
    have := h l hl
    simp
    omega
theorem asc_pushedAt {n : Int} {i : Nat} : ∀ {r : List Int}, ascB ltIn r = true → ascB ltPr (pushedAt n i r) = true
  | [], _ => rfl
  | [x], _ => rfl
  | x :: y :: r, h => by
    simp only [ascB, Bool.and_eq_true, ltIn, decide_eq_true_eq] at h
    have ih := asc_pushedAt (n := n) (i := i) (r := y :: r) h.2
    unfold pushedAt at ih ⊢
    simp only [List.map_cons, ascB, Bool.and_eq_true] at ih ⊢
    exact ⟨ltPr_iff.mpr (.inr ⟨rfl, h.1⟩), ih⟩
theorem asc_pushed {n m : Int} : ∀ {rs : List (List Int)} {i : Nat}, (∀ r ∈ rs, (∀ t ∈ r, 0 ≤ t ∧ t < m) ∧ ascB ltIn r = true) → ascB ltPr (pushedFrom n i rs) = true
  | [], _, _ => rfl
  | r :: rs, i, h => by
    simp only [pushedFrom]
    refine asc_app (asc_pushedAt (h r (by simp)).2) (asc_pushed fun z hz => h z (List.mem_cons_of_mem _ hz)) ?_
    intro x hx y hy
    obtain ⟨t, _, rfl⟩ := List.mem_map.mp hx
    have := pushed_ok (fun z hz => (h z (List.mem_cons_of_mem _ hz)).1) y hy
    refine ltPr_iff.mpr (.inl ?_)
    simp only
    omega
theorem Wb.Ok.lines_asc {u : Wb} (h : u.Ok) : ascB ltPr u.lines = true := by
  refine asc_app h.asc (asc_pushed fun r hr => (h.ns r hr).2) ?_
  intro x hx y hy
  have a := h.ps x hx
  have b := pushed_ok (fun r hr => (h.ns r hr).2.1) y hy
  refine ltPr_iff.mpr (.inl ?_)
  omega
theorem Wb.Ok.sm {u : Wb} (h : u.Ok) : ∀ l ∈ u.lines, Sm l.1 ∧ Sm l.2 := by
  intro l hl
  have a := h.line l hl
  have b := h.hi
  have c := h.few
  refine ⟨⟨a.1.1, by omega⟩, ⟨a.2.1, by omega⟩⟩
theorem Wb.Ok.sm_row {u : Wb} (h : u.Ok) (s : Int) : ∀ t ∈ rowOf u.lines s, Sm t := by
  intro t ht
  obtain ⟨l, hl, rfl⟩ := List.mem_map.mp ht
  exact (h.sm l (List.mem_filter.mp hl).1).2
theorem Wb.Ok.sm_srcs {u : Wb} (h : u.Ok) (s : Int) : ∀ t ∈ srcsOf u.lines s, Sm t := by
  intro t ht
  obtain ⟨l, hl, rfl⟩ := List.mem_map.mp ht
  exact (h.sm l (List.mem_filter.mp hl).1).1
theorem srcs_len (ls : List (Int × Int)) (s : Int) : (srcsOf ls s).length ≤ ls.length := by
  unfold srcsOf
  rw [List.length_map]
  exact List.length_filter_le _ _
/-! ### sorted -/
/-- the two ints of a pair that is known -/
def keyOf (H : Hp) : V → Int × Int
  | .ref t => match H t with
    | some (.tup [.int a, .int b]) => (a, b)
    | _ => (0, 0)
  | _ => (0, 0)
theorem keyOf_at {H : Hp} {t : Addr} {p : Int × Int} (h : H t = some (.tup [.int p.1, .int p.2])) : keyOf H (.ref t) = p := by
  unfold keyOf
  simp only [h]
theorem keys_of {K : PySem.W.Frag} {H : Hp} : ∀ {L : List (Int × Int)} {xs : List V}, DaAll K H (L.map dPair) xs → (∀ x ∈ xs, ∃ t, x = V.ref t ∧ H t = some (.tup [.int (keyOf H x).1, .int (keyOf H x).2])) ∧ xs.map (keyOf H) = L
  | [], xs, h => by
    obtain rfl : xs = [] := h
    exact ⟨fun x hx => (by cases hx), rfl⟩
  | p :: L, xs, h => by
    obtain ⟨x, xs, rfl, ⟨a, ys, rfl, hS, z1, r1, rfl, e1, z2, r2, rfl, e2, rfl⟩, h2⟩ := h
    obtain rfl := e1
    obtain rfl := e2
    obtain ⟨g1, g2⟩ := keys_of h2
    have e := keyOf_at hS
    refine ⟨fun x hx => ?_, by rw [List.map_cons, e, g2]⟩
    rcases List.mem_cons.mp hx with rfl | hx
    · exact ⟨a, rfl, by rw [e]; exact hS⟩
    · exact g1 x hx
theorem srtd_of {k : V → Int × Int} : ∀ {xs : List V}, ascB ltPr (xs.map k) = true → SrtO.Srtd (ltP k) xs
  | [], _ => List.Pairwise.nil
  | x :: xs, h => by
    obtain ⟨h1, h2⟩ := asc_tail (p := k x) (r := xs.map k) h
    refine List.Pairwise.cons (fun y hy => ?_) (srtd_of h2)
    have a := ltPr_iff.mp (h1 (k y) (List.mem_map.mpr ⟨y, hy, rfl⟩))
    refine SrtO.lexB_no.mpr ?_
    omega
/-- sorted of what is sorted -/
theorem sorted_same {K : PySem.W.Frag} {H : Hp} {a : Addr} {xs : List V} {L : List (Int × Int)} {Q : VK} (hS : SqL K H a xs) (hA : DaAll K H (L.map dPair) xs) (ha : ascB ltPr L = true)
    (q : ∀ p, H p = none → Q (.ref p) (upd H p (.lst xs))) : rSortedPO K [.ref a] H Q := by
  obtain ⟨h1, h2⟩ := keys_of hA
  refine ⟨a, xs, keyOf H, rfl, hS, h1, fun ys p s1 s2 hp => ?_⟩
  have s3 : SrtO.Srtd (ltP (keyOf H)) xs := srtd_of (by rw [h2]; exact ha)
  rw [SrtO.stb_uniq (ltP_swo (keyOf H)) s1 s3 s2]
  exact q p hp
/-- pairs outlast what is done to a list -/
theorem pairs_wr {K : PySem.W.Frag} {H : Hp} {D : Addr} {ys : List V} {o : HO} (hD : H D = some (.lst ys)) : ∀ {L : List (Int × Int)} {acc : List V}, DaAll K H (L.map dPair) acc → DaAll K (upd H D o) (L.map dPair) acc
  | [], _, h => h
  | p :: L, acc, h => by
    obtain ⟨x, xs, rfl, ⟨a, zs, rfl, hS, z1, r1, rfl, e1, z2, r2, rfl, e2, rfl⟩, h2⟩ := h
    obtain rfl := e1
    obtain rfl := e2
    refine ⟨_, _, rfl, dPair_of ?_, pairs_wr hD h2⟩
    rw [upd_ne (fun e => by rw [e, hD] at hS; cases hS)]
    exact hS
end Nw
/-! TooLarge, made, raised, caught, and its limit read. -/
namespace PySem
namespace BigX
open PySem.W PySem.Calls PyProof.Rows PySem.HandSPX
/-! ### the text of __init__ -/
def iA (p1 p2 : Pos) : Arguments := { posonlyargs := [], args := [{ arg := "self", annotation := none, pos := p1 }, { arg := "limit", annotation := none, pos := p2 }], vararg := none, kwonlyargs := [], kw_defaults := [], kwarg := none, defaults := [] }
def iB (q1 q2 q3 q4 : Pos) : List Stmt := [.Assign [.Attribute (.Name "self" q1) "limit" q2] (.Name "limit" q3) q4]
def iS : Scope := { kind := .function, names := [(PySem.Str.ofString "self", .local), (PySem.Str.ofString "limit", .local)], isGenerator := false, isCoroutine := false, more := [] }
/-- what the written part says of TooLarge, at C, and of its __init__, at fI -/
structure BigTxt (K : Frag) (mg : Str → Option Value) (C fI : Addr) : Prop where
  gC : mg "TooLarge" = some (.ref C)
  cls : ∃ nm q N bs bm sn sub ab col dd k0 k1 k2 k3 k5, K.lookup C = some (excClassObj nm q C N bs bm true sn sub ab col dd k0 k1 k2 k3 k5 "ValueError.__new__") ∧ refsVE bm = true
  sa : findIn K (.ref C) "__setattr__" = some (some (.builtin "object.__setattr__"))
  ga : findIn K (.ref C) "__getattribute__" = some (some (.builtin "BaseException.__getattribute__"))
  gg : findIn K (.ref C) "__getattr__" = some none
  noN : findIn K (.ref C) "limit" = some none
  iC : findIn K (.ref C) "__init__" = some (some (.ref fI))
  tC : typeIn K (.ref fI) = some (.type "function")
  kC : keepIn K (.ref C) = true
  exC : subIn K (.ref C) (.type "BaseException") = some true
  tyC : typeIn K (.ref C) = some (.type "type")
  hdC : hasDictIn K C = true
  te : exmOne K (.ref C) (.ref C) = some true
  fn : ∃ (oc : Value) (od : Option Addr) (doc pm : Value) (an : Option Addr) (cdv ct : Value) (osl : Array (Option Value)) (p1 p2 q1 q2 q3 q4 : Pos),
    K.lookup fI = some ⟨oc, od, .func (fnOf "__init__" "TooLarge.__init__" (iA p1 p2) (iB q1 q2 q3 q4) iS .none .none doc pm an cdv ct), osl⟩ ∧ codeIn K cdv "TooLarge.__init__" = true
theorem one_size (v : Value) : [v].length ≤ sizeLine := by
  rw [sizeLine_eq]
  exact (by decide : 1 ≤ 16777216)
theorem kept_but {K : Frag} {h h' : Heap} {x : Addr} (X : K.In h) (hx : K.lookup x = none) (k : ∀ b o, b ≠ x → h.get? b = some o → h'.get? b = some o) : K.In h' := fun a o e =>
  k a o (fun z => by rw [z, hx] at e; cases e) (X a o e)
theorem ldC {M : Model} {s : Shared} {name : Str} {scope : Scope} {L a : Addr} {cd : Value} {m : Str → Option Value} {x : Str} {pos : Pos} {v : Value} {Q : Value → Shared → Prop} {A : Around} {E : Value → Shared → Prop} (hn : s.heap.Ns L m) (hv : m x = some v) (h : Q v s)
    (hk : scope.kind = .function := by rfl) (hl : (envOfC name scope L a cd).kindOf x = some .local := by rfl) (hd : (x == ("__debug__" : Str)) = false := by decide) :
    wpAny M A (eval (.Name x pos) (envOfC name scope L a cd)) Q E s := wpAny_Name (wpAny_loadName_local hk hl hn hv h) hd
/-- what __init__ leaves of a fresh exception at x -/
structure InitEnd (h h' : Heap) (x C dx t1 : Addr) (v : Value) : Prop where
  keep : ∀ b o, b ≠ x → h.get? b = some o → h'.get? b = some o
  obj : h'.get? x = some { cls := .ref C, dict := some dx, data := .fields #[.ref t1, .none, .none, .none, .bool false, .none] }
  dbig : h.objs.size ≤ dx
  dne : dx ≠ x
  ns : h'.Ns1 dx (fun y => if y = "limit" then some v else none)
/-- a made TooLarge -/
structure OwnMade (h h' : Heap) (e C d : Addr) (v : Value) : Prop where
  keep : ∀ b o, h.get? b = some o → h'.get? b = some o
  new : h.objs.size ≤ e
  obj : ∃ oe vs, h'.get? e = some oe ∧ oe.cls = .ref C ∧ oe.dict = some d ∧ oe.data = .fields vs ∧ vs[1]? = some .none
  dbig : h.objs.size ≤ d
  dne : d ≠ e
  ns : h'.Ns1 d (fun y => if y = "limit" then some v else none)
section
variable {prog : Program} {w : World} {A : Around} {E : Value → Shared → Prop} {R : Result → Shared → Prop} {s : Shared} {K : Frag} {mg : Str → Option Value} {C fI : Addr}
theorem big_init (T : BigTxt K mg C fI) {x t0 : Addr} {v : Value} (X : K.In s.heap) (hlim : s.heap.NoLimit) (hx : s.heap.get? x = some (excO C t0)) (hnx : K.lookup x = none) (hroom : A.depth < recursionLimit)
    (hq : ∀ h' tk dx, InitEnd s.heap h' x C dx t0 v → R (.ok (.ret .none)) { s with heap := h', toks := tk }) :
    codeAny (model prog w) A (.call (.ref fI) ⟨[.ref x, v], []⟩) R s := by
  obtain ⟨oc, od, doc, pm, an, cdv, ct, osl, p1, p2, q1, q2, q3, q4, ho, hcd⟩ := T.fn
  obtain ⟨nm, q, N, bs, bm, sn, sub, ab, col, dd, k0, k1, k2, k3, k5, hC, hbm⟩ := T.cls
  have hcl : clsIn K C = some { name := nm, bases := bs, mro := .ref C :: bm, ns := N, qualname := q, hasDict := true, slotNames := sn, subclasses := sub, abstract := ab, collection := col, hasDel := false } := by unfold clsIn; rw [hC] <;> rfl
  refine Att.call_fn (binds := [("self", .ref x), ("limit", v)]) X hlim ho hcd hroom (BindsTo.of_eq (by first | rfl | with_unfolding_all rfl)) (by first | rfl | decide | with_unfolding_all rfl) (fun s₁ IC => ?_) rfl rfl rfl
  obtain ⟨h₁, tk₁, rfl⟩ := IC.toInCall.same
  have k : ∀ b o, s.heap.get? b = some o → h₁.get? b = some o := IC.toInCall.keep
  have hn := IC.toInCall.ns
  have hxL : s.heap.objs.size ≠ x := Nat.ne_of_gt (Heap.lt_size hx)
  have X₁ : K.In h₁ := X.keeps k
  have hx₁ := k _ _ hx
  -- self.by = by
  show wpAny _ _ (execs _ _) _ _ _
  refine wpAny_execs_cons (plainObj_wpAny_Assign_Attribute ?_)
  refine ldC (v := v) hn (by first | rfl | with_unfolding_all rfl | kernel_rfl) (ldC (v := .ref x) hn (by first | rfl | with_unfolding_all rfl | kernel_rfl) ?_)
  refine set_plain X₁ (ox := excO C t0) (od := none) ⟨hx₁, rfl, rfl, trivial⟩ T.sa ?_
  refine exc_osa X₁ hx₁ hcl (show refsVE (.ref C :: bm) = true from hbm) rfl T.noN (fun h₃ tk₃ dx k₃ dn dne hx₃ hn₃ => ?_)
  show wpAny _ _ (execs _ _) _ _ _
  have z : s.heap.objs.size < h₁.objs.size := hn.lt
  exact wpAny_execs_nil (hq h₃ tk₃ dx ⟨fun b o hb e => k₃ b o hb (k b o e), hx₃, Nat.le_of_lt (Nat.lt_of_lt_of_le z dn), dne, hn₃⟩)
theorem big_made (T : BigTxt K mg C fI) {v : Value} (X : K.In s.heap) (hlim : s.heap.NoLimit) (hroom : A.depth + 1 < recursionLimit)
    (hq : ∀ h' tk e d, OwnMade s.heap h' e C d v → R (.ok (.ret (.ref e))) { s with heap := h', toks := tk }) :
    codeAny (model prog w) A (.call (.ref C) ⟨[v], []⟩) R s := by
  obtain ⟨nm, q, N, bs, bm, sn, sub, ab, col, dd, k0, k1, k2, k3, k5, hC, hbm⟩ := T.cls
  obtain ⟨hp, g, dr, tk, os⟩ := s
  have k : ∀ b o, hp.get? b = some o → ((hp.push (kdv_tup [v])).push (excO C hp.objs.size)).get? b = some o := fun b o e => Heap.get?_push_of_some _ (Heap.get?_push_of_some _ e)
  have hget : ((hp.push (kdv_tup [v])).push (excO C hp.objs.size)).get? (hp.objs.size + 1) = some (excO C hp.objs.size) := by heap_get
  have hnx : K.lookup (hp.objs.size + 1) = none := by
    cases e : K.lookup (hp.objs.size + 1) with
    | none => rfl
    | some o =>
      have z : hp.get? (hp.objs.size + 1) = some o := X _ _ e
      exact absurd (Nat.lt_of_succ_lt (Heap.lt_size z)) (Nat.lt_irrefl _)
  refine call_own F.excBase_ValueError (fun X => refsVE_contains X bm hbm) (X _ _ hC) (looks_findIn X T.iC) (fun self => bind_fn X self T.tC) (one_size v) ?_
  refine big_init (s := ⟨(hp.push (kdv_tup [v])).push (excO C hp.objs.size), g, dr, tk, os⟩) T (X.keeps k) (hlim.keeps k) hget hnx ?_ fun h' tk' dx ⟨k', hx, dn, dne, hns⟩ => ?_
  · show A.depth + 1 < recursionLimit
    exact hroom
  · have old : ∀ b o, hp.get? b = some o → h'.get? b = some o := fun b o e => k' b o (Nat.ne_of_lt (Nat.lt_succ_of_lt (Heap.lt_size e))) (k b o e)
    have z : hp.objs.size + 1 + 1 ≤ dx := by
      first
        | (simpa only [Heap.size_push] using dn)
        | exact dn
        | (have q := dn; rw [Heap.size_push, Heap.size_push] at q; exact q)
    exact ⟨rfl, hq h' tk' (hp.objs.size + 1) dx ⟨old, Nat.le_succ _, ⟨_, _, hx, rfl, rfl, rfl, rfl⟩, Nat.le_trans (Nat.le_trans (Nat.le_succ _) (Nat.le_succ _)) z, dne, hns⟩⟩
end
end BigX
end PySem
namespace L2
open PySem PySem.Spec PyProof.Rows
theorem relO_big {v : V} {v' : Value} (r : RelV v v') (f : Str) : RelO (List.lookup f [(("limit" : Str), v)]) (if f = "limit" then some v' else none) := by
  by_cases hw : f = "limit"
  · subst hw
    rw [if_pos rfl]
    have q : List.lookup ("limit" : Str) [(("limit" : Str), v)] = some v := by simp [List.lookup]
    rw [q]
    exact r
  · rw [if_neg hw]
    have qw : (f == ("limit" : Str)) = false := by simpa using hw
    have q2 : List.lookup f [(("limit" : Str), v)] = none := by simp [List.lookup, qw]
    rw [q2]
    trivial
section
variable {X : Cx} {C fI : Addr}
/-- TooLarge(e) -/
def tMkBig (C : Addr) (ta : TA) : St → Hp → XK → Prop := fun σ H Q => ta σ H fun vs H1 => ∃ v, vs = [v] ∧ ∀ d, H1 d = none → Q (.ref C) (some d) (upd H1 d (.xd [(("limit" : Str), v)]))
theorem pmk_big {a : Expr} {ta : TA} {p pos : Pos} {k : Nat} (T : PySem.BigX.BigTxt X.K X.mg C fI) (hr : Room k X.A) (ha : PA X [a] ta) (hg : Gl X "TooLarge" := by rfl)
    (he : starEach (a :: []) X.env = (false, eval a X.env) :: starEach [] X.env := by rfl) (hpl : (backTo pos (starEach [] X.env)).any (·.1) = false := by rfl) :
    PMk X (.Call (.Name "TooLarge" p) [a] [] pos) (tMkBig C ta) := by
  intro pins s σ H Q I h
  refine wpAny_Call_Name_kw (ld_glob I hg T.gC ?_)
  refine PySem.W.callWith_K (h₀ := X.base) I.ok.mod.kin T.kC (thn (ha.run pos pins s σ H _ I h) fun us s1 hh => ?_) he hpl
  obtain ⟨vs, H1, I1, r1, v, ev, q1⟩ := hh
  subst ev
  refine ⟨I1.kIn, ?_⟩
  cases r1 with
  | cons rv rn =>
    rename_i v' us'
    cases rn
    show wpAny _ _ (call (.ref C) [v']) _ _ _
    have hlim := I1.nolimit
    obtain ⟨hp, g, dr, tk, os⟩ := s1
    refine wpAny_call (PySem.BigX.big_made T I1.kIn hlim (by have := hr.dp; omega) fun h' tk' e d M => ?_)
    show MkP X pins σ Q (.ref e) ⟨h', g, dr, tk', os⟩
    obtain ⟨oe, fv, hoe, hc, hd, hdat, h1⟩ := M.obj
    have hns := M.ns
    obtain ⟨G', g1, g2⟩ := restrict h' fun b => decide (b ≠ e)
    have gk : ∀ b, b ≠ e → G'.get? b = h'.get? b := fun b hb => g1 b (decide_eq_true hb)
    have ge : G'.get? e = none := g2 e (by simp)
    have old : ∀ b o, hp.get? b = some o → G'.get? b = some o := fun b o q => (gk b (Nat.ne_of_lt (Nat.lt_of_lt_of_le (Heap.lt_size q) M.new))).trans (M.keep b o q)
    have ob : ObjOk X.prog X.w (upd H1 d (.xd [(("limit" : Str), v)])) G' d (.xd [(("limit" : Str), v)]) :=
      ⟨_, hns.at (fun o q => (gk d M.dne).trans q), fun f => relO_big rv f⟩
    have J : Inv X pins σ (upd H1 d (.xd [(("limit" : Str), v)])) ⟨G', g, dr, tk', os⟩ := I1.laid (t' := tk') old M.dbig ob
    refine ⟨e, oe, fv, ⟨G', g, dr, tk', os⟩, _, .ref C, some d, rfl, J, fun b o q => ?_, ge, hoe, ⟨hc, hd⟩, hdat, h1, ?_, rfl, I1.bare, raises_own T.exC T.tyC, q1 d (I1.hok.fresh M.dbig)⟩
    · by_cases hb : b = e
      · have q' : G'.get? b = some o := q
        rw [hb, ge] at q'; cases q'
      · exact (gk b hb).symm.trans q
    · rw [upd_ne (Ne.symm M.dne)]
      exact I1.hok.fresh M.new
/-- raise TooLarge(e) -/
def tRaiseBig (C : Addr) (W : WX) (ta : TA) : TS := fun _ σ H => tMkBig C ta σ H fun cls d H' => W cls d σ H'
theorem ps_raiseBig {a : Expr} {ta : TA} {W : WX} {p pos pos2 : Pos} {k : Nat} (hc : X.calm = true) (T : PySem.BigX.BigTxt X.K X.mg C fI) (hr : Room k X.A) (tk : Takes X W) (ha : PA X [a] ta) (hg : Gl X "TooLarge" := by rfl)
    (he : starEach (a :: []) X.env = (false, eval a X.env) :: starEach [] X.env := by rfl) (hpl : (backTo pos (starEach [] X.env)).any (·.1) = false := by rfl) :
    PS X (.Raise (some (.Call (.Name "TooLarge" p) [a] [] pos)) none pos2) (tRaiseBig C W ta) := ps_raise hc tk (pmk_big T hr ha hg he hpl)
/-- big.limit, low the exception that the suite holds (at a; its class cls, its dict d) -/
def tLimBig (C : Addr) (a : Addr) (cls : Value) (d : Option Addr) (te : TE) : TE := fun σ H Q => te σ H fun x H1 => x = .ref a ∧ cls = .ref C ∧ ∃ (dd : Addr) (v : V), d = some dd ∧ H1 dd = some (.xd [(("limit" : Str), v)]) ∧ Q v H1
theorem pe_limBig {a : Addr} {oe : Obj} {cls : Value} {d : Option Addr} {pn : List (Addr × Obj)} {e : Expr} {te : TE} {pos : Pos} (T : PySem.BigX.BigTxt X.K X.mg C fI) (hz : Zc cls d oe) (hf : ∃ vs, oe.data = .fields vs) (he : PE (X.suite a ((a, oe) :: pn)) e te)
    (hb : attributeBase e "limit" X.env (eval e X.env) = eval e X.env := by rfl) :
    PE (X.suite a ((a, oe) :: pn)) (.Attribute e "limit" pos) (tLimBig C a cls d te) := by
  refine ⟨fun pins s σ H Q I h => ?_⟩
  refine attr_of hb (thn (he.run pins s σ H _ I h) fun u s1 hh => ?_)
  obtain ⟨x, H1, I1, rx, ex, ec, dd, v, ed, ea, q⟩ := hh
  subst ex
  obtain rfl : u = Value.ref a := rx
  subst ec
  subst ed
  obtain ⟨ha, _⟩ := I1.pin (a, oe) (List.mem_append_left _ List.mem_cons_self)
  obtain ⟨vs, hd⟩ := hf
  have hx : ObjOk X.prog X.w H1 s1.heap dd (.xd [(("limit" : Str), v)]) := I1.hok dd _ ea
  obtain ⟨mA, hns, hr⟩ := hx
  obtain ⟨od, ho, hl⟩ := lookIn_ns hns
  have l : List.lookup ("limit" : Str) [(("limit" : Str), v)] = some v := by simp [List.lookup]
  obtain ⟨u, hu, ru⟩ := RelO.some_of (v := v) (o := mA "limit") (by rw [← l]; exact hr "limit")
  have J : PySem.W.InstAt s1.heap a oe C (some od) := ⟨ha, hz.1, by unfold PySem.W.notCls; rw [hd] <;> rfl, by rw [hz.2]; exact ho⟩
  exact HandSPX.exc_get I1.kIn J T.ga T.gg T.exC (PySem.W.findObj_own T.hdC T.noN rfl (by rw [hl, hu])) (handed_of ru) ⟨v, H1, I1.tok _, ru, q⟩
end
end L2
/-! Webs turned and renumbered. -/
namespace Nw
open PySem PySem.Spec PyProof.Rows L2
section
variable {X : Cx}
theorem mt_indexK (K : PySem.W.Frag) (hK : X.K = K := by rfl) : MtR X "list.index" (rIndex K) := by
  subst hK
  exact mt_index
theorem bmK (K : PySem.W.Frag) {T : String} {r : V → List V → Hp → VK → Prop} {to : TE} {t : TA} {e : Expr} (h : PE X e (tBM X.K T r to t)) (hK : X.K = K := by rfl) : PE X e (tBM K T r to t) := by
  subst hK
  exact h
theorem pe_dgetK {k : Nat} {o i : Expr} {td ty : TE} {pos : Pos} (hr : Room k X.A) (ho : PE X o td) (hi : PE X i ty) (hs : NoSl i) : PE X (.Subscript o i pos) (tDGet td ty) :=
  pe_dget (by have := hr.un; omega) ho hi hs
end
/-- what a dict comprehension's reading asks -/
theorem dc_by {J : It} {g : TG} {tt : TT} {tk tv : TE} {vs : List Nat} {σ : L2.St} {D : Addr} {H1 : Hp} {Qd : Hp → Prop}
    (n : Nat) (Pv : Nat → Hp → Prop) (h0 : Pv 0 (upd H1 D (.dK [])))
    (hgo : ∀ i H, i < n → Pv i H → J.go i H) (hst : ∀ H, Pv n H → J.stop n H)
    (hs : ∀ i H x H', i < n → Pv i H → J.yld i H x H' → g x (wipe σ vs) H' fun σ2 H2 => wipe σ2 vs = wipe σ vs ∧ tt σ2 H2 fun b H3 =>
      if b = true then tk σ2 H3 fun y H4 => tv σ2 H4 fun z H5 => ∃ kvs k, y = kV k ∧ H5 D = some (.dK kvs) ∧ kvs.length < sizeLine ∧ Pv (i + 1) (upd H5 D (.dK (putK kvs k z))) else Pv (i + 1) H3)
    (hd : ∀ H, Pv n H → Qd H) :
    ∃ W : Nat → Nat → Hp → Prop, (∃ m, W 0 m (upd H1 D (.dK []))) ∧ ∀ i m H, W i m H →
      (J.stop i H ∧ Qd H) ∨ (J.go i H ∧ ∃ Nx : Hp → Prop, (∀ H', Nx H' → ∃ m', m' < m ∧ W (i + 1) m' H') ∧ ∀ x H', J.yld i H x H' → g x (wipe σ vs) H' fun σ2 H2 => wipe σ2 vs = wipe σ vs ∧ tt σ2 H2 fun b H3 =>
        if b = true then tk σ2 H3 fun y H4 => tv σ2 H4 fun z H5 => ∃ kvs k, y = kV k ∧ H5 D = some (.dK kvs) ∧ kvs.length < sizeLine ∧ Nx (upd H5 D (.dK (putK kvs k z))) else Nx H3) := by
  refine ⟨fun i m H => m = n - i ∧ i ≤ n ∧ Pv i H, ⟨n, by omega, Nat.zero_le _, h0⟩, ?_⟩
  rintro i m H ⟨rfl, hi, p⟩
  by_cases hlt : i < n
  · refine .inr ⟨hgo i H hlt p, Pv (i + 1), fun H' p' => ⟨n - (i + 1), by omega, rfl, hlt, p'⟩, ?_⟩
    intro x H' y
    exact hs i H x H' hlt p y
  · have e : i = n := by omega
    subst e
    exact .inl ⟨hst H p, hd H p⟩
/-! ### lists told by their members -/
theorem pw_ext {α : Type} {lt : α → α → Bool} (irr : ∀ x, lt x x = false) (asym : ∀ x y, lt x y = true → lt y x = false) :
    ∀ {a b : List α}, a.Pairwise (fun x y => lt x y = true) → b.Pairwise (fun x y => lt x y = true) → (∀ x, x ∈ a ↔ x ∈ b) → a = b
  | [], [], _, _, _ => rfl
  | [], y :: b, _, _, h => by
    have := (h y).mpr (by simp)
    cases this
  | x :: a, [], _, _, h => by
    have := (h x).mp (by simp)
    cases this
  | x :: a, y :: b, ha, hb, h => by
    obtain ⟨a1, a2⟩ := List.pairwise_cons.mp ha
    obtain ⟨b1, b2⟩ := List.pairwise_cons.mp hb
    have e : x = y := by
      rcases List.mem_cons.mp ((h x).mp (by simp)) with e | hx
      · exact e
      rcases List.mem_cons.mp ((h y).mpr (by simp)) with e | hy
      · exact e.symm
      have z1 := b1 x hx
      have z2 := a1 y hy
      rw [asym _ _ z1] at z2
      cases z2
    subst e
    have nx : ∀ {l : List α}, (∀ z ∈ l, lt x z = true) → x ∉ l := fun hl hx => by
      have := hl x hx
      rw [irr] at this
      cases this
    rw [pw_ext irr asym a2 b2 fun z => ?_]
    constructor
    · intro hz
      rcases List.mem_cons.mp ((h z).mp (List.mem_cons_of_mem _ hz)) with e | hz'
      · subst e
        exact absurd hz (nx a1)
      · exact hz'
    · intro hz
      rcases List.mem_cons.mp ((h z).mpr (List.mem_cons_of_mem _ hz)) with e | hz'
      · subst e
        exact absurd hz (nx b1)
      · exact hz'
theorem ltPr_no {p q : Int × Int} (h : ¬ (p.1 < q.1 ∨ (p.1 = q.1 ∧ p.2 < q.2))) : ltPr p q = false := by
  cases e : ltPr p q with
  | false => rfl
  | true => exact absurd (ltPr_iff.mp e) h
theorem pw_asc : ∀ {l : List (Int × Int)}, ascB ltPr l = true → l.Pairwise fun x y => ltPr x y = true
  | [], _ => List.Pairwise.nil
  | x :: l, h => by
    obtain ⟨h1, h2⟩ := asc_tail h
    exact List.Pairwise.cons h1 (pw_asc h2)
theorem asc_pw {α : Type} {lt : α → α → Bool} : ∀ {l : List α}, l.Pairwise (fun x y => lt x y = true) → ascB lt l = true
  | [], _ => rfl
  | [x], _ => rfl
  | x :: y :: l, h => by
    obtain ⟨h1, h2⟩ := List.pairwise_cons.mp h
    show (lt x y && ascB lt (y :: l)) = true
    rw [h1 y (by simp), asc_pw h2]
    rfl
theorem ascI_tail : ∀ {p : Int} {r : List Int}, ascB ltIn (p :: r) = true → (∀ q ∈ r, ltIn p q = true) ∧ ascB ltIn r = true
  | p, [], _ => ⟨fun q hq => (by cases hq), rfl⟩
  | p, q :: r, h => by
    simp only [ascB, Bool.and_eq_true] at h
    obtain ⟨h1, h2⟩ := ascI_tail (p := q) (r := r) h.2
    refine ⟨fun z hz => ?_, h.2⟩
    rcases List.mem_cons.mp hz with rfl | hz
    · exact h.1
    · have a := of_decide_eq_true h.1
      have b := of_decide_eq_true (h1 z hz)
      exact decide_eq_true (by omega)
theorem pwI_asc : ∀ {l : List Int}, ascB ltIn l = true → l.Pairwise fun x y => ltIn x y = true
  | [], _ => List.Pairwise.nil
  | x :: l, h => by
    obtain ⟨h1, h2⟩ := ascI_tail h
    exact List.Pairwise.cons h1 (pwI_asc h2)
theorem asc_ext {a b : List (Int × Int)} (ha : ascB ltPr a = true) (hb : ascB ltPr b = true) (h : ∀ x, x ∈ a ↔ x ∈ b) : a = b :=
  pw_ext (fun x => ltPr_no (by omega)) (fun x y e => ltPr_no (by have := ltPr_iff.mp e; omega)) (pw_asc ha) (pw_asc hb) h
theorem ltIn_no {p q : Int} (h : ¬ p < q) : ltIn p q = false := by
  unfold ltIn
  exact decide_eq_false h
theorem ltIn_yes {p q : Int} (h : ltIn p q = true) : p < q := by
  unfold ltIn at h
  exact of_decide_eq_true h
theorem ascI_ext {a b : List Int} (ha : ascB ltIn a = true) (hb : ascB ltIn b = true) (h : ∀ x, x ∈ a ↔ x ∈ b) : a = b :=
  pw_ext (fun x => ltIn_no (by omega)) (fun x y e => ltIn_no (by have := ltIn_yes e; omega)) (pwI_asc ha) (pwI_asc hb) h
theorem nodup_asc {l : List (Int × Int)} (h : ascB ltPr l = true) : l.Nodup :=
  (pw_asc h).imp fun {a b} e n => by
    subst n
    have := ltPr_iff.mp e
    omega
theorem nodup_ascI {l : List Int} (h : ascB ltIn l = true) : l.Nodup :=
  (pwI_asc h).imp fun {a b} e n => by
    subst n
    have := of_decide_eq_true e
    omega
/-- sorted ints that are apart -/
theorem asc_sortedI {l m : List Int} (hp : m.Perm l) (hs : m.Pairwise (· ≤ ·)) (hn : l.Nodup) : ascB ltIn m = true := by
  refine asc_pw ?_
  have hm : m.Nodup := hp.nodup_iff.mpr hn
  have := hs.and hm
  exact this.imp fun {a b} h => decide_eq_true (by have := h.1; have := h.2; omega)
/-- sorted pairs that are apart -/
theorem sortedP {K : PySem.W.Frag} {H : Hp} {L : List (Int × Int)} {xs ys : List V} (hA : DaAll K H (L.map dPair) xs) (hn : L.Nodup)
    (s1 : SrtO.Srtd (ltP (keyOf H)) ys) (s2 : SrtO.Stb (ltP (keyOf H)) ys xs) : ∃ M : List (Int × Int), DaAll K H (M.map dPair) ys ∧ ascB ltPr M = true ∧ (∀ p, p ∈ M ↔ p ∈ L) ∧ M.length = L.length := by
  obtain ⟨k1, k2⟩ := keys_of hA
  have hp : (ys.map (keyOf H)).Perm L := by
    rw [← k2]
    exact s2.perm.map _
  refine ⟨ys.map (keyOf H), ?_, ?_, fun p => hp.mem_iff, hp.length_eq⟩
  · have hy : ∀ x ∈ ys, ∃ t, x = V.ref t ∧ H t = some (.tup [.int (keyOf H x).1, .int (keyOf H x).2]) := fun x hx => k1 x (s2.perm.mem_iff.mp hx)
    clear s1 s2 hp
    induction ys with
    | nil => rfl
    | cons y ys ih =>
      obtain ⟨t, rfl, ht⟩ := hy y (by simp)
      exact ⟨_, _, rfl, dPair_of ht, ih fun x hx => hy x (List.mem_cons_of_mem _ hx)⟩
  · have hm : (ys.map (keyOf H)).Nodup := hp.nodup_iff.mpr hn
    have hs : (ys.map (keyOf H)).Pairwise fun x y => SrtO.lexB y x = false := List.pairwise_map.mpr s1
    refine asc_pw ((hs.and hm).imp fun {a b} h => ltPr_iff.mpr ?_)
    have h1 := SrtO.lexB_no.mp h.1
    have h2 : ¬ (a.1 = b.1 ∧ a.2 = b.2) := fun e => h.2 (Prod.ext e.1 e.2)
    omega
/-! ### orders -/
abbrev iota (n : Int) : List Int := (List.range n.toNat).map fun i : Nat => (i : Int)
abbrev IsOrd (n : Int) (o : List Int) : Prop := o.Perm (iota n)
theorem mem_iota {n x : Int} : x ∈ iota n ↔ 0 ≤ x ∧ x < n := by
  constructor
  · intro h
    obtain ⟨i, hi, rfl⟩ := List.mem_map.mp h
    have := List.mem_range.mp hi
    omega
  · rintro ⟨h1, h2⟩
    exact List.mem_map.mpr ⟨x.toNat, List.mem_range.mpr (by omega), by omega⟩
theorem asc_iota_aux : ∀ n : Nat, ((List.range n).map fun i : Nat => (i : Int)).Pairwise fun x y => ltIn x y = true := fun n =>
  List.pairwise_map.mpr (List.pairwise_lt_range.imp fun {a b} h => decide_eq_true (by omega))
theorem asc_iota (n : Int) : ascB ltIn (iota n) = true := asc_pw (asc_iota_aux _)
theorem nodup_iota (n : Int) : (iota n).Nodup := nodup_ascI (asc_iota n)
theorem IsOrd.mem {n : Int} {o : List Int} (h : IsOrd n o) {x : Int} : x ∈ o ↔ 0 ≤ x ∧ x < n := h.mem_iff.trans mem_iota
theorem IsOrd.len {n : Int} {o : List Int} (h : IsOrd n o) : o.length = n.toNat := by
  rw [h.length_eq, List.length_map, List.length_range]
theorem IsOrd.nd {n : Int} {o : List Int} (h : IsOrd n o) : o.Nodup := h.nodup_iff.mpr (nodup_iota n)
/-- the place of a quantity in an order -/
def pl (o : List Int) (q : Int) : Int := (o.idxOf q : Int)
theorem pl_at {o : List Int} (h : o.Nodup) {i : Nat} {q : Int} (e : o[i]? = some q) : pl o q = (i : Int) := by
  obtain ⟨hi, rfl⟩ := List.getElem?_eq_some_iff.mp e
  unfold pl
  rw [h.idxOf_getElem i hi]
theorem pl_get {n : Int} {o : List Int} (h : IsOrd n o) {q : Int} (hq : 0 ≤ q ∧ q < n) : ∃ j : Nat, o[j]? = some q ∧ pl o q = (j : Int) ∧ (j : Int) < n := by
  have hm := h.mem.mpr hq
  have hl := List.idxOf_lt_length_iff.mpr hm
  refine ⟨o.idxOf q, ?_, rfl, ?_⟩
  · rw [List.getElem?_eq_getElem hl, List.getElem_idxOf]
  · have := h.len
    omega
theorem pl_lt {n : Int} {o : List Int} (h : IsOrd n o) {q : Int} (hq : 0 ≤ q ∧ q < n) : 0 ≤ pl o q ∧ pl o q < n := by
  obtain ⟨j, _, e, l⟩ := pl_get h hq
  omega
theorem pl_inj {n : Int} {o : List Int} (h : IsOrd n o) {a b : Int} (ha : 0 ≤ a ∧ a < n) (hb : 0 ≤ b ∧ b < n) (e : pl o a = pl o b) : a = b := by
  obtain ⟨j, g1, e1, _⟩ := pl_get h ha
  obtain ⟨k, g2, e2, _⟩ := pl_get h hb
  have : j = k := by omega
  subst this
  rw [g1] at g2
  exact Option.some.inj g2
theorem iota_at {n : Int} {i : Nat} (h : (i : Int) < n) : (iota n)[i]? = some (i : Int) := by
  rw [List.getElem?_map, List.getElem?_range (by omega)]
  rfl
theorem list_ext_at {α : Type} {a b : List α} (hl : a.length = b.length) (h : ∀ (i : Nat) (x : α), b[i]? = some x → a[i]? = some x) : a = b := by
  refine List.ext_getElem? fun i => ?_
  cases e : b[i]? with
  | some x => exact h i x e
  | none =>
    have := List.getElem?_eq_none_iff.mp e
    exact List.getElem?_eq_none_iff.mpr (by omega)
theorem IsOrd.back {n : Int} {o : List Int} (h : IsOrd n o) : IsOrd n ((iota n).map (pl o)) := by
  have e : o.map (pl o) = iota n := by
    refine list_ext_at (by rw [List.length_map, h.len, List.length_map, List.length_range]) fun i x hx => ?_
    have hi : (i : Int) < n := by
      obtain ⟨hi, _⟩ := List.getElem?_eq_some_iff.mp hx
      rw [List.length_map, List.length_range] at hi
      omega
    rw [iota_at hi] at hx
    obtain rfl := (Option.some.inj hx)
    have hl : i < o.length := by rw [h.len]; omega
    have := List.getElem?_eq_getElem hl
    rw [List.getElem?_map, this, Option.map_some, pl_at h.nd this]
  have p := h.map (pl o)
  rw [e] at p
  exact p.symm
theorem pl_back {n : Int} {o : List Int} (h : IsOrd n o) {q : Int} (hq : 0 ≤ q ∧ q < n) : pl ((iota n).map (pl o)) (pl o q) = q := by
  have e : ((iota n).map (pl o))[q.toNat]? = some (pl o q) := by
    rw [List.getElem?_map, iota_at (by omega), Option.map_some, Int.toNat_of_nonneg hq.1]
  rw [pl_at h.back.nd e, Int.toNat_of_nonneg hq.1]
theorem IsOrd.both {n : Int} {o s : List Int} (h : IsOrd n o) (g : IsOrd n s) : IsOrd n (s.map fun x => o.getD x.toNat 0) := by
  have e : (iota n).map (fun x => o.getD x.toNat 0) = o := by
    refine list_ext_at (by rw [List.length_map, h.len, List.length_map, List.length_range]) fun i x hx => ?_
    have hi : (i : Int) < n := by
      obtain ⟨hi, _⟩ := List.getElem?_eq_some_iff.mp hx
      rw [h.len] at hi
      omega
    rw [List.getElem?_map, iota_at hi, Option.map_some, Int.toNat_natCast, List.getD_eq_getElem?_getD, hx]
    rfl
  have p := g.map fun x => o.getD x.toNat 0
  rw [e] at p
  exact p.trans h
theorem pl_both {n : Int} {o s : List Int} (h : IsOrd n o) (g : IsOrd n s) {q : Int} (hq : 0 ≤ q ∧ q < n) : pl (s.map fun x => o.getD x.toNat 0) q = pl s (pl o q) := by
  obtain ⟨j, g1, e1, l1⟩ := pl_get h hq
  obtain ⟨k, g2, e2, l2⟩ := pl_get g (q := pl o q) (by omega)
  rw [e2]
  refine pl_at (h.both g).nd ?_
  rw [List.getElem?_map, g2, Option.map_some, e1, Int.toNat_natCast, List.getD_eq_getElem?_getD, g1]
  rfl
/-! ### webs renumbered -/
abbrev RowRen (f : Int → Int) (r s : List Int) : Prop := ∀ t, t ∈ s ↔ ∃ q ∈ r, t = f q
structure Ren (f : Int → Int) (u w : Wb) : Prop where
  n : w.n = u.n
  ps : ∀ p, p ∈ w.ps ↔ ∃ q ∈ u.ps, p = (f q.1, f q.2)
  len : w.ns.length = u.ns.length
  ns : ∀ (k : Nat) (r s : List Int), u.ns[k]? = some r → w.ns[k]? = some s → RowRen f r s
theorem Ren.uniq {f : Int → Int} {u w v : Wb} (h : Ren f u w) (g : Ren f u v) (hw : w.Ok) (hv : v.Ok) : w = v := by
  have e1 : w.n = v.n := h.n.trans g.n.symm
  have e2 : w.ps = v.ps := asc_ext hw.asc hv.asc fun x => (h.ps x).trans (g.ps x).symm
  have e3 : w.ns = v.ns := by
    refine list_ext_at (h.len.trans g.len.symm) fun i x hx => ?_
    have hi : i < u.ns.length := by
      obtain ⟨hi, _⟩ := List.getElem?_eq_some_iff.mp hx
      have := g.len
      omega
    have hy := List.getElem?_eq_getElem (l := w.ns) (i := i) (by have := h.len; omega)
    have hr := List.getElem?_eq_getElem hi
    rw [hy]
    refine congrArg some (ascI_ext (hw.ns _ (List.mem_of_getElem? hy)).2.2 (hv.ns _ (List.mem_of_getElem? hx)).2.2 fun t => ?_)
    exact (h.ns i _ _ hr hy t).trans (g.ns i _ _ hr hx t).symm
  obtain ⟨a, b, c⟩ := w
  obtain ⟨d, e, f⟩ := v
  simp only at e1 e2 e3
  rw [e1, e2, e3]
theorem Ren.comp {f g h : Int → Int} {u v w : Wb} (a : Ren f u v) (b : Ren g v w) (hu : u.Ok) (e : ∀ q, 0 ≤ q ∧ q < u.n → h q = g (f q)) : Ren h u w := by
  refine ⟨b.n.trans a.n, fun p => ?_, b.len.trans a.len, fun k r s hr hs t => ?_⟩
  · rw [b.ps]
    constructor
    · rintro ⟨q, hq, rfl⟩
      obtain ⟨z, hz, rfl⟩ := (a.ps q).mp hq
      have := hu.ps z hz
      exact ⟨z, hz, by rw [e _ this.1, e _ this.2]⟩
    · rintro ⟨z, hz, rfl⟩
      have := hu.ps z hz
      exact ⟨(f z.1, f z.2), (a.ps _).mpr ⟨z, hz, rfl⟩, by rw [e _ this.1, e _ this.2]⟩
  · have hk : k < v.ns.length := by
      obtain ⟨hi, _⟩ := List.getElem?_eq_some_iff.mp hs
      have := b.len
      omega
    have hm := List.getElem?_eq_getElem hk
    rw [b.ns k _ s hm hs]
    constructor
    · rintro ⟨q, hq, rfl⟩
      obtain ⟨z, hz, rfl⟩ := (a.ns k r _ hr hm q).mp hq
      exact ⟨z, hz, by rw [e _ ((hu.ns r (List.mem_of_getElem? hr)).2.1 z hz)]⟩
    · rintro ⟨z, hz, rfl⟩
      exact ⟨f z, (a.ns k r _ hr hm _).mpr ⟨z, hz, rfl⟩, by rw [e _ ((hu.ns r (List.mem_of_getElem? hr)).2.1 z hz)]⟩
theorem Ren.refl {h : Int → Int} {u : Wb} (hu : u.Ok) (e : ∀ q, 0 ≤ q ∧ q < u.n → h q = q) : Ren h u u := by
  refine ⟨rfl, fun p => ?_, rfl, fun k r s hr hs t => ?_⟩
  · constructor
    · intro hp
      have := hu.ps p hp
      exact ⟨p, hp, by rw [e _ this.1, e _ this.2]⟩
    · rintro ⟨z, hz, rfl⟩
      have := hu.ps z hz
      rw [e _ this.1, e _ this.2]
      exact hz
  · rw [hr] at hs
    cases hs
    have b := (hu.ns r (List.mem_of_getElem? hr)).2.1
    constructor
    · intro ht
      exact ⟨t, ht, by rw [e _ (b t ht)]⟩
    · rintro ⟨z, hz, rfl⟩
      rw [e _ (b z hz)]
      exact hz
theorem Ren.ok {n : Int} {o : List Int} {u w : Wb} (h : Ren (pl o) u w) (hu : u.Ok) (ho : IsOrd u.n o) (ha : ascB ltPr w.ps = true) (hr : ∀ r ∈ w.ns, ascB ltIn r = true) : w.Ok := by
  refine ⟨by rw [h.n]; exact hu.lo, by rw [h.n]; exact hu.hi, fun p hp => ?_, ha, by rw [h.len]; exact hu.few, fun r hr' => ?_⟩
  · obtain ⟨q, hq, rfl⟩ := (h.ps p).mp hp
    have := hu.ps q hq
    rw [h.n]
    exact ⟨pl_lt ho this.1, pl_lt ho this.2⟩
  · obtain ⟨k, hk⟩ := List.mem_iff_getElem?.mp hr'
    have hk2 : k < u.ns.length := by
      obtain ⟨hi, _⟩ := List.getElem?_eq_some_iff.mp hk
      have := h.len
      omega
    have hm := List.getElem?_eq_getElem hk2
    have hR := h.ns k _ r hm hk
    obtain ⟨z1, z2, z3⟩ := hu.ns _ (List.mem_of_getElem? hm)
    refine ⟨?_, fun t ht => ?_, hr r hr'⟩
    · intro e
      subst e
      cases hc : u.ns[k] with
      | nil => exact z1 hc
      | cons x l =>
        have := (hR (pl o x)).mpr ⟨x, by rw [hc]; simp, rfl⟩
        cases this
    · obtain ⟨q, hq, rfl⟩ := (hR t).mp ht
      rw [h.n]
      exact pl_lt ho (z2 q hq)
structure Trn (u w : Wb) : Prop where
  n : w.n = u.n
  ps : ∀ p, p ∈ w.ps ↔ (p.2, p.1) ∈ u.ps
  ns : w.ns = u.ns
theorem Trn.uniq {u w v : Wb} (h : Trn u w) (g : Trn u v) (hw : ascB ltPr w.ps = true) (hv : ascB ltPr v.ps = true) : w = v := by
  have e1 : w.n = v.n := h.n.trans g.n.symm
  have e2 : w.ps = v.ps := asc_ext hw hv fun x => (h.ps x).trans (g.ps x).symm
  have e3 : w.ns = v.ns := h.ns.trans g.ns.symm
  obtain ⟨a, b, c⟩ := w
  obtain ⟨d, e, f⟩ := v
  simp only at e1 e2 e3
  rw [e1, e2, e3]
theorem Trn.back {u w v : Wb} (h : Trn u w) (g : Trn w v) (hu : ascB ltPr u.ps = true) (hv : ascB ltPr v.ps = true) : v = u := by
  have e1 : v.n = u.n := g.n.trans h.n
  have e2 : v.ps = u.ps := asc_ext hv hu fun x => (g.ps x).trans (h.ps _)
  have e3 : v.ns = u.ns := g.ns.trans h.ns
  obtain ⟨a, b, c⟩ := v
  obtain ⟨d, e, f⟩ := u
  simp only at e1 e2 e3
  rw [e1, e2, e3]
theorem Trn.ok {u w : Wb} (h : Trn u w) (hu : u.Ok) (ha : ascB ltPr w.ps = true) : w.Ok := by
  refine ⟨by rw [h.n]; exact hu.lo, by rw [h.n]; exact hu.hi, fun p hp => ?_, ha, by rw [h.ns]; exact hu.few, ?_⟩
  · have := hu.ps _ ((h.ps p).mp hp)
    rw [h.n]
    exact ⟨this.2, this.1⟩
  · rw [h.ns, h.n]
    exact hu.ns
/-! ### whole webs shown -/
theorem sm_rows : ∀ {rs : List (List Int)}, (∀ r ∈ rs, (∀ t ∈ r, Sm t) ∧ r.length ≤ 20) → PyData.leavesShortAll 8 (rs.map dInts) = true ∧ PyData.showableAll (rs.map dInts) = true ∧ PyData.weightAll (rs.map dInts) ≤ 200 * rs.length
  | [], _ => by simp [PyData.leavesShortAll, PyData.showableAll, PyData.weightAll]
  | a :: r, h => by
    obtain ⟨h1, h2, h3⟩ := sm_rows (rs := r) fun t ht => h t (List.mem_cons_of_mem _ ht)
    obtain ⟨s1, s2⟩ := h a (by simp)
    obtain ⟨g1, g2, g3⟩ := sm_ints s1
    refine ⟨?_, ?_, ?_⟩
    · simp only [List.map_cons, dInts, PyData.leavesShortAll, PyData.leavesShort, g1, Bool.true_and]
      exact h1
    · simp only [List.map_cons, dInts, PyData.showableAll, PyData.showable, g2, Bool.true_and]
      exact h2
    · have e : PyData.weight (dInts a) = PyData.weightAll (a.map PyData.int) := by
        simp only [dInts, PyData.weight]
      simp only [List.map_cons, PyData.weightAll, List.length_cons]
      omega
theorem show_web {u : Wb} (hu : u.Ok) : u.d.showable = true ∧ u.d.shown.length ≤ sizeLine ∧ u.d.depth ≤ 60 := by
  have b1 := hu.lo
  have b2 := hu.hi
  have b3 := hu.few
  have b4 := hu.len
  obtain ⟨p1, p2, p3⟩ := sm_pairs (r := u.ps) fun t ht => by
    have := hu.ps t ht
    exact ⟨⟨this.1.1, by omega⟩, ⟨this.2.1, by omega⟩⟩
  obtain ⟨r1, r2, r3⟩ := sm_rows (rs := u.ns) fun r hr => ⟨fun t ht => by
    have := (hu.ns r hr).2.1 t ht
    exact ⟨this.1, by omega⟩, hu.row hr⟩
  obtain ⟨g1, g2, g3⟩ := short_int (i := u.n) (by omega) (by omega)
  refine ⟨?_, ?_, ?_⟩
  · simp only [Wb.d, dPairs, dRows, PyData.showable, PyData.showableAll, p2, r2, Bool.and_true, decide_eq_true_eq]
    exact g2
  · refine PyData.shown_fits (B := 8) (by omega) (by omega) ?_ ?_
    · simp only [Wb.d, dPairs, dRows, PyData.leavesShort, PyData.leavesShortAll, p1, r1, Bool.and_true, decide_eq_true_eq]
      exact g1
    · have e : u.d.weight = PyData.weight (.int u.n) + 1 + (PyData.weightAll (u.ps.map dPair) + 1 + (PyData.weightAll (u.ns.map dInts) + 1 + 0)) := by
        simp only [Wb.d, dPairs, dRows, PyData.weight, PyData.weightAll]
      omega
  · have := dep_web u
    omega
/-! ### new webs -/
/-- new rows -/
structure NewR (H H' : Hp) (ns : List (List Int)) (L : Addr) (bs : List Addr) : Prop where
  ex : Ex H H'
  new : H L = none
  at_ : H' L = some (.lst (bs.map V.ref))
  len : bs.length = ns.length
  row : ∀ (k : Nat) (b : Addr), bs[k]? = some b → (H b = none ∧ b ≠ L) ∧ ∃ r, ns[k]? = some r ∧ H' b = some (.lst (r.map V.int))
  nd : bs.Nodup
theorem rows_of {K : PySem.W.Frag} {H' : Hp} : ∀ {ns : List (List Int)} {bs : List Addr}, bs.length = ns.length → (∀ (k : Nat) (b : Addr), bs[k]? = some b → ∃ r, ns[k]? = some r ∧ H' b = some (.lst (r.map V.int)) ∧ r.length ≤ 100000) →
    DaAll K H' (ns.map dInts) (bs.map V.ref)
  | [], [], _, _ => rfl
  | [], _ :: _, h, _ => by simp at h
  | _ :: _, [], h, _ => by simp at h
  | r :: ns, b :: bs, h, g => by
    obtain ⟨r', e, h1, h2⟩ := g 0 b rfl
    obtain rfl : r = r' := by simpa using e
    exact ⟨_, _, rfl, dInts_of h1 h2, rows_of (by simpa using h) fun k b' hb => g (k + 1) b' (by simpa using hb)⟩
/-- a new web -/
structure NewW (K : PySem.W.Frag) (H H' : Hp) (w : Wb) (T L1 L2 : Addr) (xs : List V) (bs : List Addr) : Prop where
  ex : Ex H H'
  tup : H' T = some (.tup [.int w.n, .ref L1, .ref L2])
  new : H L1 = none
  at_ : H' L1 = some (.lst xs)
  ps : DaAll K H' (w.ps.map dPair) xs
  new2 : H L2 = none
  at2 : H' L2 = some (.lst (bs.map V.ref))
  len : bs.length = w.ns.length
  row : ∀ (k : Nat) (b : Addr), bs[k]? = some b → (H b = none ∧ b ≠ L2 ∧ b ≠ L1) ∧ ∃ r, w.ns[k]? = some r ∧ H' b = some (.lst (r.map V.int))
  nd : bs.Nodup
  ne : L1 ≠ L2
theorem pairs_rm {K : PySem.W.Frag} {H : Hp} {D : Addr} {ys : List V} (hD : H D = some (.lst ys)) : ∀ {L : List (Int × Int)} {acc : List V}, DaAll K H (L.map dPair) acc → DaAll K (rm H D) (L.map dPair) acc
  | [], _, h => h
  | p :: L, acc, h => by
    obtain ⟨x, xs, rfl, ⟨a, zs, rfl, hS, z1, r1, rfl, e1, z2, r2, rfl, e2, rfl⟩, h2⟩ := h
    obtain rfl := e1
    obtain rfl := e2
    refine ⟨_, _, rfl, dPair_of ?_, pairs_rm hD h2⟩
    rw [rm_ne (fun e => by rw [e, hD] at hS; cases hS)]
    exact hS
theorem NewW.da {K : PySem.W.Frag} {H H' : Hp} {w : Wb} {T L1 L2 : Addr} {xs : List V} {bs : List Addr} (h : NewW K H H' w T L1 L2 xs bs) (hw : w.Ok) : Da K H' w.d (.ref T) := by
  have l1 := hw.len
  have l2 := hw.few
  refine ⟨T, _, rfl, h.tup, _, _, rfl, rfl, _, _, rfl, ⟨L1, xs, rfl, h.at_, h.ps, by rw [List.length_map]; omega⟩, _, _, rfl, ⟨L2, _, rfl, h.at2, ?_, by rw [List.length_map]; omega⟩, rfl⟩
  refine rows_of h.len fun k b hb => ?_
  obtain ⟨_, r, e, g⟩ := h.row k b hb
  have := hw.row (List.mem_of_getElem? e)
  exact ⟨r, e, g, by omega⟩
/-- a new web has nothing to do with an old list -/
theorem NewW.off {K : PySem.W.Frag} {H H' : Hp} {w : Wb} {T L1 L2 p : Addr} {xs zs : List V} {bs : List Addr} (h : NewW K H H' w T L1 L2 xs bs) (hw : w.Ok) (hp : H p = some (.lst zs)) : Da K (rm H' p) w.d (.ref T) := by
  have hp' := h.ex _ _ hp
  have l1 := hw.len
  have l2 := hw.few
  refine ⟨T, _, rfl, ?_, _, _, rfl, rfl, _, _, rfl, ⟨L1, xs, rfl, ?_, pairs_rm hp' h.ps, by rw [List.length_map]; omega⟩, _, _, rfl, ⟨L2, bs.map V.ref, rfl, ?_, ?_, by rw [List.length_map]; omega⟩, rfl⟩
  · rw [rm_ne (fun e => by have := h.tup; rw [e, hp'] at this; cases this)]
    exact h.tup
  · rw [rm_ne (fun e => by have := h.new; rw [e, hp] at this; cases this)]
    exact h.at_
  · rw [rm_ne (fun e => by have := h.new2; rw [e, hp] at this; cases this)]
    exact h.at2
  · refine rows_of h.len fun k b hb => ?_
    obtain ⟨n, r, e, g⟩ := h.row k b hb
    have := hw.row (List.mem_of_getElem? e)
    refine ⟨r, e, ?_, by omega⟩
    rw [rm_ne (fun e => by have := n.1; rw [e, hp] at this; cases this)]
    exact g
theorem NewR.nil {H : Hp} {D : Addr} (hD : H D = none) : NewR H (upd H D (.lst [])) [] D [] :=
  ⟨Ex.nw hD, hD, upd_same, rfl, fun k b hb => by simp at hb, List.nodup_nil⟩
theorem NewR.snoc {H H1 H2 : Hp} {D l : Addr} {ss : List (List Int)} {s : List Int} {bs : List Addr} (h : NewR H H1 ss D bs) (e : Ex H1 H2) (hl : H1 l = none) (h2 : H2 l = some (.lst (s.map V.int))) :
    NewR H (upd H2 D (.lst (bs.map V.ref ++ [.ref l]))) (ss ++ [s]) D (bs ++ [l]) := by
  have lD : l ≠ D := fun x => by
    have := h.at_
    rw [← x, hl] at this
    cases this
  refine ⟨(h.ex.tr e).wr h.new, h.new, ?_, ?_, ?_, ?_⟩
  · rw [upd_same, List.map_append]
    rfl
  · rw [List.length_append, List.length_append, h.len]
    rfl
  · intro k b hb
    by_cases hk : k < bs.length
    · rw [List.getElem?_append_left hk] at hb
      obtain ⟨n1, r', n2, n3⟩ := h.row k b hb
      refine ⟨n1, r', ?_, ?_⟩
      · rw [List.getElem?_append_left (by rw [← h.len]; exact hk)]
        exact n2
      · rw [upd_ne n1.2]
        exact e _ _ n3
    · have hk' : k = bs.length := by
        obtain ⟨z, _⟩ := List.getElem?_eq_some_iff.mp hb
        rw [List.length_append, List.length_singleton] at z
        omega
      subst hk'
      rw [List.getElem?_concat_length] at hb
      cases hb
      refine ⟨⟨h.ex.fr hl, lD⟩, s, ?_, by rw [upd_ne lD]; exact h2⟩
      rw [h.len, List.getElem?_concat_length]
  · refine nodup_snoc h.nd fun hm => ?_
    obtain ⟨k, hk⟩ := List.mem_iff_getElem?.mp hm
    obtain ⟨_, r', _, h3⟩ := h.row k l hk
    rw [h3] at hl
    cases hl
theorem putK_len (kvs : List (Key × V)) (k : Key) (v : V) : (putK kvs k v).length ≤ kvs.length + 1 := by
  unfold putK
  split
  · rw [List.length_map]
    omega
  · rw [List.length_append, List.length_singleton]
    omega
/-- a dict of the places, as far as it is made -/
def PlTo (o : List Int) (i : Nat) (kvs : List (Key × V)) : Prop := kvs.length ≤ i ∧ ∀ (j : Nat) (q : Int), j < i → o[j]? = some q → valV kvs (.inl q) = some (.int (j : Int))
theorem PlTo.step {o : List Int} (hn : o.Nodup) {i : Nat} {kvs : List (Key × V)} (h : PlTo o i kvs) {q : Int} (hq : o[i]? = some q) : PlTo o (i + 1) (putK kvs (.inl q) (.int (i : Int))) := by
  refine ⟨Nat.le_trans (putK_len _ _ _) (by have := h.1; omega), fun j z hj hz => ?_⟩
  rw [valV_put]
  by_cases e : j = i
  · subst e
    rw [hq] at hz
    cases hz
    rw [if_pos rfl]
  · have ne : z ≠ q := nodup_at hn hz hq e
    rw [if_neg (fun x => ne (Sum.inl.inj x))]
    exact h.2 j z (by omega) hz
theorem PlTo.get {n : Int} {o : List Int} (ho : IsOrd n o) {kvs : List (Key × V)} (h : PlTo o o.length kvs) {q : Int} (hq : 0 ≤ q ∧ q < n) : valV kvs (.inl q) = some (.int (pl o q)) := by
  obtain ⟨j, g, e, l⟩ := pl_get ho hq
  rw [e]
  refine h.2 j q ?_ g
  obtain ⟨z, _⟩ := List.getElem?_eq_some_iff.mp g
  exact z
/-- the pairs of a web by the places -/
theorem ren_nodup {o : List Int} {u : Wb} (hu : u.Ok) (ho : IsOrd u.n o) : (u.ps.map fun q => (pl o q.1, pl o q.2)).Nodup := by
  refine (List.pairwise_map).mpr ?_
  have h := nodup_asc hu.asc
  have h2 : u.ps.Pairwise fun a b => a ∈ u.ps ∧ b ∈ u.ps ∧ a ≠ b := by
    refine List.Pairwise.imp_of_mem (fun {a b} ha hb n => ⟨ha, hb, n⟩) h
  refine h2.imp fun {a b} n e => n.2.2 ?_
  have ha := hu.ps a n.1
  have hb := hu.ps b n.2.1
  simp only [Prod.mk.injEq] at e
  exact Prod.ext (pl_inj ho ha.1 hb.1 e.1) (pl_inj ho ha.2 hb.2 e.2)
theorem row_nodup {n : Int} {o : List Int} {r : List Int} (hr : ∀ t ∈ r, 0 ≤ t ∧ t < n) (ha : ascB ltIn r = true) (ho : IsOrd n o) : (r.map (pl o)).Nodup := by
  refine (List.pairwise_map).mpr ?_
  have h2 : r.Pairwise fun a b => a ∈ r ∧ b ∈ r ∧ a ≠ b := List.Pairwise.imp_of_mem (fun {a b} ha hb n => ⟨ha, hb, n⟩) (nodup_ascI ha)
  exact h2.imp fun {a b} n e => n.2.2 (pl_inj ho (hr a n.1) (hr b n.2.1) e)
theorem row_ren {n : Int} {o : List Int} {r s : List Int} (hr : ∀ t ∈ r, 0 ≤ t ∧ t < n) (ha : ascB ltIn r = true) (ho : IsOrd n o) (hp : s.Perm (r.map (pl o))) (hw : s.Pairwise (· ≤ ·)) : ascB ltIn s = true ∧ RowRen (pl o) r s ∧ s.length = r.length := by
  refine ⟨asc_sortedI hp hw (row_nodup hr ha ho), fun t => hp.mem_iff.trans ?_, by rw [hp.length_eq, List.length_map]⟩
  rw [List.mem_map]
  constructor
  · rintro ⟨q, hq, rfl⟩
    exact ⟨q, hq, rfl⟩
  · rintro ⟨q, hq, rfl⟩
    exact ⟨q, hq, rfl⟩
theorem ren_of {o : List Int} {u : Wb} {M : List (Int × Int)} {ss : List (List Int)} (hM : ∀ p, p ∈ M ↔ p ∈ u.ps.map fun q => (pl o q.1, pl o q.2)) (hl : ss.length = u.ns.length)
    (hs : ∀ (k : Nat) (s : List Int), ss[k]? = some s → ∃ r, u.ns[k]? = some r ∧ RowRen (pl o) r s) : Ren (pl o) u ⟨u.n, M, ss⟩ := by
  refine ⟨rfl, fun p => ?_, hl, fun k r s hr hs' => ?_⟩
  · show p ∈ M ↔ _
    rw [hM, List.mem_map]
    constructor
    · rintro ⟨q, hq, rfl⟩
      exact ⟨q, hq, rfl⟩
    · rintro ⟨q, hq, rfl⟩
      exact ⟨q, hq, rfl⟩
  · obtain ⟨r', e, g⟩ := hs k s hs'
    rw [hr] at e
    cases e
    exact g
theorem pop_perm {α : Type} : ∀ {l : List α} {k : Nat} {x : α}, l[k]? = some x → (x :: l.eraseIdx k).Perm l
  | [], _, _, h => by simp at h
  | a :: l, 0, x, h => by
    obtain rfl : a = x := by simpa using h
    exact List.Perm.refl _
  | a :: l, k + 1, x, h => by
    have ih := pop_perm (l := l) (k := k) (x := x) (by simpa using h)
    rw [List.eraseIdx_cons_succ]
    exact (List.Perm.swap a x _).trans (ih.cons a)
theorem map_pop {α β : Type} (f : α → β) : ∀ (l : List α) (k : Nat), (l.map f).eraseIdx k = (l.eraseIdx k).map f
  | [], _ => rfl
  | a :: l, 0 => rfl
  | a :: l, k + 1 => by
    rw [List.map_cons, List.eraseIdx_cons_succ, List.eraseIdx_cons_succ, List.map_cons, map_pop f l k]
end Nw
/-! Calls that may raise; webs joined. -/
namespace Nw
open PySem PySem.Spec PyProof.Rows L2
/-- the class that TooLarge names -/
abbrev BigC (K : PySem.W.Frag) (C : Addr) : Prop := PySem.W.nsIn K mainGlobals "TooLarge" = some (some (.ref C))
section
variable {X : Cx} {CX : CXT} {k : Nat} {ps : List Str} {sp : Sp} {E : L2.St → XK} {x : Str} {p pos : Pos} {e : Expr} {es : List Expr} {t : TA}
theorem run_fngS {f : Addr} {fd : FuncData} {pins : List (Addr × Obj)} {σ : L2.St} {H : Hp} {s : Shared} {Q : VK} {us : List Value} {vs : List V}
    (F : FnG X.prog X.w X.K X.mg X.base CX k f fd ps sp) (hr : Room k X.A) (hgd : Quiet X.A) (hb : Binds X.K fd ps [])
    (hx : PassesAt CX X σ (E σ)) (I : Inv X pins σ H s) (r : Vals vs us) (h : sp vs H Q (E σ)) :
    wpAny (model X.prog X.w) X.A (call (.ref f) us) (EP X pins σ Q) X.xe s := by
  have hl : (us ++ ([] : List Value)).length = ps.length := by
    rw [List.append_nil, ← r.length]
    exact F.len _ _ _ _ h
  have hb2 := hb s us I.kIn hl
  rw [List.append_nil] at hb2
  refine wpAny_call (codeAny_mono (F.run X.A X.stack s H ⟨us, []⟩ us vs Q (E σ) hr hgd I.env0 hb2 r h) ?_)
  intro r s' hq
  cases r with
  | error e => exact hx pins H s e s' I hq
  | ok fl =>
    cases fl with
    | ret u => exact I.after hq
    | next => exact (show False from hq).elim
    | brk => exact (show False from hq).elim
    | cont => exact (show False from hq).elim
/-- what never raises -/
theorem passN : Passes (L2.CX X.prog X.w) X (fun _ _ _ => False) := fun pins σ H s e s' I c => takes0 e s' (XE.of_call (W := fun _ _ _ _ => False) I (fun _ _ _ h => h) c)
/-- f(e, ..) in a try -/
theorem pe_callDS (D : DefOk X.prog X.w X.K X.mg X.base CX k x ps sp) (hr : Room k X.A) (hgd : Quiet X.A) (hx : ∀ σ, PassesAt CX X σ (E σ))
    (ha : PA X (e :: es) t) (hg : Gl X x := by rfl) (hdb : (x == ("__debug__" : Str)) = false := by decide)
    (he : starEach (e :: es) X.env = (false, eval e X.env) :: starEach es X.env := by rfl)
    (hpl : (backTo pos (starEach es X.env)).any (·.1) = false := by rfl) :
    PE X (.Call (.Name x p) (e :: es) [] pos) (tCallS sp E t) := by
  obtain ⟨f, fd, F, hm, hk, hb⟩ := D.ex
  refine ⟨fun pins s σ H Q I h => ?_⟩
  refine wpAny_Call_Name_kw (ld_glob I hg hm ?_ hdb)
  refine PySem.W.callWith_K (h₀ := X.base) I.ok.mod.kin hk (thn (ha.run pos pins s σ H _ I h) ?_) he hpl
  rintro us s1 ⟨vs, H1, I1, r, q⟩
  exact ⟨I1.kIn, run_fngS F hr hgd hb (hx σ) I1 r q⟩
end
/-- an error of the class at S is what «except S» names -/
theorem exm_of {K : PySem.W.Frag} {S : Addr} (h1 : PySem.W.subIn K (.ref S) (.type "BaseException") = some true) (h2 : PySem.W.isClsIn K S = true) (h3 : PySem.W.typeIn K (.ref S) = some (.type "type")) (h4 : PySem.W.subIn K (.ref S) (.ref S) = some true) :
    PySem.W.exmOne K (.ref S) (.ref S) = some true := by
  have e1 : (PySem.W.subIn K (.ref S) (.type "BaseException") == some true) = true := by rw [h1] <;> rfl
  have e2 : ((PySem.W.clsIn K S).isSome && PySem.W.typeIn K (.ref S) == some (.type "type")) = true := by
    have h2' : (PySem.W.clsIn K S).isSome = true := h2
    rw [h2', h3] <;> rfl
  show (if (PySem.W.subIn K (.ref S) (.type "BaseException") == some true) = true then (if ((PySem.W.clsIn K S).isSome && PySem.W.typeIn K (.ref S) == some (.type "type")) = true then PySem.W.subIn K (.ref S) (.ref S) else none) else none) = some true
  rw [if_pos e1, if_pos e2]
  exact h4
theorem rangeD_map {α β : Type} (g : α → β) (d : α) (r : List α) : (List.range r.length).map (fun j => g (r.getD j d)) = (r.map g) := by
  have h := filter_range d (fun _ => true) g r
  rw [filter_true, filter_true] at h
  exact h
/-! ### webs joined -/
structure LnOk (u v : Wb) (L : List (Int × Int)) : Prop where
  r : ∀ p ∈ L, (0 ≤ p.1 ∧ p.1 < u.n) ∧ (0 ≤ p.2 ∧ p.2 < v.n)
  asc : ascB ltPr L = true
  few : L.length ≤ 400
abbrev upRow (n : Int) (r : List Int) : List Int := r.map (· + n)
structure Jn (u v : Wb) (L : List (Int × Int)) (w : Wb) : Prop where
  n : w.n = u.n + v.n
  ps : ∀ p, p ∈ w.ps ↔ p ∈ u.ps ∨ (∃ q ∈ L, p = (q.1, q.2 + u.n)) ∨ ∃ q ∈ v.ps, p = (q.1 + u.n, q.2 + u.n)
  ns : w.ns = u.ns ++ v.ns.map (upRow u.n)
theorem Jn.uniq {u v w z : Wb} {L : List (Int × Int)} (h : Jn u v L w) (g : Jn u v L z) (hw : ascB ltPr w.ps = true) (hz : ascB ltPr z.ps = true) : w = z := by
  have e1 : w.n = z.n := h.n.trans g.n.symm
  have e2 : w.ps = z.ps := asc_ext hw hz fun x => (h.ps x).trans (g.ps x).symm
  have e3 : w.ns = z.ns := h.ns.trans g.ns.symm
  obtain ⟨a, b, c⟩ := w
  obtain ⟨d, e, f⟩ := z
  simp only at e1 e2 e3
  rw [e1, e2, e3]
theorem asc_up {n : Int} : ∀ {r : List Int}, ascB ltIn r = true → ascB ltIn (upRow n r) = true
  | [], _ => rfl
  | [_], _ => rfl
  | a :: b :: r, h => by
    simp only [ascB, Bool.and_eq_true, ltIn, decide_eq_true_eq] at h
    have ih := asc_up (n := n) (r := b :: r) h.2
    simp only [upRow, List.map_cons, ascB, Bool.and_eq_true, ltIn, decide_eq_true_eq] at ih ⊢
    exact ⟨by omega, ih⟩
theorem Jn.ok {u v w : Wb} {L : List (Int × Int)} (h : Jn u v L w) (hu : u.Ok) (hv : v.Ok) (hL : LnOk u v L) (h20 : u.n + v.n ≤ 20) (h8 : u.ns.length + v.ns.length ≤ 8) (ha : ascB ltPr w.ps = true) : w.Ok := by
  have a1 := hu.lo
  have a2 := hv.lo
  refine ⟨by rw [h.n]; omega, by rw [h.n]; omega, fun p hp => ?_, ha, ?_, fun r hr => ?_⟩
  · rw [h.n]
    rcases (h.ps p).mp hp with hp | ⟨q, hq, rfl⟩ | ⟨q, hq, rfl⟩
    · have := hu.ps p hp
      omega
    · have := hL.r q hq
      simp only
      omega
    · have := hv.ps q hq
      simp only
      omega
  · rw [h.ns, List.length_append, List.length_map]
    exact h8
  · rw [h.ns] at hr
    rw [h.n]
    rcases List.mem_append.mp hr with hr | hr
    · obtain ⟨z1, z2, z3⟩ := hu.ns r hr
      exact ⟨z1, fun t ht => by have := z2 t ht; omega, z3⟩
    · obtain ⟨s, hs, rfl⟩ := List.mem_map.mp hr
      obtain ⟨z1, z2, z3⟩ := hv.ns s hs
      refine ⟨fun e => z1 (List.map_eq_nil_iff.mp e), fun t ht => ?_, asc_up z3⟩
      obtain ⟨x, hx, rfl⟩ := List.mem_map.mp ht
      have := z2 x hx
      omega
/-- the pairs ahead of sorting: apart from one another -/
theorem jn_nodup {u v : Wb} {L A B : List (Int × Int)} (hu : u.Ok) (hv : v.Ok) (hL : LnOk u v L) (hA : ∀ p, p ∈ A ↔ ∃ q ∈ L, p = (q.1, q.2 + u.n)) (hB : ∀ p, p ∈ B ↔ ∃ q ∈ v.ps, p = (q.1 + u.n, q.2 + u.n)) (nA : A.Nodup) (nB : B.Nodup) :
    (u.ps ++ A ++ B).Nodup := by
  rw [List.nodup_append, List.nodup_append]
  refine ⟨⟨nodup_asc hu.asc, nA, fun a ha b hb e => ?_⟩, nB, fun a ha b hb e => ?_⟩
  · subst e
    obtain ⟨q, hq, rfl⟩ := (hA a).mp hb
    have h1 := hu.ps _ ha
    have h2 := hL.r q hq
    simp only at h1
    omega
  · subst e
    obtain ⟨q, hq, rfl⟩ := (hB a).mp hb
    have h2 := hv.ps q hq
    rcases List.mem_append.mp ha with ha | ha
    · have h1 := hu.ps _ ha
      simp only at h1
      omega
    · obtain ⟨z, hz, e⟩ := (hA _).mp ha
      have h1 := hL.r z hz
      simp only [Prod.mk.injEq] at e
      omega
theorem nodup_link {n : Int} {L : List (Int × Int)} (h : ascB ltPr L = true) : (L.map fun q => (q.1, q.2 + n)).Nodup := by
  refine (List.pairwise_map).mpr ((nodup_asc h).imp fun {a b} ne e => ne ?_)
  simp only [Prod.mk.injEq] at e
  exact Prod.ext e.1 (by omega)
theorem nodup_move {n : Int} {L : List (Int × Int)} (h : ascB ltPr L = true) : (L.map fun q => (q.1 + n, q.2 + n)).Nodup := by
  refine (List.pairwise_map).mpr ((nodup_asc h).imp fun {a b} ne e => ne ?_)
  simp only [Prod.mk.injEq] at e
  exact Prod.ext (by omega) (by omega)
theorem jn_of {u v : Wb} {L M N : List (Int × Int)} (hM : ∀ p, p ∈ M ↔ p ∈ N) (hN : ∀ p, p ∈ N ↔ p ∈ u.ps ∨ p ∈ (L.map fun q => (q.1, q.2 + u.n)) ∨ p ∈ (v.ps.map fun q => (q.1 + u.n, q.2 + u.n))) : Jn u v L ⟨u.n + v.n, M, u.ns ++ v.ns.map (upRow u.n)⟩ := by
  refine ⟨rfl, fun p => ?_, rfl⟩
  show p ∈ M ↔ _
  rw [hM, hN]
  constructor
  · rintro (h | h | h)
    · exact .inl h
    · obtain ⟨q, hq, rfl⟩ := List.mem_map.mp h
      exact .inr (.inl ⟨q, hq, rfl⟩)
    · obtain ⟨q, hq, rfl⟩ := List.mem_map.mp h
      exact .inr (.inr ⟨q, hq, rfl⟩)
  · rintro (h | ⟨q, hq, rfl⟩ | ⟨q, hq, rfl⟩)
    · exact .inl h
    · exact .inr (.inl (List.mem_map.mpr ⟨q, hq, rfl⟩))
    · exact .inr (.inr (List.mem_map.mpr ⟨q, hq, rfl⟩))
/-- what joining gives, as data -/
def JnD (u v : Wb) (L : List (Int × Int)) (dd : PyData) : Prop :=
  (u.n + v.n > 20 ∧ dd = .int 20) ∨ (u.n + v.n ≤ 20 ∧ u.ns.length + v.ns.length > 8 ∧ dd = .int 8) ∨
    (u.n + v.n ≤ 20 ∧ u.ns.length + v.ns.length ≤ 8 ∧ ∃ w : Wb, dd = w.d ∧ w.Ok ∧ Jn u v L w)
theorem JnD.uniq {u v : Wb} {L : List (Int × Int)} {a b : PyData} (h : JnD u v L a) (g : JnD u v L b) : a = b := by
  rcases h with ⟨h1, rfl⟩ | ⟨h1, h2, rfl⟩ | ⟨h1, h2, w, rfl, h3, h4⟩
  · rcases g with ⟨g1, rfl⟩ | ⟨g1, g2, rfl⟩ | ⟨g1, g2, _⟩
    · rfl
    · omega
    · omega
  · rcases g with ⟨g1, rfl⟩ | ⟨g1, g2, rfl⟩ | ⟨g1, g2, _⟩
    · omega
    · rfl
    · omega
  · rcases g with ⟨g1, rfl⟩ | ⟨g1, g2, rfl⟩ | ⟨g1, g2, z, rfl, g3, g4⟩
    · omega
    · omega
    · rw [h4.uniq g4 h3.asc g3.asc]
theorem show_int {i : Int} (h0 : 0 ≤ i) (h1 : i < 64) : (PyData.int i).showable = true ∧ (PyData.int i).shown.length ≤ sizeLine ∧ (PyData.int i).depth ≤ 60 := by
  obtain ⟨g1, g2, _⟩ := short_int h0 h1
  refine ⟨?_, mil (Nat.le_trans g1 (by decide)), by simp [PyData.depth]⟩
  simp only [PyData.showable, decide_eq_true_eq]
  exact g2
theorem JnD.show {u v : Wb} {L : List (Int × Int)} {d : PyData} (h : JnD u v L d) : d.showable = true ∧ d.shown.length ≤ sizeLine ∧ d.depth ≤ 60 := by
  rcases h with ⟨_, rfl⟩ | ⟨_, _, rfl⟩ | ⟨_, _, w, rfl, h3, _⟩
  · exact show_int (by decide) (by decide)
  · exact show_int (by decide) (by decide)
  · exact show_web h3
theorem JnD.nd {u v : Wb} {L : List (Int × Int)} {d : PyData} (h : JnD u v L d) : d.hasDict = false := by
  rcases h with ⟨_, rfl⟩ | ⟨_, _, rfl⟩ | ⟨_, _, w, rfl, h3, _⟩
  · rfl
  · rfl
  · exact nd_of_lay (lay_web w)
/-- the three that are kept, as data -/
abbrev d3 (u v : Wb) (L : List (Int × Int)) : PyData := .list [u.d, v.d, dPairs L]
theorem web_fit {u : Wb} (hu : u.Ok) : u.d.showable = true ∧ u.d.leavesShort 8 = true ∧ u.d.weight ≤ 40000 := by
  have b1 := hu.lo
  have b2 := hu.hi
  have b3 := hu.few
  have b4 := hu.len
  obtain ⟨p1, p2, p3⟩ := sm_pairs (r := u.ps) fun t ht => by
    have := hu.ps t ht
    exact ⟨⟨this.1.1, by omega⟩, ⟨this.2.1, by omega⟩⟩
  obtain ⟨r1, r2, r3⟩ := sm_rows (rs := u.ns) fun r hr => ⟨fun t ht => by
    have := (hu.ns r hr).2.1 t ht
    exact ⟨this.1, by omega⟩, hu.row hr⟩
  obtain ⟨g1, g2, g3⟩ := short_int (i := u.n) (by omega) (by omega)
  refine ⟨?_, ?_, ?_⟩
  · simp only [Wb.d, dPairs, dRows, PyData.showable, PyData.showableAll, p2, r2, Bool.and_true, decide_eq_true_eq]
    exact g2
  · simp only [Wb.d, dPairs, dRows, PyData.leavesShort, PyData.leavesShortAll, p1, r1, Bool.and_true, decide_eq_true_eq]
    exact g1
  · have e : u.d.weight = PyData.weight (.int u.n) + 1 + (PyData.weightAll (u.ps.map dPair) + 1 + (PyData.weightAll (u.ns.map dInts) + 1 + 0)) := by
      simp only [Wb.d, dPairs, dRows, PyData.weight, PyData.weightAll]
    omega
theorem show_3 {u v : Wb} {L : List (Int × Int)} (hu : u.Ok) (hv : v.Ok) (hL : LnOk u v L) : (d3 u v L).showable = true ∧ (d3 u v L).shown.length ≤ sizeLine ∧ (d3 u v L).depth ≤ 60 := by
  have a1 := hu.hi
  have a2 := hv.hi
  have a3 := hL.few
  obtain ⟨s1, s2, s3⟩ := web_fit hu
  obtain ⟨t1, t2, t3⟩ := web_fit hv
  obtain ⟨p1, p2, p3⟩ := sm_pairs (r := L) fun t ht => by
    have := hL.r t ht
    exact ⟨⟨this.1.1, by omega⟩, ⟨this.2.1, by omega⟩⟩
  refine ⟨?_, ?_, ?_⟩
  · simp only [dPairs, PyData.showable, PyData.showableAll, s1, t1, p2, Bool.and_true]
  · refine PyData.shown_fits (B := 8) (by omega) (by omega) ?_ ?_
    · simp only [dPairs, PyData.leavesShort, PyData.leavesShortAll, s2, t2, p1, Bool.and_true]
    · have e : (d3 u v L).weight = u.d.weight + 1 + (v.d.weight + 1 + (PyData.weightAll (L.map dPair) + 1 + 0)) := by
        simp only [dPairs, PyData.weight, PyData.weightAll]
      omega
  · have e1 := dep_web u
    have e2 := dep_web v
    have e3 := dep_dPairs L
    simp only [PyData.depth, PyData.depthAll]
    omega
theorem nd_3 (u v : Wb) (L : List (Int × Int)) : (d3 u v L).hasDict = false := by
  refine nd_of_lay ?_
  simp only [PyData.canLay0, PyData.canLayAll0, lay_web, lay_dPairs, Bool.and_true]
theorem pairs_exd {K : PySem.W.Frag} {H H' : Hp} {p : Addr} {zs acc : List V} {L : List (Int × Int)} (h : DaAll K H (L.map dPair) acc) (hp : H p = some (.lst zs)) (e : ExD p H H') : DaAll K H' (L.map dPair) acc :=
  ((pairs_rm hp h).up e.rm).up rm_ex
end Nw
/-! Errors of one text, made and caught. -/
namespace Nw
open PySem PySem.Spec PyProof.Rows L2
/-- the class that a name names -/
abbrev ErrOf (K : PySem.W.Frag) (x : Str) (C : Addr) : Prop := PySem.W.nsIn K mainGlobals x = some (some (.ref C))
/-- what the written part says of an error class of one text -/
structure ErrC (K : PySem.W.Frag) (mg : Str → Option Value) (x : Str) (C : Addr) : Prop where
  gC : mg x = some (.ref C)
  xC : PySem.W.excIn K C [.type "ValueError", .type "Exception", .type "BaseException", .type "object"] "ValueError.__new__" = true
  kC : PySem.W.keepIn K (.ref C) = true
  bC : PySem.W.subIn K (.ref C) (.type "BaseException") = some true
  tC : PySem.W.typeIn K (.ref C) = some (.type "type")
  iC : PySem.W.isClsIn K C = true
  sC : PySem.W.subIn K (.ref C) (.ref C) = some true
  nC : ErrOf K x C
theorem err_uniq {K : PySem.W.Frag} {x : Str} {C D : Addr} (h : ErrOf K x C) (g : ErrOf K x D) : C = D := by
  have e := h.symm.trans g
  simp only [Option.some.injEq, Value.ref.injEq] at e
  exact e
/-- the small ints' texts fit -/
theorem small_text {i : Int} (h0 : 0 ≤ i) (h1 : i < 64) : i.natAbs.log2 < 1920 ∧ (toString i : Str).length ≤ 8 := by
  obtain ⟨g1, g2, _⟩ := short_int h0 h1
  refine ⟨g2, ?_⟩
  simpa only [PyData.shown] using g1
theorem DaAll.take {K : PySem.W.Frag} {H : Hp} : ∀ {ds : List PyData} {xs : List V} (k : Nat), DaAll K H ds xs → DaAll K H (ds.take k) (xs.take k)
  | ds, xs, 0, _ => by
    rw [List.take_zero, List.take_zero]
    rfl
  | [], xs, k + 1, h => by
    obtain rfl : xs = [] := h
    rfl
  | d :: ds, xs, k + 1, h => by
    obtain ⟨x, ys, rfl, h1, h2⟩ := h
    exact ⟨x, _, rfl, h1, DaAll.take k h2⟩
theorem DaAll.drop {K : PySem.W.Frag} {H : Hp} : ∀ {ds : List PyData} {xs : List V} (k : Nat), DaAll K H ds xs → DaAll K H (ds.drop k) (xs.drop k)
  | ds, xs, 0, h => h
  | [], xs, k + 1, h => by
    obtain rfl : xs = [] := h
    rfl
  | d :: ds, xs, k + 1, h => by
    obtain ⟨x, ys, rfl, h1, h2⟩ := h
    exact DaAll.drop k h2
theorem cut_take (xs : List V) (k : Nat) (h : k ≤ xs.length) : cutV xs none (some (k : Int)) = xs.take k := by
  unfold cutV
  rw [HT.sIx_nat, HT.sIx_none, List.drop_zero, Nat.sub_zero, Nat.min_eq_left h]
theorem cut_drop (xs : List V) (k : Nat) (h : k ≤ xs.length) : cutV xs (some (k : Int)) none = xs.drop k := by
  unfold cutV
  rw [HT.sIx_nat, HT.sIx_none, Nat.min_eq_left h]
  exact List.take_of_length_le (by rw [List.length_drop]; exact Nat.le_refl _)
theorem any_pair (ps : List (Int × Int)) (p : Int × Int) : ((ps.map dPair).any fun z => PyData.eqv z (dPair p)) = decide (p ∈ ps) := by
  rw [List.any_map]
  have e : ((fun z => PyData.eqv z (dPair p)) ∘ dPair) = fun q => decide (q = p) := funext fun q => eqv_dPair q p
  rw [e, Bool.eq_iff_iff, List.any_eq_true, decide_eq_true_eq]
  constructor
  · rintro ⟨q, hq, h⟩
    obtain rfl := of_decide_eq_true h
    exact hq
  · intro h
    exact ⟨p, h, decide_eq_true rfl⟩
theorem asc_filter {ps : List (Int × Int)} (f : Int × Int → Bool) (h : ascB ltPr ps = true) : ascB ltPr (ps.filter f) = true := asc_pw ((pw_asc h).filter f)
/-- a web with a pair more, or less -/
structure PairW (u w : Wb) (m : Int × Int → Prop) : Prop where
  n : w.n = u.n
  ns : w.ns = u.ns
  ps : ∀ p, p ∈ w.ps ↔ m p
theorem PairW.ok {u w : Wb} {m : Int × Int → Prop} (h : PairW u w m) (hu : u.Ok) (hm : ∀ p, m p → (0 ≤ p.1 ∧ p.1 < u.n) ∧ (0 ≤ p.2 ∧ p.2 < u.n)) (ha : ascB ltPr w.ps = true) : w.Ok := by
  refine ⟨by rw [h.n]; exact hu.lo, by rw [h.n]; exact hu.hi, fun p hp => ?_, ha, by rw [h.ns]; exact hu.few, ?_⟩
  · rw [h.n]
    exact hm p ((h.ps p).mp hp)
  · rw [h.ns, h.n]
    exact hu.ns
theorem PairW.uniq {u w v : Wb} {m : Int × Int → Prop} (h : PairW u w m) (g : PairW u v m) (hw : ascB ltPr w.ps = true) (hv : ascB ltPr v.ps = true) : w = v := by
  have e1 : w.n = v.n := h.n.trans g.n.symm
  have e2 : w.ps = v.ps := asc_ext hw hv fun x => (h.ps x).trans (g.ps x).symm
  have e3 : w.ns = v.ns := h.ns.trans g.ns.symm
  obtain ⟨a, b, c⟩ := w
  obtain ⟨d, e, f⟩ := v
  simp only at e1 e2 e3
  rw [e1, e2, e3]
/-- whether an error of the class D is what a clause names by C -/
theorem exm_two {K : PySem.W.Frag} {D S : Addr} {b : Bool} (h1 : PySem.W.subIn K (.ref S) (.type "BaseException") = some true) (h2 : PySem.W.isClsIn K S = true) (h3 : PySem.W.typeIn K (.ref S) = some (.type "type")) (h4 : PySem.W.subIn K (.ref D) (.ref S) = some b) :
    PySem.W.exmOne K (.ref D) (.ref S) = some b := by
  have e1 : (PySem.W.subIn K (.ref S) (.type "BaseException") == some true) = true := by
    rw [h1]
    rfl
  have e2 : ((PySem.W.clsIn K S).isSome && PySem.W.typeIn K (.ref S) == some (.type "type")) = true := by
    have h2' : (PySem.W.clsIn K S).isSome = true := h2
    rw [h2', h3]
    rfl
  unfold PySem.W.exmOne
  rw [if_pos e1]
  show (if ((PySem.W.clsIn K S).isSome && PySem.W.typeIn K (.ref S) == some (.type "type")) = true then PySem.W.subIn K (.ref D) (.ref S) else none) = some b
  rw [if_pos e2]
  exact h4
/-- the parts of a new web have nothing to do with an old list -/
theorem NewW.offs {K : PySem.W.Frag} {H H' : Hp} {w : Wb} {T L1 L2 p : Addr} {xs zs : List V} {bs : List Addr} (h : NewW K H H' w T L1 L2 xs bs) (hw : w.Ok) (hp : H p = some (.lst zs)) :
    (rm H' p) T = some (.tup [.int w.n, .ref L1, .ref L2]) ∧ Da K (rm H' p) (dPairs w.ps) (.ref L1) ∧ Da K (rm H' p) (dRows w.ns) (.ref L2) := by
  have hp' := h.ex _ _ hp
  have l1 := hw.len
  have l2 := hw.few
  refine ⟨?_, ⟨L1, xs, rfl, ?_, pairs_rm hp' h.ps, by rw [List.length_map]; omega⟩, ⟨L2, bs.map V.ref, rfl, ?_, ?_, by rw [List.length_map]; omega⟩⟩
  · rw [rm_ne (fun e => by have := h.tup; rw [e, hp'] at this; cases this)]
    exact h.tup
  · rw [rm_ne (fun e => by have := h.new; rw [e, hp] at this; cases this)]
    exact h.at_
  · rw [rm_ne (fun e => by have := h.new2; rw [e, hp] at this; cases this)]
    exact h.at2
  · refine rows_of h.len fun k b hb => ?_
    obtain ⟨n, r, e, g⟩ := h.row k b hb
    have := hw.row (List.mem_of_getElem? e)
    refine ⟨r, e, ?_, by omega⟩
    rw [rm_ne (fun e => by have := n.1; rw [e, hp] at this; cases this)]
    exact g
/-- a web of its parts -/
theorem da_web {K : PySem.W.Frag} {H : Hp} {w : Wb} {T : Addr} {x2 x3 : V} (h : H T = some (.tup [.int w.n, x2, x3])) (h2 : Da K H (dPairs w.ps) x2) (h3 : Da K H (dRows w.ns) x3) : Da K H w.d (.ref T) :=
  ⟨T, _, rfl, h, _, _, rfl, rfl, _, _, rfl, h2, _, _, rfl, h3, rfl⟩
/-- what is known, but for the lists of a new web -/
def mask (H : Hp) (L1 L2 : Addr) (bs : List Addr) : Hp := fun b => if b = L1 ∨ b = L2 ∨ b ∈ bs then none else H b
theorem mask_of {H : Hp} {L1 L2 b : Addr} {bs : List Addr} (h1 : b ≠ L1) (h2 : b ≠ L2) (h3 : b ∉ bs) : mask H L1 L2 bs b = H b := by
  unfold mask
  rw [if_neg]
  rintro (h | h | h)
  · exact h1 h
  · exact h2 h
  · exact h3 h
theorem mask_ex {H : Hp} {L1 L2 : Addr} {bs : List Addr} : Ex (mask H L1 L2 bs) H := fun b o h => by
  unfold mask at h
  split at h
  · cases h
  · exact h
/-- a new web still stands apart from all that came behind it -/
theorem NewW.mask {K : PySem.W.Frag} {H0 H' H : Hp} {w : Wb} {T L1 L2 : Addr} {xs : List V} {bs : List Addr} (h : NewW K H0 H' w T L1 L2 xs bs) (e : Ex H' H) :
    NewW K (Nw.mask H L1 L2 bs) H w T L1 L2 xs bs ∧ Ex H0 (Nw.mask H L1 L2 bs) ∧ ∀ b o, H' b = none → H b = some o → Nw.mask H L1 L2 bs b = some o := by
  have hb : ∀ b ∈ bs, H0 b = none ∧ H' b ≠ none := fun b hb => by
    obtain ⟨k, hk⟩ := List.mem_iff_getElem?.mp hb
    obtain ⟨n, r, _, g⟩ := h.row k b hk
    exact ⟨n.1, fun x => by rw [x] at g; cases g⟩
  refine ⟨⟨mask_ex, e _ _ h.tup, ?_, e _ _ h.at_, h.ps.up e, ?_, e _ _ h.at2, h.len, fun k b hk => ?_, h.nd, h.ne⟩, fun b o hb0 => ?_, fun b o hn ho => ?_⟩
  · unfold Nw.mask
    rw [if_pos (.inl rfl)]
  · unfold Nw.mask
    rw [if_pos (.inr (.inl rfl))]
  · obtain ⟨n, r, h1, h2⟩ := h.row k b hk
    refine ⟨⟨?_, n.2⟩, r, h1, e _ _ h2⟩
    unfold Nw.mask
    rw [if_pos (.inr (.inr (List.mem_of_getElem? hk)))]
  · rw [mask_of (fun x => by have := h.new; rw [← x, hb0] at this; cases this) (fun x => by have := h.new2; rw [← x, hb0] at this; cases this) (fun x => by have := (hb b x).1; rw [hb0] at this; cases this)]
    exact e _ _ (h.ex _ _ hb0)
  · rw [mask_of (fun x => by have := h.at_; rw [← x, hn] at this; cases this) (fun x => by have := h.at2; rw [← x, hn] at this; cases this) (fun x => (hb b x).2 hn)]
    exact ho
theorem pairs_mask {K : PySem.W.Frag} {H : Hp} {L1 L2 : Addr} {bs : List Addr} (hl : ∀ b, b = L1 ∨ b = L2 ∨ b ∈ bs → ∃ ys, H b = some (.lst ys)) : ∀ {L : List (Int × Int)} {acc : List V}, DaAll K H (L.map dPair) acc → DaAll K (mask H L1 L2 bs) (L.map dPair) acc
  | [], _, h => h
  | p :: L, acc, h => by
    obtain ⟨x, xs, rfl, ⟨a, zs, rfl, hS, z1, r1, rfl, e1, z2, r2, rfl, e2, rfl⟩, h2⟩ := h
    obtain rfl := e1
    obtain rfl := e2
    refine ⟨_, _, rfl, dPair_of ?_, pairs_mask hl h2⟩
    unfold mask
    rw [if_neg]
    · exact hS
    · intro hm
      obtain ⟨ys, hy⟩ := hl a hm
      rw [hS] at hy
      cases hy
theorem NewW.lists {K : PySem.W.Frag} {H0 H' H : Hp} {w : Wb} {T L1 L2 : Addr} {xs : List V} {bs : List Addr} (h : NewW K H0 H' w T L1 L2 xs bs) (e : Ex H' H) : ∀ b, b = L1 ∨ b = L2 ∨ b ∈ bs → ∃ ys, H b = some (.lst ys) := by
  rintro b (rfl | rfl | hb)
  · exact ⟨_, e _ _ h.at_⟩
  · exact ⟨_, e _ _ h.at2⟩
  · obtain ⟨k, hk⟩ := List.mem_iff_getElem?.mp hb
    obtain ⟨_, r, _, g⟩ := h.row k b hk
    exact ⟨_, e _ _ g⟩
end Nw
/-! Errors that are kept beyond their except suite. -/
namespace Nw
open PySem PySem.Spec PyProof.Rows L2
/-- an exception's object of the class cls, with the dict d, at a -/
def ExK (cls : Value) (d : Option Addr) (a : Addr) : HO := .ext fun h => ∃ (oe : Obj) (vs : Array Value), h.get? a = some oe ∧ Zc cls d oe ∧ oe.data = .fields vs
theorem exK_ok {P : Program} {w : World} {H : Hp} {h : Heap} {a : Addr} {cls : Value} {d : Option Addr} {oe : Obj} {vs : Array Value} (e : h.get? a = some oe) (z : Zc cls d oe) (k : oe.data = .fields vs) : ObjOk P w H h a (ExK cls d a) :=
  ⟨⟨oe, vs, e, z, k⟩, ⟨oe, e⟩, fun _ _ ⟨o, v, q, r⟩ m => ⟨o, v, m o q, r⟩⟩
section
variable {X : Cx} {pins : List (Addr × Obj)} {σ : L2.St} {H : Hp} {s : Shared}
/-- what was pinned is tracked from now on -/
theorem inv_track {a : Addr} {oe : Obj} {cls : Value} {d : Option Addr} (I : Inv X ((a, oe) :: pins) σ H s) (hz : Zc cls d oe) (hf : ∃ vs, oe.data = .fields vs)
    (hn : X.s_0.heap.get? a = none) (ha : ∀ p ∈ X.pn ++ pins, p.1 ≠ a) : Inv X pins σ (upd H a (ExK cls d a)) s := by
  obtain ⟨g1, g2, g3, g4, g5⟩ := I.pin (a, oe) (List.mem_append_right _ List.mem_cons_self)
  obtain ⟨vs, hv⟩ := hf
  have ne0 : ∀ b o, X.s_0.heap.get? b = some o → b ≠ a := fun b o e z => by
    rw [z, hn] at e
    cases e
  have neH : ∀ b u, H b = some u → b ≠ a := fun b u e z => by
    rw [z] at e
    exact nomatch (show (none : Option HO) = some u from g2.symm.trans e)
  refine ⟨I.ok, I.os, I.bare, ⟨I.base.keep, I.base.slot, fun b o e n hx => ?_, I.base.there, fun b xs e => ?_, fun b o x e => ?_, fun b ps e => ?_⟩, I.loc, I.cell, ?_, fun x c e => ?_, fun p hp => ?_, I.hok.laidN (fun b u q => q) g2 (exK_ok g1 hz hv), I.len⟩
  · rw [upd_ne (ne0 b o e)]
    exact I.base.free b o e n hx
  · have q := I.base.tups b xs e
    rw [upd_ne (neH b _ q)]
    exact q
  · have q := I.base.frzs b o x e
    rw [upd_ne (neH b _ q)]
    exact q
  · obtain ⟨m, q⟩ := I.base.tbls b ps e
    exact ⟨m, by rw [upd_ne (neH b _ q)]; exact q⟩
  · rw [upd_ne (Ne.symm g3)]
    exact I.free
  · have ca : c ≠ a := fun z => by
      obtain ⟨v, o, ho, hd⟩ := I.cell x c e
      rw [z] at ho
      rw [show s.heap.get? a = some oe from g1] at ho
      obtain rfl := Option.some.inj ho
      exact g5 _ hd
    rw [upd_ne ca]
    exact I.freeC x c e
  · have hp' : p ∈ X.pn ++ ((a, oe) :: pins) := by
      rcases List.mem_append.mp hp with h | h
      · exact List.mem_append_left _ h
      · exact List.mem_append_right _ (List.mem_cons_of_mem _ h)
    obtain ⟨k1, k2, k3⟩ := I.pin p hp'
    exact ⟨k1, by rw [upd_ne (ha p hp)]; exact k2, k3⟩
/-- the suite ends, its exception stays pinned -/
theorem inv_keepPin {a : Addr} {oe : Obj} (I : Inv (X.suite a ((a, oe) :: (X.pn ++ pins))) [] σ H s) (ok : X.Ok) : Inv X ((a, oe) :: pins) σ H s :=
  ⟨ok, I.os, I.bare, I.base, I.loc, I.cell, I.free, I.freeC, fun p hp => I.pin p (by
    rw [List.append_nil]
    rcases List.mem_append.mp hp with h | h
    · exact List.mem_cons_of_mem _ (List.mem_append_left _ h)
    · rcases List.mem_cons.mp h with rfl | h
      · exact List.mem_cons_self
      · exact List.mem_cons_of_mem _ (List.mem_append_right _ h)), I.hok, I.len⟩
end
/-- what the clause «except x as n» wishes, when its suite only goes on, and the error is kept; slot i is n's -/
def wKp (K : PySem.W.Frag) (c : Value) (i : Nat) (ts : Addr → Value → Option Addr → TS) (Wout : WX) (D : Ends) : WX := fun cls d σ H =>
  ∃ b, PySem.W.exmOne K cls c = some b ∧
    (b = true → ∀ a, H a = none → ts a cls d ⟨fun σ' H' => D.nx (σ'.set i none) (upd H' a (ExK cls d a)), fun _ _ => False, fun _ _ => False, fun _ _ => False⟩ (σ.set i (some (.ref a))) H) ∧ (b = false → Wout cls d σ H)
section
variable {X : Cx} {x n : Str} {c : Value} {i : Nat} {bd sb : List Stmt} {b₀ : Stmt} {np p1 p2 : Pos} {tb : WX → TS} {ts : Addr → Value → Option Addr → TS} {Wout : WX}
theorem ps_try_kp (stk : X.stack = X.env :: X.outer) (frm : X.env.frame = some X.env.locals) (nox : X.ex = []) (nod : X.N.Nodup) (slot : X.N[i]? = some n) (lcl : X.env.kindOf n = some .local) (nm : Names X x c) (out : Takes X Wout)
    (inner : ∀ (W : WX) (pn : List (Addr × Obj)) (xe : Value → Shared → Prop), Takes (X.tr pn xe) W → PassesOwn (model X.prog X.w) X.A X.env xe → PSs (X.tr pn xe) bd (tb W))
    (suit : ∀ (a : Addr) (oe : Obj) (cls : Value) (d : Option Addr) (pn : List (Addr × Obj)), Zc cls d oe → (∃ vs, oe.data = .fields vs) → PSs (X.suite a ((a, oe) :: pn)) (b₀ :: sb) (ts a cls d)) :
    PS X (.Try bd [.ExceptHandler (some (.Name x np)) (some n) (b₀ :: sb) p1] [] [] p2) (fun D σ H => tb (wKp X.K c i ts Wout D) D σ H) := by
  refine ⟨fun pins s0 σ0 H0 D I0 wish => ?_⟩
  have okX := I0.ok
  have frs2 : X.A.frames = some (X.env :: X.outer) := by rw [okX.frames, stk]
  refine wpAny_Try_except (wpAny_mono ((inner (wKp X.K c i ts Wout D) (X.pn ++ pins) (fun er z1 => wpAny (model X.prog X.w) X.A (noteFrame er X.env) (fun _ z2 => wpAny (model X.prog X.w) X.A (setFlight er none) (fun _ z3 =>
    wpAny (model X.prog X.w) X.A (handleBy er X.env [.ExceptHandler (some (.Name x np)) (some n) (b₀ :: sb) p1]) (SP X pins D) X.xe z3) X.xe z2) X.xe z1) (fun u t hu => ?_) PassesOwn.looking).run [] s0 σ0 H0 D (I0.toTry _) wish) (fun fl t hfl => ?_) (fun _ _ he => he))
  · obtain ⟨a, G, sI, pI, σ1, H1, cls, d, rfl, J0, nb, up, sky, na, hos, hag, b, hb, yes, no⟩ := hu
    have J1 : Inv X pins σ1 H1 sI := J0.ofTry okX
    have sky2 : Sky G (X.env :: X.outer) a (Zc cls d) X.env.locals t.heap := by
      rw [← stk]
      exact sky
    have Ga : G.get? a = none := by
      rcases sky2 with ⟨_, z, _⟩ | ⟨_, z, _⟩ | ⟨_, z, _⟩
      · exact z
      · exact z
      · exact z
    show wpAny (model X.prog X.w) X.A (noteFrame (.ref a) X.env) _ _ _
    refine Sky.land Zc.steady frs2 frm sky2 fun h3 fly3 up3 => ?_
    have J3 : Inv X pins σ1 H1 { t with heap := h3 } := J1.landed nb fly3.1 (up.trans up3) hos hag
    obtain ⟨o3, v3, get3, zc3, dat3⟩ := fly3.there
    have offF : a ∉ frs (X.env :: X.outer) := fun hm => by
      obtain ⟨_, o', e', hnf⟩ := fly3.2.2.1.mem hm
      rw [get3] at e'
      obtain rfl := Option.some.inj e'
      exact hnf _ dat3
    have neL : a ≠ X.env.locals := fun z => offF (List.mem_filterMap.mpr ⟨X.env, List.mem_cons_self, by rw [frm, z]⟩)
    have neF : a ∉ X.fs := fun hm => by
      obtain ⟨e, he, q⟩ := List.mem_filterMap.mp hm
      exact offF (List.mem_filterMap.mpr ⟨e, List.mem_cons_of_mem _ he, q⟩)
    -- a is new to the def, and none of what is pinned
    have n0 : X.s_0.heap.get? a = none := by
      cases e : X.s_0.heap.get? a with
      | none => rfl
      | some o =>
        exfalso
        obtain ⟨o', e'⟩ := J1.base.there a o e (by rw [nox]; exact fun z => nomatch z)
        have := nb a o' e' (by rw [stk]; exact offF)
        rw [Ga] at this
        cases this
    have pin0 : ∀ p ∈ X.pn ++ pins, p.1 ≠ a := fun p hp z => by
      obtain ⟨k1, k2, k3, k4, _⟩ := J1.pin p hp
      rw [z] at k1
      have := nb a _ k1 (by rw [stk]; exact offF)
      rw [Ga] at this
      cases this
    have S3 := J3.suite get3 dat3 na neL neF
    refine wpAny_handleBy_cons (codeAny_handlers_test ?_) (by intro q; cases q)
    have lookT : PySem.W.Looks (model X.prog X.w) h3 (typeOf (.ref a)) cls := fun A Q E z k q => wpAny_typeOf_ref (k _ _ get3) (by rw [zc3.1]; exact q)
    have lookM := PySem.W.exm_one (M := model X.prog X.w) (J3.kIn) lookT hb
    have named : ∀ {Q : Value → Shared → Prop} {E : Value → Shared → Prop}, Q c { t with heap := h3 } → wpAny (model X.prog X.w) (X.A.mark (some (.ref a))) (eval (.Name x np) X.env) Q E { t with heap := h3 } := fun {Q E} q => by
      obtain ⟨hg, hdb, hm | ⟨hm, hv, hnn⟩⟩ := nm
      · exact ld_glob (X := X.suite a ((a, o3) :: (X.pn ++ pins))) S3 hg hm q hdb
      · exact ld_blt (X := X.suite a ((a, o3) :: (X.pn ++ pins))) S3 hg hm hv q hnn hdb
    refine named (lookM.here ?_)
    cases b with
    | true =>
      refine codeAny_handlers_suite_as (HandSPX.lands_againZ fly3 fun h4 fly4 up4 => ?_)
      have J4 : Inv X pins σ1 H1 { t with heap := h4 } := J1.landed nb fly4.1 ((up.trans up3).trans up4) hos hag
      obtain ⟨o4, v4, get4, zc4, dat4⟩ := fly4.there
      refine store_ok (X := X.suite a ((a, o4) :: (X.pn ++ pins))) (v := .ref a) (J4.suite get4 dat4 na neL neF) nod slot (.inl lcl) rfl (fun s5 S5 => ?_) (.inr lcl)
      refine wpAny_mono ((suit a o4 cls d (X.pn ++ pins) zc4 ⟨_, dat4⟩).run [] s5 _ H1 _ S5 (yes rfl a na)) (fun fl s6 hs => ?_) (fun _ _ z => False.elim z)
      cases fl with
      | next =>
        obtain ⟨σ6, H6, S6, q6⟩ := hs
        exact gone_ok (inv_keepPin S6 okX) nod slot lcl fun s7 J7 => ⟨_, _, inv_track J7 zc4 ⟨_, dat4⟩ n0 pin0, q6⟩
      | brk =>
        obtain ⟨_, _, _, q6⟩ := hs
        exact q6.elim
      | cont =>
        obtain ⟨_, _, _, q6⟩ := hs
        exact q6.elim
      | ret u =>
        obtain ⟨_, _, _, _, _, q6⟩ := hs
        exact q6.elim
    | false =>
      show wpAny _ X.A (handleBy (.ref a) X.env []) _ _ _
      refine wpAny_handleBy_nil ?_
      obtain ⟨k1, k2, k3, oe, vs, T, oT, ts', he, hz, hd, h1, hr⟩ := id fly3
      unfold PySem.passOn
      refine wpAny_bind (wpAny_field he hd h1 ?_)
      rw [if_neg (show ¬ ((Value.ref T == Value.none) = true) from by simp)]
      have on : wpAny (model X.prog X.w) X.A (setFlight (.ref a) X.env.frame) (fun _ s4 => wpAny (model X.prog X.w) X.A (throw (.ref a) : Sem Flow) (SP X pins D) X.xe s4) X.xe { t with heap := h3 } := by
        rw [frm]
        refine HandSPX.setFlight_upZ fly3 fun h4 hh4 up4 => wpAny_throw (out _ _ ⟨a, G, sI, pins, σ1, H1, cls, d, rfl, J1, nb, (up.trans up3).trans up4, .inr (.inr (by rw [stk]; exact hh4)), na, hos, hag, no rfl⟩)
      first
        | exact wpAny_bind (wpAny_pure (wpAny_bind on))
        | exact wpAny_bind on
  · cases fl with
    | next =>
      obtain ⟨σ', H', J', q⟩ := hfl
      exact wpAny_execs_nil ⟨σ', H', J'.ofTry okX, q⟩
    | brk =>
      obtain ⟨σ', H', J', q⟩ := hfl
      exact ⟨σ', H', J'.ofTry okX, q⟩
    | cont =>
      obtain ⟨σ', H', J', q⟩ := hfl
      exact ⟨σ', H', J'.ofTry okX, q⟩
    | ret u =>
      obtain ⟨v, σ', H', J', r, q⟩ := hfl
      exact ⟨v, σ', H', J'.ofTry okX, r, q⟩
end
/-- isinstance(x, c), x a kept error -/
def rIsK (K : PySem.W.Frag) : List V → Hp → VK → Prop := fun xs H Q => ∃ (a D : Addr) (d : Option Addr) (c : V) (cv : Value) (b : Bool), xs = [.ref a, c] ∧ H a = some (ExK (.ref D) d a) ∧ (∀ dx, d = some dx → ∃ fs, H dx = some (.xd fs)) ∧ ExcC K D ∧
  (∀ u, RelV c u → u = cv) ∧ PySem.W.kitOne K (.ref D) cv = some b ∧ Q (.bl b) H
theorem instK {X : Cx} {pins : List (Addr × Obj)} {σ : L2.St} {H : Hp} {s : Shared} (I : Inv X pins σ H s) {a D : Addr} {d : Option Addr} (ha : H a = some (ExK (.ref D) d a)) (hd : ∀ dx, d = some dx → ∃ fs, H dx = some (.xd fs)) :
    ∃ oe od, PySem.W.InstAt s.heap a oe D od := by
  obtain ⟨⟨oe, vs, h1, ⟨h2, h3⟩, h4⟩, _⟩ := I.hok a _ ha
  have no : PySem.W.notCls oe = true := by
    unfold PySem.W.notCls
    rw [h4]
  cases d with
  | none => exact ⟨oe, none, h1, h2, no, by rw [h3]; trivial⟩
  | some dx =>
    obtain ⟨fs, e⟩ := hd dx rfl
    obtain ⟨m, ⟨o, es, ep, ho, _⟩, _⟩ := I.hok dx _ e
    exact ⟨oe, some o, h1, h2, no, by rw [h3]; exact ho⟩
theorem call_isK {X : Cx} (K : PySem.W.Frag) (hK : X.K = K := by rfl) : CallR X (.builtin "isinstance") (rIsK K) := by
  subst hK
  intro pins s σ H xs us Q I r h
  obtain ⟨a, D, d, c, cv, b, rfl, ha, hd, C, hcv, e, q⟩ := h
  cases r with
  | cons rx rr =>
    cases rr with
    | cons rt rr =>
      cases rr
      cases rx
      have ec := hcv _ rt
      subst ec
      obtain ⟨oe, od, J⟩ := instK I ha hd
      have hcl : (PySem.W.clsIn X.K D).isSome = true := by
        obtain ⟨cd, hc, _⟩ := PySem.W.any_some C.hd
        rw [hc]
        rfl
      exact PySem.W.kia_one (PySem.W.kitx_exc hcl C.hg C.hk C.hs C.ha C.hn C.ht C.hm) I.kIn J e (fun z => nomatch z) fun tk => ⟨.bl b, H, I.kept (t' := tk) fun _ _ z => z, rfl, q⟩
end Nw
/-! Errors as values: made, kept in lists, their fields read. -/
namespace PySem
namespace PlcX
open PySem.W PySem.Calls PyProof.Rows PySem.HandSPX
/-! ### the text of __init__ -/
def iA (p1 p2 : Pos) : Arguments := { posonlyargs := [], args := [{ arg := "self", annotation := none, pos := p1 }, { arg := "place", annotation := none, pos := p2 }], vararg := none, kwonlyargs := [], kw_defaults := [], kwarg := none, defaults := [] }
def iB (q1 q2 q3 q4 : Pos) : List Stmt := [.Assign [.Attribute (.Name "self" q1) "place" q2] (.Name "place" q3) q4]
def iS : Scope := { kind := .function, names := [(PySem.Str.ofString "self", .local), (PySem.Str.ofString "place", .local)], isGenerator := false, isCoroutine := false, more := [] }
/-- what the written part says of InvalidText, at C, and of its __init__, at fI -/
structure PlcTxt (K : Frag) (mg : Str → Option Value) (C fI : Addr) : Prop where
  gC : mg "InvalidText" = some (.ref C)
  cls : ∃ nm q N bs bm sn sub ab col dd k0 k1 k2 k3 k5, K.lookup C = some (excClassObj nm q C N bs bm true sn sub ab col dd k0 k1 k2 k3 k5 "ValueError.__new__") ∧ refsVE bm = true
  sa : findIn K (.ref C) "__setattr__" = some (some (.builtin "object.__setattr__"))
  ga : findIn K (.ref C) "__getattribute__" = some (some (.builtin "BaseException.__getattribute__"))
  gg : findIn K (.ref C) "__getattr__" = some none
  noN : findIn K (.ref C) "place" = some none
  iC : findIn K (.ref C) "__init__" = some (some (.ref fI))
  tC : typeIn K (.ref fI) = some (.type "function")
  kC : keepIn K (.ref C) = true
  exC : subIn K (.ref C) (.type "BaseException") = some true
  tyC : typeIn K (.ref C) = some (.type "type")
  hdC : hasDictIn K C = true
  te : exmOne K (.ref C) (.ref C) = some true
  fn : ∃ (oc : Value) (od : Option Addr) (doc pm : Value) (an : Option Addr) (cdv ct : Value) (osl : Array (Option Value)) (p1 p2 q1 q2 q3 q4 : Pos),
    K.lookup fI = some ⟨oc, od, .func (fnOf "__init__" "InvalidText.__init__" (iA p1 p2) (iB q1 q2 q3 q4) iS .none .none doc pm an cdv ct), osl⟩ ∧ codeIn K cdv "InvalidText.__init__" = true
theorem one_size (v : Value) : [v].length ≤ sizeLine := by
  rw [sizeLine_eq]
  exact (by decide : 1 ≤ 16777216)
theorem kept_but {K : Frag} {h h' : Heap} {x : Addr} (X : K.In h) (hx : K.lookup x = none) (k : ∀ b o, b ≠ x → h.get? b = some o → h'.get? b = some o) : K.In h' := fun a o e =>
  k a o (fun z => by rw [z, hx] at e; cases e) (X a o e)
theorem ldC {M : Model} {s : Shared} {name : Str} {scope : Scope} {L a : Addr} {cd : Value} {m : Str → Option Value} {x : Str} {pos : Pos} {v : Value} {Q : Value → Shared → Prop} {A : Around} {E : Value → Shared → Prop} (hn : s.heap.Ns L m) (hv : m x = some v) (h : Q v s)
    (hk : scope.kind = .function := by rfl) (hl : (envOfC name scope L a cd).kindOf x = some .local := by rfl) (hd : (x == ("__debug__" : Str)) = false := by decide) :
    wpAny M A (eval (.Name x pos) (envOfC name scope L a cd)) Q E s := wpAny_Name (wpAny_loadName_local hk hl hn hv h) hd
/-- what __init__ leaves of a fresh exception at x -/
structure InitEnd (h h' : Heap) (x C dx t1 : Addr) (v : Value) : Prop where
  keep : ∀ b o, b ≠ x → h.get? b = some o → h'.get? b = some o
  obj : h'.get? x = some { cls := .ref C, dict := some dx, data := .fields #[.ref t1, .none, .none, .none, .bool false, .none] }
  dbig : h.objs.size ≤ dx
  dne : dx ≠ x
  ns : h'.Ns1 dx (fun y => if y = "place" then some v else none)
/-- a made InvalidText -/
structure OwnMade (h h' : Heap) (e C d : Addr) (v : Value) : Prop where
  keep : ∀ b o, h.get? b = some o → h'.get? b = some o
  new : h.objs.size ≤ e
  obj : ∃ oe vs, h'.get? e = some oe ∧ oe.cls = .ref C ∧ oe.dict = some d ∧ oe.data = .fields vs ∧ vs[1]? = some .none
  dbig : h.objs.size ≤ d
  dne : d ≠ e
  ns : h'.Ns1 d (fun y => if y = "place" then some v else none)
section
variable {prog : Program} {w : World} {A : Around} {E : Value → Shared → Prop} {R : Result → Shared → Prop} {s : Shared} {K : Frag} {mg : Str → Option Value} {C fI : Addr}
theorem plc_init (T : PlcTxt K mg C fI) {x t0 : Addr} {v : Value} (X : K.In s.heap) (hlim : s.heap.NoLimit) (hx : s.heap.get? x = some (excO C t0)) (hnx : K.lookup x = none) (hroom : A.depth < recursionLimit)
    (hq : ∀ h' tk dx, InitEnd s.heap h' x C dx t0 v → R (.ok (.ret .none)) { s with heap := h', toks := tk }) :
    codeAny (model prog w) A (.call (.ref fI) ⟨[.ref x, v], []⟩) R s := by
  obtain ⟨oc, od, doc, pm, an, cdv, ct, osl, p1, p2, q1, q2, q3, q4, ho, hcd⟩ := T.fn
  obtain ⟨nm, q, N, bs, bm, sn, sub, ab, col, dd, k0, k1, k2, k3, k5, hC, hbm⟩ := T.cls
  have hcl : clsIn K C = some { name := nm, bases := bs, mro := .ref C :: bm, ns := N, qualname := q, hasDict := true, slotNames := sn, subclasses := sub, abstract := ab, collection := col, hasDel := false } := by unfold clsIn; rw [hC] <;> rfl
  refine Att.call_fn (binds := [("self", .ref x), ("place", v)]) X hlim ho hcd hroom (BindsTo.of_eq (by first | rfl | with_unfolding_all rfl)) (by first | rfl | decide | with_unfolding_all rfl) (fun s₁ IC => ?_) rfl rfl rfl
  obtain ⟨h₁, tk₁, rfl⟩ := IC.toInCall.same
  have k : ∀ b o, s.heap.get? b = some o → h₁.get? b = some o := IC.toInCall.keep
  have hn := IC.toInCall.ns
  have hxL : s.heap.objs.size ≠ x := Nat.ne_of_gt (Heap.lt_size hx)
  have X₁ : K.In h₁ := X.keeps k
  have hx₁ := k _ _ hx
  -- self.by = by
  show wpAny _ _ (execs _ _) _ _ _
  refine wpAny_execs_cons (plainObj_wpAny_Assign_Attribute ?_)
  refine ldC (v := v) hn (by first | rfl | with_unfolding_all rfl | kernel_rfl) (ldC (v := .ref x) hn (by first | rfl | with_unfolding_all rfl | kernel_rfl) ?_)
  refine set_plain X₁ (ox := excO C t0) (od := none) ⟨hx₁, rfl, rfl, trivial⟩ T.sa ?_
  refine exc_osa X₁ hx₁ hcl (show refsVE (.ref C :: bm) = true from hbm) rfl T.noN (fun h₃ tk₃ dx k₃ dn dne hx₃ hn₃ => ?_)
  show wpAny _ _ (execs _ _) _ _ _
  have z : s.heap.objs.size < h₁.objs.size := hn.lt
  exact wpAny_execs_nil (hq h₃ tk₃ dx ⟨fun b o hb e => k₃ b o hb (k b o e), hx₃, Nat.le_of_lt (Nat.lt_of_lt_of_le z dn), dne, hn₃⟩)
theorem plc_made (T : PlcTxt K mg C fI) {v : Value} (X : K.In s.heap) (hlim : s.heap.NoLimit) (hroom : A.depth + 1 < recursionLimit)
    (hq : ∀ h' tk e d, OwnMade s.heap h' e C d v → R (.ok (.ret (.ref e))) { s with heap := h', toks := tk }) :
    codeAny (model prog w) A (.call (.ref C) ⟨[v], []⟩) R s := by
  obtain ⟨nm, q, N, bs, bm, sn, sub, ab, col, dd, k0, k1, k2, k3, k5, hC, hbm⟩ := T.cls
  obtain ⟨hp, g, dr, tk, os⟩ := s
  have k : ∀ b o, hp.get? b = some o → ((hp.push (kdv_tup [v])).push (excO C hp.objs.size)).get? b = some o := fun b o e => Heap.get?_push_of_some _ (Heap.get?_push_of_some _ e)
  have hget : ((hp.push (kdv_tup [v])).push (excO C hp.objs.size)).get? (hp.objs.size + 1) = some (excO C hp.objs.size) := by heap_get
  have hnx : K.lookup (hp.objs.size + 1) = none := by
    cases e : K.lookup (hp.objs.size + 1) with
    | none => rfl
    | some o =>
      have z : hp.get? (hp.objs.size + 1) = some o := X _ _ e
      exact absurd (Nat.lt_of_succ_lt (Heap.lt_size z)) (Nat.lt_irrefl _)
  refine call_own F.excBase_ValueError (fun X => refsVE_contains X bm hbm) (X _ _ hC) (looks_findIn X T.iC) (fun self => bind_fn X self T.tC) (one_size v) ?_
  refine plc_init (s := ⟨(hp.push (kdv_tup [v])).push (excO C hp.objs.size), g, dr, tk, os⟩) T (X.keeps k) (hlim.keeps k) hget hnx ?_ fun h' tk' dx ⟨k', hx, dn, dne, hns⟩ => ?_
  · show A.depth + 1 < recursionLimit
    exact hroom
  · have old : ∀ b o, hp.get? b = some o → h'.get? b = some o := fun b o e => k' b o (Nat.ne_of_lt (Nat.lt_succ_of_lt (Heap.lt_size e))) (k b o e)
    have z : hp.objs.size + 1 + 1 ≤ dx := by
      first
        | (simpa only [Heap.size_push] using dn)
        | exact dn
        | (have q := dn; rw [Heap.size_push, Heap.size_push] at q; exact q)
    exact ⟨rfl, hq h' tk' (hp.objs.size + 1) dx ⟨old, Nat.le_succ _, ⟨_, _, hx, rfl, rfl, rfl, rfl⟩, Nat.le_trans (Nat.le_trans (Nat.le_succ _) (Nat.le_succ _)) z, dne, hns⟩⟩
end
end PlcX
end PySem
namespace L2
open PySem PySem.Spec PyProof.Rows
theorem relO_plc {v : V} {v' : Value} (r : RelV v v') (f : Str) : RelO (List.lookup f [(("place" : Str), v)]) (if f = "place" then some v' else none) := by
  by_cases hw : f = "place"
  · subst hw
    rw [if_pos rfl]
    have q : List.lookup ("place" : Str) [(("place" : Str), v)] = some v := by simp [List.lookup]
    rw [q]
    exact r
  · rw [if_neg hw]
    have qw : (f == ("place" : Str)) = false := by simpa using hw
    have q2 : List.lookup f [(("place" : Str), v)] = none := by simp [List.lookup, qw]
    rw [q2]
    trivial
section
variable {X : Cx} {C fI : Addr}
/-- InvalidText(e) -/
def tMkPlc (C : Addr) (ta : TA) : St → Hp → XK → Prop := fun σ H Q => ta σ H fun vs H1 => ∃ v, vs = [v] ∧ ∀ d, H1 d = none → Q (.ref C) (some d) (upd H1 d (.xd [(("place" : Str), v)]))
theorem pmk_plc {a : Expr} {ta : TA} {p pos : Pos} {k : Nat} (T : PySem.PlcX.PlcTxt X.K X.mg C fI) (hr : Room k X.A) (ha : PA X [a] ta) (hg : Gl X "InvalidText" := by rfl)
    (he : starEach (a :: []) X.env = (false, eval a X.env) :: starEach [] X.env := by rfl) (hpl : (backTo pos (starEach [] X.env)).any (·.1) = false := by rfl) :
    PMk X (.Call (.Name "InvalidText" p) [a] [] pos) (tMkPlc C ta) := by
  intro pins s σ H Q I h
  refine wpAny_Call_Name_kw (ld_glob I hg T.gC ?_)
  refine PySem.W.callWith_K (h₀ := X.base) I.ok.mod.kin T.kC (thn (ha.run pos pins s σ H _ I h) fun us s1 hh => ?_) he hpl
  obtain ⟨vs, H1, I1, r1, v, ev, q1⟩ := hh
  subst ev
  refine ⟨I1.kIn, ?_⟩
  cases r1 with
  | cons rv rn =>
    rename_i v' us'
    cases rn
    show wpAny _ _ (call (.ref C) [v']) _ _ _
    have hlim := I1.nolimit
    obtain ⟨hp, g, dr, tk, os⟩ := s1
    refine wpAny_call (PySem.PlcX.plc_made T I1.kIn hlim (by have := hr.dp; omega) fun h' tk' e d M => ?_)
    show MkP X pins σ Q (.ref e) ⟨h', g, dr, tk', os⟩
    obtain ⟨oe, fv, hoe, hc, hd, hdat, h1⟩ := M.obj
    have hns := M.ns
    obtain ⟨G', g1, g2⟩ := restrict h' fun b => decide (b ≠ e)
    have gk : ∀ b, b ≠ e → G'.get? b = h'.get? b := fun b hb => g1 b (decide_eq_true hb)
    have ge : G'.get? e = none := g2 e (by simp)
    have old : ∀ b o, hp.get? b = some o → G'.get? b = some o := fun b o q => (gk b (Nat.ne_of_lt (Nat.lt_of_lt_of_le (Heap.lt_size q) M.new))).trans (M.keep b o q)
    have ob : ObjOk X.prog X.w (upd H1 d (.xd [(("place" : Str), v)])) G' d (.xd [(("place" : Str), v)]) :=
      ⟨_, hns.at (fun o q => (gk d M.dne).trans q), fun f => relO_plc rv f⟩
    have J : Inv X pins σ (upd H1 d (.xd [(("place" : Str), v)])) ⟨G', g, dr, tk', os⟩ := I1.laid (t' := tk') old M.dbig ob
    refine ⟨e, oe, fv, ⟨G', g, dr, tk', os⟩, _, .ref C, some d, rfl, J, fun b o q => ?_, ge, hoe, ⟨hc, hd⟩, hdat, h1, ?_, rfl, I1.bare, raises_own T.exC T.tyC, q1 d (I1.hok.fresh M.dbig)⟩
    · by_cases hb : b = e
      · have q' : G'.get? b = some o := q
        rw [hb, ge] at q'; cases q'
      · exact (gk b hb).symm.trans q
    · rw [upd_ne (Ne.symm M.dne)]
      exact I1.hok.fresh M.new
/-- TooLarge(e) as a value: a new object, tracked with its dict -/
def tBigV (C : Addr) (ta : TA) : TE := fun σ H Q => ta σ H fun vs H1 => ∃ v, vs = [v] ∧ ∀ d e, H1 d = none → H1 e = none → e ≠ d → Q (.ref e) (upd (upd H1 d (.xd [(("limit" : Str), v)])) e (Nw.ExK (.ref C) (some d) e))
theorem pe_bigV {a : Expr} {ta : TA} {p pos : Pos} {k : Nat} (T : PySem.BigX.BigTxt X.K X.mg C fI) (hr : Room k X.A) (ha : PA X [a] ta) (hg : Gl X "TooLarge" := by rfl)
    (he : starEach (a :: []) X.env = (false, eval a X.env) :: starEach [] X.env := by rfl) (hpl : (backTo pos (starEach [] X.env)).any (·.1) = false := by rfl) :
    PE X (.Call (.Name "TooLarge" p) [a] [] pos) (tBigV C ta) := by
  refine ⟨fun pins s σ H Q I h => ?_⟩
  refine wpAny_Call_Name_kw (ld_glob I hg T.gC ?_)
  refine PySem.W.callWith_K (h₀ := X.base) I.ok.mod.kin T.kC (thn (ha.run pos pins s σ H _ I h) fun us s1 hh => ?_) he hpl
  obtain ⟨vs, H1, I1, r1, v, ev, q1⟩ := hh
  subst ev
  refine ⟨I1.kIn, ?_⟩
  cases r1 with
  | cons rv rn =>
    rename_i v' us'
    cases rn
    show wpAny _ _ (call (.ref C) [v']) _ _ _
    have hlim := I1.nolimit
    obtain ⟨hp, g, dr, tk, os⟩ := s1
    refine wpAny_call (PySem.BigX.big_made T I1.kIn hlim (by have := hr.dp; omega) fun h' tk' e d M => ?_)
    obtain ⟨oe, fv, hoe, hc, hd, hdat, h1⟩ := M.obj
    have hns := M.ns
    obtain ⟨G', g1, g2⟩ := restrict h' fun b => decide (b ≠ e)
    have gk : ∀ b, b ≠ e → G'.get? b = h'.get? b := fun b hb => g1 b (decide_eq_true hb)
    have ge : G'.get? e = none := g2 e (by simp)
    have old : ∀ b o, hp.get? b = some o → G'.get? b = some o := fun b o q => (gk b (Nat.ne_of_lt (Nat.lt_of_lt_of_le (Heap.lt_size q) M.new))).trans (M.keep b o q)
    have ob : ObjOk X.prog X.w (upd H1 d (.xd [(("limit" : Str), v)])) G' d (.xd [(("limit" : Str), v)]) :=
      ⟨_, hns.at (fun o q => (gk d M.dne).trans q), fun f => relO_big rv f⟩
    have J : Inv X pins σ (upd H1 d (.xd [(("limit" : Str), v)])) ⟨G', g, dr, tk', os⟩ := I1.laid (t' := tk') old M.dbig ob
    have en : H1 e = none := I1.hok.fresh M.new
    have nn : (upd H1 d (.xd [(("limit" : Str), v)])) e = none := by
      rw [upd_ne (Ne.symm M.dne)]
      exact en
    have kk : ∀ b o, G'.get? b = some o → h'.get? b = some o := fun b o q => by
      by_cases hb : b = e
      · rw [hb, ge] at q
        cases q
      · exact (gk b hb).symm.trans q
    exact ⟨.ref e, _, J.laidN (t' := tk') kk ge nn (Nw.exK_ok hoe ⟨hc, hd⟩ hdat), rfl, q1 d e (I1.hok.fresh M.dbig) en (Ne.symm M.dne)⟩
/-- x.limit, x an error's object that is tracked -/
def tLimK (C : Addr) (te : TE) : TE := fun σ H Q => te σ H fun x H1 => ∃ (a dd : Addr) (v : V), x = .ref a ∧ H1 a = some (Nw.ExK (.ref C) (some dd) a) ∧ H1 dd = some (.xd [(("limit" : Str), v)]) ∧ Q v H1
theorem pe_limK {e : Expr} {te : TE} {pos : Pos} (T : PySem.BigX.BigTxt X.K X.mg C fI) (he : PE X e te) (hb : attributeBase e "limit" X.env (eval e X.env) = eval e X.env := by rfl) :
    PE X (.Attribute e "limit" pos) (tLimK C te) := by
  refine ⟨fun pins s σ H Q I h => ?_⟩
  refine attr_of hb (thn (he.run pins s σ H _ I h) fun u s1 hh => ?_)
  obtain ⟨x, H1, I1, rx, a, dd, v, rfl, ea, ed, q⟩ := hh
  obtain rfl : u = Value.ref a := rx
  obtain ⟨⟨oe, vs, ha, hz, hd⟩, _⟩ := I1.hok a _ ea
  have hx : ObjOk X.prog X.w H1 s1.heap dd (.xd [(("limit" : Str), v)]) := I1.hok dd _ ed
  obtain ⟨mA, hns, hr⟩ := hx
  obtain ⟨od, ho, hl⟩ := lookIn_ns hns
  have l : List.lookup ("limit" : Str) [(("limit" : Str), v)] = some v := by simp [List.lookup]
  obtain ⟨u, hu, ru⟩ := RelO.some_of (v := v) (o := mA "limit") (by rw [← l]; exact hr "limit")
  have J : PySem.W.InstAt s1.heap a oe C (some od) := ⟨ha, hz.1, by unfold PySem.W.notCls; rw [hd] <;> rfl, by rw [hz.2]; exact ho⟩
  exact HandSPX.exc_get I1.kIn J T.ga T.gg T.exC (PySem.W.findObj_own T.hdC T.noN rfl (by rw [hl, hu])) (handed_of ru) ⟨v, H1, I1.tok _, ru, q⟩
/-- InvalidText(e) as a value: a new object, tracked with its dict -/
def tPlcV (C : Addr) (ta : TA) : TE := fun σ H Q => ta σ H fun vs H1 => ∃ v, vs = [v] ∧ ∀ d e, H1 d = none → H1 e = none → e ≠ d → Q (.ref e) (upd (upd H1 d (.xd [(("place" : Str), v)])) e (Nw.ExK (.ref C) (some d) e))
theorem pe_plcV {a : Expr} {ta : TA} {p pos : Pos} {k : Nat} (T : PySem.PlcX.PlcTxt X.K X.mg C fI) (hr : Room k X.A) (ha : PA X [a] ta) (hg : Gl X "InvalidText" := by rfl)
    (he : starEach (a :: []) X.env = (false, eval a X.env) :: starEach [] X.env := by rfl) (hpl : (backTo pos (starEach [] X.env)).any (·.1) = false := by rfl) :
    PE X (.Call (.Name "InvalidText" p) [a] [] pos) (tPlcV C ta) := by
  refine ⟨fun pins s σ H Q I h => ?_⟩
  refine wpAny_Call_Name_kw (ld_glob I hg T.gC ?_)
  refine PySem.W.callWith_K (h₀ := X.base) I.ok.mod.kin T.kC (thn (ha.run pos pins s σ H _ I h) fun us s1 hh => ?_) he hpl
  obtain ⟨vs, H1, I1, r1, v, ev, q1⟩ := hh
  subst ev
  refine ⟨I1.kIn, ?_⟩
  cases r1 with
  | cons rv rn =>
    rename_i v' us'
    cases rn
    show wpAny _ _ (call (.ref C) [v']) _ _ _
    have hlim := I1.nolimit
    obtain ⟨hp, g, dr, tk, os⟩ := s1
    refine wpAny_call (PySem.PlcX.plc_made T I1.kIn hlim (by have := hr.dp; omega) fun h' tk' e d M => ?_)
    obtain ⟨oe, fv, hoe, hc, hd, hdat, h1⟩ := M.obj
    have hns := M.ns
    obtain ⟨G', g1, g2⟩ := restrict h' fun b => decide (b ≠ e)
    have gk : ∀ b, b ≠ e → G'.get? b = h'.get? b := fun b hb => g1 b (decide_eq_true hb)
    have ge : G'.get? e = none := g2 e (by simp)
    have old : ∀ b o, hp.get? b = some o → G'.get? b = some o := fun b o q => (gk b (Nat.ne_of_lt (Nat.lt_of_lt_of_le (Heap.lt_size q) M.new))).trans (M.keep b o q)
    have ob : ObjOk X.prog X.w (upd H1 d (.xd [(("place" : Str), v)])) G' d (.xd [(("place" : Str), v)]) :=
      ⟨_, hns.at (fun o q => (gk d M.dne).trans q), fun f => relO_plc rv f⟩
    have J : Inv X pins σ (upd H1 d (.xd [(("place" : Str), v)])) ⟨G', g, dr, tk', os⟩ := I1.laid (t' := tk') old M.dbig ob
    have en : H1 e = none := I1.hok.fresh M.new
    have nn : (upd H1 d (.xd [(("place" : Str), v)])) e = none := by
      rw [upd_ne (Ne.symm M.dne)]
      exact en
    have kk : ∀ b o, G'.get? b = some o → h'.get? b = some o := fun b o q => by
      by_cases hb : b = e
      · rw [hb, ge] at q
        cases q
      · exact (gk b hb).symm.trans q
    exact ⟨.ref e, _, J.laidN (t' := tk') kk ge nn (Nw.exK_ok hoe ⟨hc, hd⟩ hdat), rfl, q1 d e (I1.hok.fresh M.dbig) en (Ne.symm M.dne)⟩
/-- x.place, x an error's object that is tracked -/
def tPlaceK (C : Addr) (te : TE) : TE := fun σ H Q => te σ H fun x H1 => ∃ (a dd : Addr) (v : V), x = .ref a ∧ H1 a = some (Nw.ExK (.ref C) (some dd) a) ∧ H1 dd = some (.xd [(("place" : Str), v)]) ∧ Q v H1
theorem pe_placeK {e : Expr} {te : TE} {pos : Pos} (T : PySem.PlcX.PlcTxt X.K X.mg C fI) (he : PE X e te) (hb : attributeBase e "place" X.env (eval e X.env) = eval e X.env := by rfl) :
    PE X (.Attribute e "place" pos) (tPlaceK C te) := by
  refine ⟨fun pins s σ H Q I h => ?_⟩
  refine attr_of hb (thn (he.run pins s σ H _ I h) fun u s1 hh => ?_)
  obtain ⟨x, H1, I1, rx, a, dd, v, rfl, ea, ed, q⟩ := hh
  obtain rfl : u = Value.ref a := rx
  obtain ⟨⟨oe, vs, ha, hz, hd⟩, _⟩ := I1.hok a _ ea
  have hx : ObjOk X.prog X.w H1 s1.heap dd (.xd [(("place" : Str), v)]) := I1.hok dd _ ed
  obtain ⟨mA, hns, hr⟩ := hx
  obtain ⟨od, ho, hl⟩ := lookIn_ns hns
  have l : List.lookup ("place" : Str) [(("place" : Str), v)] = some v := by simp [List.lookup]
  obtain ⟨u, hu, ru⟩ := RelO.some_of (v := v) (o := mA "place") (by rw [← l]; exact hr "place")
  have J : PySem.W.InstAt s1.heap a oe C (some od) := ⟨ha, hz.1, by unfold PySem.W.notCls; rw [hd] <;> rfl, by rw [hz.2]; exact ho⟩
  exact HandSPX.exc_get I1.kIn J T.ga T.gg T.exC (PySem.W.findObj_own T.hdC T.noN rfl (by rw [hl, hu])) (handed_of ru) ⟨v, H1, I1.tok _, ru, q⟩
end
end L2
namespace Nw
open PySem PySem.Spec PyProof.Rows L2
/-- an error's object of the class D at a, tracked -/
def ErrAt (H : Hp) (a D : Addr) : Prop := H a = some (ExO (.ref D) a) ∨ ∃ d, H a = some (ExK (.ref D) d a) ∧ ∀ dx, d = some dx → ∃ fs, H dx = some (.xd fs)
theorem ErrAt.up {H H' : Hp} {a D : Addr} (h : ErrAt H a D) (e : Ex H H') : ErrAt H' a D := by
  rcases h with h | ⟨d, h1, h2⟩
  · exact .inl (e _ _ h)
  · exact .inr ⟨d, e _ _ h1, fun dx hd => by
      obtain ⟨fs, h3⟩ := h2 dx hd
      exact ⟨fs, e _ _ h3⟩⟩
/-- isinstance(x, c), x an error's object -/
def rIsV (K : PySem.W.Frag) : List V → Hp → VK → Prop := fun xs H Q => ∃ (a D : Addr) (c : V) (cv : Value) (b : Bool), xs = [.ref a, c] ∧ ErrAt H a D ∧ ExcC K D ∧ (∀ u, RelV c u → u = cv) ∧ PySem.W.kitOne K (.ref D) cv = some b ∧ Q (.bl b) H
theorem instV {X : Cx} {pins : List (Addr × Obj)} {σ : L2.St} {H : Hp} {s : Shared} (I : Inv X pins σ H s) {a D : Addr} (h : ErrAt H a D) : ∃ oe od, PySem.W.InstAt s.heap a oe D od := by
  rcases h with h | ⟨d, h1, h2⟩
  · obtain ⟨⟨oe, vs, k1, ⟨k2, k3⟩, k4, _⟩, _⟩ := I.hok a _ h
    exact ⟨oe, none, k1, k2, by unfold PySem.W.notCls; rw [k4], by rw [k3]; trivial⟩
  · exact instK I h1 h2
theorem call_isV {X : Cx} (K : PySem.W.Frag) (hK : X.K = K := by rfl) : CallR X (.builtin "isinstance") (rIsV K) := by
  subst hK
  intro pins s σ H xs us Q I r h
  obtain ⟨a, D, c, cv, b, rfl, ha, C, hcv, e, q⟩ := h
  cases r with
  | cons rx rr =>
    cases rr with
    | cons rt rr =>
      cases rr
      cases rx
      have ec := hcv _ rt
      subst ec
      obtain ⟨oe, od, J⟩ := instV I ha
      have hcl : (PySem.W.clsIn X.K D).isSome = true := by
        obtain ⟨cd, hc, _⟩ := PySem.W.any_some C.hd
        rw [hc]
        rfl
      exact PySem.W.kia_one (PySem.W.kitx_exc hcl C.hg C.hk C.hs C.ha C.hn C.ht C.hm) I.kIn J e (fun z => nomatch z) fun tk => ⟨.bl b, H, I.kept (t' := tk) fun _ _ z => z, rfl, q⟩
end Nw
/-! A family of error classes: one base, its classes. -/
namespace Nw
open PySem PySem.Spec PyProof.Rows L2
def errTail : List Value := [.type "ValueError", .type "Exception", .type "BaseException", .type "object"]
/-- the class at C, of the family of C0 -/
def MroAt (K : PySem.W.Frag) (C0 C : Addr) : Prop := ∃ cd, PySem.W.clsIn K C = some cd ∧ cd.hasDict = true ∧ cd.mro = .ref C :: (if C = C0 then errTail else .ref C0 :: errTail)
section
variable {K : PySem.W.Frag} {C0 C D S : Addr}
theorem mroAt_base {nm q : Str} {N : Addr} {bs : List Value} {sn : List Str} {sub : List Value} {ab : Bool} {col : Option Bool} {dd : Option Addr} {m0 m1 m2 m3 m5 : Option Value}
    (h : K.lookup C = some (excClassObj nm q C N bs errTail true sn sub ab col dd m0 m1 m2 m3 m5 "ValueError.__new__")) : MroAt K C C := by
  refine ⟨{ name := nm, bases := bs, mro := .ref C :: errTail, ns := N, qualname := q, hasDict := true, slotNames := sn, subclasses := sub, abstract := ab, collection := col, hasDel := false }, ?_, rfl, ?_⟩
  · unfold PySem.W.clsIn
    rw [h] <;> rfl
  · rw [if_pos rfl]
theorem mroAt_of {nm q : Str} {N : Addr} {bs : List Value} {sn : List Str} {sub : List Value} {ab : Bool} {col : Option Bool} {dd : Option Addr} {m0 m1 m2 m3 m5 : Option Value}
    (h : K.lookup C = some (excClassObj nm q C N bs (.ref C0 :: errTail) true sn sub ab col dd m0 m1 m2 m3 m5 "ValueError.__new__")) (hn : C ≠ C0) : MroAt K C0 C := by
  refine ⟨{ name := nm, bases := bs, mro := .ref C :: .ref C0 :: errTail, ns := N, qualname := q, hasDict := true, slotNames := sn, subclasses := sub, abstract := ab, collection := col, hasDel := false }, ?_, rfl, ?_⟩
  · unfold PySem.W.clsIn
    rw [h] <;> rfl
  · rw [if_neg hn]
theorem mro_in (h : MroAt K C0 C) (v : Value) : PySem.W.mroIn K C v = some ((Value.ref C :: (if C = C0 then errTail else .ref C0 :: errTail)).contains v) := by
  obtain ⟨cd, h1, _, h3⟩ := h
  unfold PySem.W.mroIn
  rw [h1]
  show (if cd.mro.isEmpty = true then none else some (cd.mro.contains v)) = _
  rw [h3]
  rfl
theorem mro_type (h : MroAt K C0 C) {t : String} (ht : errTail.contains (.type t) = true) : PySem.W.mroIn K C (.type t) = some true := by
  rw [mro_in h]
  congr 1
  rw [List.contains_cons]
  have e : (if C = C0 then errTail else .ref C0 :: errTail).contains (Value.type t) = true := by
    by_cases q : C = C0
    · rw [if_pos q]; exact ht
    · rw [if_neg q, List.contains_cons, ht, Bool.or_true]
  rw [e, Bool.or_true]
theorem mro_ref (h : MroAt K C0 D) : PySem.W.mroIn K D (.ref S) = some (decide (D = S ∨ S = C0)) := by
  rw [mro_in h]
  congr 1
  have tl : errTail.contains (Value.ref S) = false := rfl
  have e1 : (Value.ref S == Value.ref D) = decide (D = S) := by
    by_cases q : D = S
    · rw [q, decide_eq_true rfl]; exact beq_self_eq_true _
    · rw [decide_eq_false q]; exact beq_eq_false_iff_ne.mpr fun z => q (Value.ref.inj z).symm
  rw [List.contains_cons, e1]
  by_cases q : D = C0
  · rw [if_pos q, tl, Bool.or_false, decide_eq_decide]
    exact ⟨.inl, fun z => z.elim id fun z => q.trans z.symm⟩
  · have e2 : (Value.ref S == Value.ref C0) = decide (S = C0) := by
      by_cases q : S = C0
      · rw [q, decide_eq_true rfl]; exact beq_self_eq_true _
      · rw [decide_eq_false q]; exact beq_eq_false_iff_ne.mpr fun z => q (Value.ref.inj z)
    rw [if_neg q, List.contains_cons, e2, tl, Bool.or_false, ← Bool.decide_or]
theorem kit_ref (h : MroAt K C0 D) (g : MroAt K C0 S) (t : PySem.W.typeIn K (.ref S) = some (.type "type")) : PySem.W.kitOne K (.ref D) (.ref S) = some (decide (D = S ∨ S = C0)) := by
  unfold PySem.W.kitOne
  by_cases q : D = S
  · rw [if_pos (by rw [q]; exact beq_self_eq_true _), decide_eq_true (.inl q)]
  · rw [if_neg (by intro z; exact q (Value.ref.inj (eq_of_beq z)))]
    unfold PySem.W.kitCls
    have e : ((PySem.W.clsIn K S).isSome && PySem.W.typeIn K (.ref S) == some (.type "type")) = true := by
      obtain ⟨cd, h1, _⟩ := g
      rw [h1, t]
      rfl
    show (if ((PySem.W.clsIn K S).isSome && PySem.W.typeIn K (.ref S) == some (.type "type")) = true then PySem.W.subIn K (.ref D) (.ref S) else none) = _
    rw [if_pos e]
    exact mro_ref h
theorem kit_val (h : MroAt K C0 D) : PySem.W.kitOne K (.ref D) (.type "ValueError") = some true := by
  unfold PySem.W.kitOne
  rw [if_neg (by intro z; exact nomatch (eq_of_beq z))]
  unfold PySem.W.kitCls
  show (if PySem.W.kitMeta "ValueError" = true then PySem.W.subIn K (.ref D) (.type "ValueError") else none) = _
  rw [if_pos (by rfl)]
  exact mro_type h (by rfl)
theorem excC_of (h : MroAt K C0 D) (hg : PySem.W.findIn K (.ref D) "__getattribute__" = some (some (.builtin "BaseException.__getattribute__"))) (hk : PySem.W.findIn K (.ref D) "__getattr__" = some none)
    (ha : PySem.W.findIn K (.ref D) "__class__" = some (some (.builtin "object.__class__"))) (hn : PySem.W.specialIn K (.builtin "object.__class__") "__get__" = some (some (.builtin "getset_descriptor.__get__")))
    (ht : PySem.W.takesIn K (.builtin "object.__class__") = some true) : L2.ExcC K D :=
  ⟨hg, hk, mro_type h (by rfl), by
    obtain ⟨cd, h1, h2, _⟩ := h
    unfold PySem.W.hasDictIn
    rw [h1]
    exact h2, ha, hn, ht, mro_type h (by rfl)⟩
/-- addresses apart, by their places -/
theorem apart_at {cs : List Addr} (h : cs.Nodup) {i j : Nat} (hi : i < cs.length) (hj : j < cs.length) : cs.getD i 0 = cs.getD j 0 ↔ i = j := by
  have a : cs.getD i 0 = cs[i] := by rw [List.getD_eq_getElem?_getD, List.getElem?_eq_getElem hi]; rfl
  have b : cs.getD j 0 = cs[j] := by rw [List.getD_eq_getElem?_getD, List.getElem?_eq_getElem hj]; rfl
  rw [a, b]
  constructor
  · intro e
    rcases Nat.lt_trichotomy i j with q | q | q
    · exact absurd e (List.pairwise_iff_getElem.mp h i j hi hj q)
    · exact q
    · exact absurd e.symm (List.pairwise_iff_getElem.mp h j i hj hi q)
  · intro e
    subst e
    rfl
end
end Nw
/-! How long data is when shown: by the number of its nodes and the longest leaf. -/
namespace Nw
open PySem PySem.Spec PyProof.Rows L2
mutual
/-- each leaf's text has at most B signs -/
def lf (B : Nat) : PyData → Bool
  | .none | .bool _ => true
  | .int i => decide ((PyData.shown (.int i)).length ≤ B)
  | .str x => decide ((PyData.shown (.str x)).length ≤ B)
  | .list xs | .tuple xs => lfAll B xs
  | .dict kvs => lfKv B kvs
def lfAll (B : Nat) : List PyData → Bool
  | [] => true
  | x :: xs => lf B x && lfAll B xs
def lfKv (B : Nat) : List (PyData × PyData) → Bool
  | [] => true
  | (k, v) :: r => lf B k && lf B v && lfKv B r
end
mutual
def nodes : PyData → Nat
  | .none | .bool _ | .int _ | .str _ => 1
  | .list xs | .tuple xs => 1 + nodesAll xs
  | .dict kvs => 1 + nodesKv kvs
def nodesAll : List PyData → Nat
  | [] => 0
  | x :: xs => nodes x + nodesAll xs
def nodesKv : List (PyData × PyData) → Nat
  | [] => 0
  | (k, v) :: r => nodes k + nodes v + nodesKv r
end
mutual
theorem len_lf (B : Nat) (hB : 8 ≤ B) : ∀ d : PyData, lf B d = true → d.shown.length + 4 ≤ (B + 4) * nodes d
  | .none, _ => by
    have e : (PyData.shown .none).length = 4 := rfl
    simp only [nodes]
    omega
  | .bool b, _ => by
    have e : (PyData.shown (.bool b)).length ≤ 5 := by cases b <;> decide
    simp only [nodes]
    omega
  | .int i, h => by
    have e : (PyData.shown (.int i)).length ≤ B := by simpa only [lf, decide_eq_true_eq] using h
    simp only [nodes]
    omega
  | .str x, h => by
    have e : (PyData.shown (.str x)).length ≤ B := by simpa only [lf, decide_eq_true_eq] using h
    simp only [nodes]
    omega
  | .list xs, h => by
    have h1 := len_lfAll B hB xs (by simpa only [lf] using h)
    have h2 := listText_len_le (PyData.shownAll xs)
    have h3 := PyData.shownAll_length xs
    simp only [PyData.shown, nodes]
    rw [Nat.mul_add]
    omega
  | .tuple xs, h => by
    have h1 := len_lfAll B hB xs (by simpa only [lf] using h)
    have h2 := tupleText_len_le (PyData.shownAll xs)
    have h3 := PyData.shownAll_length xs
    simp only [PyData.shown, nodes]
    rw [Nat.mul_add]
    omega
  | .dict kvs, h => by
    have h1 := len_lfKv B hB kvs (by simpa only [lf] using h)
    have h2 := dictText_len_le (PyData.shownKv kvs)
    have h3 := PyData.shownKv_length kvs
    simp only [PyData.shown, nodes]
    rw [Nat.mul_add]
    omega
theorem len_lfAll (B : Nat) (hB : 8 ≤ B) : ∀ xs : List PyData, lfAll B xs = true → ((PyData.shownAll xs).map (·.length)).sum + 4 * xs.length ≤ (B + 4) * nodesAll xs
  | [], _ => by
    simp only [PyData.shownAll, nodesAll, List.map_nil, List.sum_nil, List.length_nil]
    omega
  | x :: xs, h => by
    have h' : lf B x = true ∧ lfAll B xs = true := by simpa only [lfAll, Bool.and_eq_true] using h
    have h1 := len_lf B hB x h'.1
    have h2 := len_lfAll B hB xs h'.2
    have h3 := Nat.mul_add (B + 4) (nodes x) (nodesAll xs)
    simp only [PyData.shownAll, nodesAll, List.map_cons, List.sum_cons, List.length_cons]
    omega
theorem len_lfKv (B : Nat) (hB : 8 ≤ B) : ∀ kvs : List (PyData × PyData), lfKv B kvs = true → ((PyData.shownKv kvs).map (·.length)).sum + 2 * kvs.length ≤ (B + 4) * nodesKv kvs
  | [], _ => by
    simp only [PyData.shownKv, nodesKv, List.map_nil, List.sum_nil, List.length_nil]
    omega
  | (k, v) :: r, h => by
    have h' : (lf B k = true ∧ lf B v = true) ∧ lfKv B r = true := by simpa only [lfKv, Bool.and_eq_true] using h
    have h1 := len_lf B hB k h'.1.1
    have h2 := len_lf B hB v h'.1.2
    have h3 := len_lfKv B hB r h'.2
    have e2 : (k.shown ++ ": " ++ v.shown).length = k.shown.length + 2 + v.shown.length := by
      rw [strLen_append, strLen_append]
      rfl
    have h5 := Nat.mul_add (B + 4) (nodes k + nodes v) (nodesKv r)
    have h6 := Nat.mul_add (B + 4) (nodes k) (nodes v)
    simp only [PyData.shownKv, nodesKv, List.map_cons, List.sum_cons, List.length_cons]
    rw [e2]
    omega
end
theorem fits_lf {B n : Nat} (hB : 8 ≤ B) {d : PyData} (h : lf B d = true) (hn : nodes d ≤ n) (hz : (B + 4) * n ≤ 16000000) : d.shown.length ≤ sizeLine := by
  have h1 := len_lf B hB d h
  have h2 := Nat.mul_le_mul_left (B + 4) hn
  rw [sizeLine_eq]
  omega
theorem lf_int {i : Int} {k : Nat} (hk : 0 < k) (h : i.natAbs < 10 ^ k) : lf (k + 1) (.int i) = true := by
  simp only [lf, decide_eq_true_eq]
  have e := int_text_length_le10 hk h
  show (Str.ofString (toString i)).length ≤ k + 1
  rw [PySem.ofString_length]
  exact e
theorem lfAll_of {B : Nat} : ∀ {xs : List PyData}, (∀ x ∈ xs, lf B x = true) → lfAll B xs = true
  | [], _ => rfl
  | x :: xs, h => by
    simp only [lfAll, h x (by simp), lfAll_of fun y hy => h y (List.mem_cons_of_mem _ hy), Bool.and_self]
theorem showAll_of : ∀ {xs : List PyData}, (∀ x ∈ xs, x.showable = true) → PyData.showableAll xs = true
  | [], _ => rfl
  | x :: xs, h => by
    simp only [PyData.showableAll, h x (by simp), showAll_of fun y hy => h y (List.mem_cons_of_mem _ hy), Bool.and_self]
theorem nodesAll_of {n : Nat} : ∀ {xs : List PyData}, (∀ x ∈ xs, nodes x ≤ n) → nodesAll xs ≤ n * xs.length
  | [], _ => by simp [nodesAll]
  | x :: xs, h => by
    have h1 := h x (by simp)
    have h2 := nodesAll_of fun y hy => h y (List.mem_cons_of_mem _ hy)
    simp only [nodesAll, List.length_cons, Nat.mul_succ]
    omega
theorem depthAll_of {n : Nat} : ∀ {xs : List PyData}, (∀ x ∈ xs, x.depth ≤ n) → PyData.depthAll xs ≤ n
  | [], _ => by simp [PyData.depthAll]
  | x :: xs, h => by
    have h1 := h x (by simp)
    have h2 := depthAll_of fun y hy => h y (List.mem_cons_of_mem _ hy)
    simp only [PyData.depthAll]
    omega
/-- what repr asks: shown in a few leaves -/
structure Sh (B n k : Nat) (d : PyData) : Prop where
  s : d.showable = true
  l : lf B d = true
  n : nodes d ≤ n
  k : d.depth ≤ k
theorem Sh.fit {B n k : Nat} {d : PyData} (h : Sh B n k d) (hB : 8 ≤ B) (hz : (B + 4) * n ≤ 16000000) : d.shown.length ≤ sizeLine := fits_lf hB h.l h.n hz
theorem Sh.list {B n k m : Nat} {xs : List PyData} (h : ∀ x ∈ xs, Sh B n k x) (hm : xs.length ≤ m) : Sh B (1 + n * m) (k + 1) (.list xs) := by
  refine ⟨?_, ?_, ?_, ?_⟩
  · simp only [PyData.showable, showAll_of fun x hx => (h x hx).s]
  · simp only [lf, lfAll_of fun x hx => (h x hx).l]
  · have h1 := nodesAll_of fun x hx => (h x hx).n
    have h2 := Nat.mul_le_mul_left n hm
    simp only [nodes]
    omega
  · have h1 := depthAll_of fun x hx => (h x hx).k
    simp only [PyData.depth]
    omega
theorem Sh.tuple {B n k m : Nat} {xs : List PyData} (h : ∀ x ∈ xs, Sh B n k x) (hm : xs.length ≤ m) : Sh B (1 + n * m) (k + 1) (.tuple xs) := by
  refine ⟨?_, ?_, ?_, ?_⟩
  · simp only [PyData.showable, showAll_of fun x hx => (h x hx).s]
  · simp only [lf, lfAll_of fun x hx => (h x hx).l]
  · have h1 := nodesAll_of fun x hx => (h x hx).n
    have h2 := Nat.mul_le_mul_left n hm
    simp only [nodes]
    omega
  · have h1 := depthAll_of fun x hx => (h x hx).k
    simp only [PyData.depth]
    omega
theorem Sh.mono {B C n m k j : Nat} {d : PyData} (h : Sh B n k d) (hn : n ≤ m) (hk : k ≤ j) : Sh B m j d := ⟨h.s, h.l, Nat.le_trans h.n hn, Nat.le_trans h.k hk⟩
theorem Sh.int {i : Int} {k : Nat} (hk : 0 < k) (h2 : i.natAbs < 2 ^ 1920) (h : i.natAbs < 10 ^ k) : Sh (k + 1) 1 0 (.int i) := by
  refine ⟨?_, lf_int hk h, by simp only [nodes]; omega, by simp only [PyData.depth]; omega⟩
  simp only [PyData.showable, decide_eq_true_eq]
  by_cases hne : i.natAbs = 0
  · rw [hne]
    decide
  · exact (Nat.log2_lt hne).mpr h2
end Nw
/-! Fillings: what the looks at them answer; lines with numbers, steps, rows of states. -/
namespace Nw
open PySem PySem.Spec PyProof.Rows L2
/-! ### an item of a list, set anew -/
def rGetL (K : PySem.W.Frag) : V → V → Hp → VK → Prop := fun o i H Q => ∃ p xs k v, o = .ref p ∧ i = .int k ∧ 0 ≤ k ∧ SqL K H p xs ∧ xs[k.toNat]? = some v ∧ Q v H
theorem get_list {X : Cx} (K : PySem.W.Frag) (hK : X.K = K := by rfl) : PGet X (rGetL K) := by
  subst hK
  intro pins s σ H o i ov iv Q I ro ri h
  obtain ⟨p, xs, k, v, rfl, rfl, h0, hq, he, q⟩ := h
  cases ro
  obtain ⟨t, rfl⟩ := ri
  obtain ⟨its, r, pl, hz⟩ := I.list hq
  obtain ⟨u, ew, rw'⟩ := r.get he
  have hl := r.length
  have hn := line63
  have hk : k.toNat < xs.length := (List.getElem?_eq_some_iff.mp he).1
  exact wpAny_getItem_list pl.isList h0 (by omega) (by simpa using ew) ⟨v, H, I, rw', q⟩
/-! ### lines with numbers -/
abbrev NL := (Int × Int) × Int
def dNum (l : NL) : PyData := .tuple [.int l.1.1, .int l.1.2, .int l.2]
def stp (vals acc : List Int) (l : NL) : List Int := acc.set l.1.2.toNat (acc.getD l.1.2.toNat 0 + l.2 * vals.getD l.1.1.toNat 0)
def mvs (vals : List Int) (ls : List NL) (acc : List Int) : List Int := ls.foldl (stp vals) acc
theorem mvs_snoc (vals : List Int) (ls : List NL) (acc : List Int) (l : NL) : mvs vals (ls ++ [l]) acc = stp vals (mvs vals ls acc) l := by
  unfold mvs
  rw [List.foldl_append]
  rfl
theorem mvs_app (vals : List Int) (ls ms : List NL) (acc : List Int) : mvs vals (ls ++ ms) acc = mvs vals ms (mvs vals ls acc) := by
  unfold mvs
  rw [List.foldl_append]
theorem mvs_len (vals : List Int) : ∀ (ls : List NL) (acc : List Int), (mvs vals ls acc).length = acc.length
  | [], _ => rfl
  | l :: ls, acc => by
    show (mvs vals ls (stp vals acc l)).length = acc.length
    rw [mvs_len vals ls]
    unfold stp
    rw [List.length_set]
def mv (n : Nat) (ls : List NL) (vals : List Int) : List Int := mvs vals ls (List.replicate n 0)
theorem mv_len {n : Nat} {ls : List NL} {vals : List Int} : (mv n ls vals).length = n := by
  unfold mv
  rw [mvs_len, List.length_replicate]
def Bd (M x : Int) : Prop := -M ≤ x ∧ x ≤ M
theorem Bd.mono {M N x : Int} (h : Bd M x) (l : M ≤ N) : Bd N x := ⟨by have := h.1; omega, by have := h.2; omega⟩
theorem bd_mul {M a b : Int} (ha : Bd 1000000 a) (hb : Bd M b) (hM : 0 ≤ M) : Bd (1000000 * M) (a * b) := by
  have h1 : a.natAbs ≤ 1000000 := by have := ha.1; have := ha.2; omega
  have h2 : b.natAbs ≤ M.toNat := by have := hb.1; have := hb.2; omega
  have h3 := Nat.mul_le_mul h1 h2
  rw [← Int.natAbs_mul] at h3
  have e : ((1000000 * M.toNat : Nat) : Int) = 1000000 * M := by omega
  unfold Bd
  omega
theorem mvs_bd {vals : List Int} {M : Int} (hM : 0 ≤ M) (hv : ∀ v ∈ vals, Bd M v) : ∀ (ls : List NL) (acc : List Int) (A : Int), 0 ≤ A → (∀ l ∈ ls, Bd 1000000 l.2) → (∀ a ∈ acc, Bd A a) →
    ∀ a ∈ mvs vals ls acc, Bd (A + ls.length * (1000000 * M)) a
  | [], acc, A, hA, _, ha => fun a h => (ha a h).mono (by simp only [List.length_nil]; omega)
  | l :: ls, acc, A, hA, hl, ha => by
    have key : ∀ a ∈ stp vals acc l, Bd (A + 1000000 * M) a := by
      intro a h
      unfold stp at h
      rcases List.mem_or_eq_of_mem_set h with h | rfl
      · exact (ha a h).mono (by omega)
      · have h1 : Bd A (acc.getD l.1.2.toNat 0) := by
          rw [List.getD_eq_getElem?_getD]
          cases e : acc[l.1.2.toNat]? with
          | none => exact ⟨by simp only [Option.getD_none]; omega, by simp only [Option.getD_none]; omega⟩
          | some x => exact ha x (List.mem_of_getElem? e)
        have h2 : Bd M (vals.getD l.1.1.toNat 0) := by
          rw [List.getD_eq_getElem?_getD]
          cases e : vals[l.1.1.toNat]? with
          | none => exact ⟨by simp only [Option.getD_none]; omega, by simp only [Option.getD_none]; omega⟩
          | some x => exact hv x (List.mem_of_getElem? e)
        have h3 := bd_mul (hl l (by simp)) h2 hM
        have := h1.1
        have := h1.2
        have := h3.1
        have := h3.2
        unfold Bd
        omega
    have ih := mvs_bd hM hv ls (stp vals acc l) (A + 1000000 * M) (by omega) (fun x hx => hl x (List.mem_cons_of_mem _ hx)) key
    intro a h
    refine (ih a h).mono ?_
    rw [List.length_cons]
    have e : ((ls.length + 1 : Nat) : Int) * (1000000 * M) = ls.length * (1000000 * M) + 1000000 * M := by
      rw [Int.natCast_add, Int.add_mul]
      omega
    omega
/-! ### fillings -/
structure Fl where
  xs : List Int
  ss : List (List Int)
  deriving DecidableEq
def Fl.d (f : Fl) : PyData := .tuple [dInts f.xs, dRows f.ss]
def NumOk (x : Int) : Prop := x ≠ 0 ∧ Bd 1000000 x
structure Fl.Ok (u : Wb) (f : Fl) : Prop where
  len : f.xs.length = u.ps.length
  num : ∀ x ∈ f.xs, NumOk x
  rows : f.ss.map List.length = u.ns.map List.length
  rnum : ∀ r ∈ f.ss, ∀ x ∈ r, NumOk x
theorem Fl.Ok.slen {u : Wb} {f : Fl} (h : f.Ok u) : f.ss.length = u.ns.length := by
  have e := congrArg List.length h.rows
  rw [List.length_map, List.length_map] at e
  exact e
theorem Fl.Ok.rlen {u : Wb} {f : Fl} (h : f.Ok u) {k : Nat} {r s : List Int} (hr : f.ss[k]? = some r) (hs : u.ns[k]? = some s) : r.length = s.length := by
  have e := congrArg (fun l => l[k]?) h.rows
  simp only [List.getElem?_map, hr, hs, Option.map_some] at e
  exact Option.some.inj e
/-- what the looks answer -/
def intsB : PyData → Int → Bool
  | .list ds, m => decide ((ds.length : Int) = m) && ds.all isInt
  | _, _ => false
def rowsB : PyData → Int → Bool
  | .list ds, m => decide (ds.length ≤ 60) && ds.all fun d => intsB d m
  | _, _ => false
def noB : PyData → Bool
  | .int i => decide (i ≠ 0) && decide ((if i < 0 then -i else i) ≤ 1000000)
  | _ => false
def lineB : PyData → Int → Bool
  | .list ds, m => intsB (.list ds) m && ds.all noB
  | _, _ => false
def fillB (u : Wb) : PyData → Bool
  | .tuple [a, .list rs] => lineB a u.ps.length && (decide (rs.length = u.ns.length) && (rs.zip u.ns).all fun p => lineB p.1 p.2.length)
  | _ => false
theorem intsB_of {r : List Int} {m : Int} (h : (r.length : Int) = m) : intsB (dInts r) m = true := by
  unfold dInts intsB
  simp only [List.length_map, h, decide_true, Bool.true_and, List.all_map, List.all_eq_true]
  intro x _
  rfl
theorem rowsB_of {rs : List (List Int)} {m : Int} (h : ∀ r ∈ rs, (r.length : Int) = m) (h2 : rs.length ≤ 60) : rowsB (dRows rs) m = true := by
  unfold dRows rowsB
  simp only [List.length_map, h2, decide_true, Bool.true_and, List.all_map, List.all_eq_true]
  intro x hx
  exact intsB_of (h x hx)
theorem lineB_of {r : List Int} {m : Int} (h : (r.length : Int) = m) (h2 : ∀ x ∈ r, NumOk x) : lineB (dInts r) m = true := by
  have h3 := intsB_of h
  unfold dInts at h3 ⊢
  unfold lineB
  simp only [h3, Bool.true_and, List.all_map, List.all_eq_true]
  intro x hx
  have h4 := h2 x hx
  have h5 := h4.2.1
  have h6 := h4.2.2
  simp only [Function.comp, noB, decide_eq_true h4.1, Bool.true_and, decide_eq_true_eq]
  split <;> omega
theorem zip_all {α β : Type} {p : α × β → Bool} {as : List α} {bs : List β} (h : ∀ (k : Nat) (a : α) (b : β), as[k]? = some a → bs[k]? = some b → p (a, b) = true) : (as.zip bs).all p = true := by
  rw [List.all_eq_true]
  rintro ⟨a, b⟩ hx
  obtain ⟨k, hk⟩ := List.mem_iff_getElem?.mp hx
  rw [List.getElem?_zip_eq_some] at hk
  exact h k a b hk.1 hk.2
theorem Fl.Ok.fill {u : Wb} {f : Fl} (h : f.Ok u) : fillB u f.d = true := by
  have h1 := lineB_of (m := u.ps.length) (by rw [h.len]) h.num
  unfold Fl.d dRows fillB
  simp only [h1, List.length_map, h.slen, decide_true, Bool.true_and]
  refine zip_all fun k a b ha hb => ?_
  obtain ⟨r, hr, rfl⟩ := map_at ha
  exact lineB_of (by rw [h.rlen hr hb]) (h.rnum r (List.mem_of_getElem? hr))
/-- a filling as it stands -/
theorem Fl.at {K : PySem.W.Frag} {H : Hp} {f : Fl} {v : V} (h : Da K H f.d v) : ∃ t x1 x2, v = .ref t ∧ SqT K H t [x1, x2] ∧ Da K H (dInts f.xs) x1 ∧ Da K H (dRows f.ss) x2 := by
  obtain ⟨t, xs, rfl, hS, x1, r1, rfl, g1, x2, r2, rfl, g2, rfl⟩ := h
  exact ⟨t, x1, x2, rfl, .inl (.inl hS), g1, g2⟩
/-! ### the numbered lines -/
def Fl.nums (f : Fl) : List Int := f.xs ++ f.ss.flatten
def nl (u : Wb) (f : Fl) : List NL := u.lines.zip f.nums
def blkAt (n : Int) (i : Nat) (r s : List Int) : List NL := (pushedAt n i r).zip s
def nlFrom (n : Int) : Nat → List (List Int) → List (List Int) → List NL
  | i, r :: rs, s :: ss => blkAt n i r s ++ nlFrom n (i + 1) rs ss
  | _, _, _ => []
theorem zip_pushed (n : Int) : ∀ (rs ss : List (List Int)) (i : Nat), ss.map List.length = rs.map List.length → (pushedFrom n i rs).zip ss.flatten = nlFrom n i rs ss
  | [], ss, i, _ => by simp [pushedFrom, nlFrom]
  | r :: rs, [], i, h => by simp at h
  | r :: rs, s :: ss, i, h => by
    simp only [List.map_cons, List.cons.injEq] at h
    simp only [pushedFrom, nlFrom, List.flatten_cons]
    rw [List.zip_append (by simp only [pushedAt, List.length_map]; exact h.1.symm), zip_pushed n rs ss (i + 1) h.2]
    rfl
theorem Fl.Ok.nl {u : Wb} {f : Fl} (h : f.Ok u) : nl u f = u.ps.zip f.xs ++ nlFrom u.n 0 u.ns f.ss := by
  unfold Nw.nl Wb.lines Fl.nums
  rw [List.zip_append h.len.symm, zip_pushed u.n u.ns f.ss 0 h.rows]
theorem nlFrom_take (n : Int) : ∀ (rs ss : List (List Int)) (i k : Nat) (r s : List Int), rs[k]? = some r → ss[k]? = some s →
    nlFrom n i (rs.take (k + 1)) ss = nlFrom n i (rs.take k) ss ++ blkAt n (i + k) r s
  | [], _, _, _, _, _, h, _ => by simp at h
  | _ :: _, [], _, _, _, _, _, h => by simp at h
  | a :: rs, b :: ss, i, 0, r, s, h, g => by
    obtain rfl : a = r := by simpa using h
    obtain rfl : b = s := by simpa using g
    simp [nlFrom]
  | a :: rs, b :: ss, i, k + 1, r, s, h, g => by
    have ih := nlFrom_take n rs ss (i + 1) k r s (by simpa using h) (by simpa using g)
    simp only [List.take_succ_cons, nlFrom]
    rw [ih, List.append_assoc, show i + 1 + k = i + (k + 1) by omega]
theorem nums_len {f : Fl} : f.nums.length = f.xs.length + (f.ss.map List.length).sum := by
  unfold Fl.nums
  rw [List.length_append, List.length_flatten]
theorem pushed_sum (n : Int) : ∀ (rs : List (List Int)) (i : Nat), (pushedFrom n i rs).length = (rs.map List.length).sum
  | [], _ => rfl
  | r :: rs, i => by
    simp only [pushedFrom, List.length_append, pushedAt, List.length_map, List.map_cons, List.sum_cons, pushed_sum n rs (i + 1)]
theorem Fl.Ok.nlen {u : Wb} {f : Fl} (h : f.Ok u) : f.nums.length = u.lines.length := by
  rw [nums_len, h.rows, h.len]
  unfold Wb.lines
  rw [List.length_append, pushed_sum]
theorem Fl.Ok.bd {u : Wb} {f : Fl} (h : f.Ok u) : ∀ x ∈ f.nums, NumOk x := by
  intro x hx
  rcases List.mem_append.mp hx with hx | hx
  · exact h.num x hx
  · obtain ⟨r, hr, hx⟩ := List.mem_flatten.mp hx
    exact h.rnum r hr x hx
theorem Fl.Ok.line {u : Wb} {f : Fl} (h : f.Ok u) (hu : u.Ok) : ∀ l ∈ Nw.nl u f, ((0 ≤ l.1.1 ∧ l.1.1 < u.n + (u.ns.length : Int)) ∧ (0 ≤ l.1.2 ∧ l.1.2 < u.n)) ∧ Bd 1000000 l.2 := by
  rintro ⟨a, b⟩ hl
  have h1 := List.of_mem_zip hl
  exact ⟨hu.line a h1.1, (h.bd b h1.2).2⟩
theorem Fl.Ok.nl_len {u : Wb} {f : Fl} (h : f.Ok u) (hu : u.Ok) : (Nw.nl u f).length ≤ 1500 := by
  unfold Nw.nl
  rw [List.length_zip]
  have := hu.lines_len
  omega
/-! ### rows of states -/
def rn (n : Nat) (ls : List NL) (st : List Int) (rows : List (List Int)) : List (List Int) := rows.foldl (fun acc g => acc ++ [mv n ls (acc.getLastD [] ++ g)]) [st]
theorem rn_snoc (n : Nat) (ls : List NL) (st : List Int) (rows : List (List Int)) (g : List Int) : rn n ls st (rows ++ [g]) = rn n ls st rows ++ [mv n ls ((rn n ls st rows).getLastD [] ++ g)] := by
  unfold rn
  rw [List.foldl_append]
  rfl
theorem rn_len (n : Nat) (ls : List NL) (st : List Int) (rows : List (List Int)) : ∀ k, k ≤ rows.length → (rn n ls st (rows.take k)).length = k + 1
  | 0, _ => by simp [rn]
  | k + 1, h => by
    have hk : k < rows.length := h
    rw [take_snoc (List.getElem?_eq_getElem hk), rn_snoc, List.length_append, rn_len n ls st rows k (by omega)]
    rfl
theorem getLastD_mem {α : Type} : ∀ {l : List α} {d : α}, l ≠ [] → l.getLastD d ∈ l
  | [], _, h => (h rfl).elim
  | [a], _, _ => by simp [List.getLastD]
  | a :: b :: s, d, _ => by
    rw [List.getLastD_cons]
    exact List.mem_cons_of_mem _ (getLastD_mem (l := b :: s) (by simp))
/-- how great the numbers of states grow -/
theorem rn_bd {n : Nat} {ls : List NL} {st : List Int} {rows : List (List Int)} {M : Int} (hM : 0 ≤ M) (hst : ∀ x ∈ st, Bd M x) (hr : ∀ r ∈ rows, ∀ x ∈ r, Bd M x) (hl : ∀ l ∈ ls, Bd 1000000 l.2) (hz : ls.length ≤ 1500) :
    ∀ k, k ≤ rows.length → ∀ s ∈ rn n ls st (rows.take k), ∀ x ∈ s, Bd (M * 1500000000 ^ k) x
  | 0, _, s, hs, x, hx => by
    obtain rfl : s = st := by simpa [rn] using hs
    simpa using hst x hx
  | k + 1, h, s, hs, x, hx => by
    have hk : k < rows.length := h
    have p1 : (1 : Int) ≤ 1500000000 ^ k := by
      have := Int.pow_pos (n := 1500000000) (m := k) (by decide)
      omega
    have p2 : M ≤ M * 1500000000 ^ k := by
      have := Int.mul_le_mul_of_nonneg_left p1 hM
      omega
    have p3 : M * 1500000000 ^ (k + 1) = 1500000000 * (M * 1500000000 ^ k) := by
      rw [Int.pow_succ, ← Int.mul_assoc, Int.mul_comm]
    have p4 : 0 ≤ M * 1500000000 ^ k := by omega
    have ih := rn_bd (n := n) hM hst hr hl hz k (by omega)
    rw [take_snoc (List.getElem?_eq_getElem hk), rn_snoc] at hs
    rw [p3]
    rcases List.mem_append.mp hs with hs | hs
    · exact (ih s hs x hx).mono (by omega)
    · obtain rfl := List.mem_singleton.mp hs
      have h1 := mvs_bd (vals := (rn n ls st (rows.take k)).getLastD [] ++ rows[k]) (M := M * 1500000000 ^ k) p4 (by
        intro v hv
        rcases List.mem_append.mp hv with hv | hv
        · refine ih _ (getLastD_mem ?_) v hv
          intro e
          have := rn_len n ls st rows k (by omega)
          rw [e] at this
          simp at this
        · exact (hr _ (List.getElem_mem hk) v hv).mono p2) ls (List.replicate n 0) 0 (by decide) hl (by
        intro a ha
        obtain ⟨_, rfl⟩ := List.mem_replicate.mp ha
        exact ⟨by decide, by decide⟩)
      refine (h1 x hx).mono ?_
      have h2 : (ls.length : Int) * (1000000 * (M * 1500000000 ^ k)) ≤ 1500 * (1000000 * (M * 1500000000 ^ k)) := Int.mul_le_mul_of_nonneg_right (by omega) (by omega)
      omega
theorem ixN_int {n : Nat} {k : Int} (h0 : 0 ≤ k) (h : k < n) : ixN n k = some k.toNat := by
  unfold ixN
  rw [if_pos h0, if_pos h]
theorem rep_int (m : Nat) : (List.replicate m [V.int 0]).flatten = (List.replicate m (0 : Int)).map V.int := by
  induction m with
  | zero => rfl
  | succ m ih =>
    rw [List.replicate_succ, List.flatten_cons, ih]
    rfl
theorem last_row {α : Type} : ∀ {ns : List α} {n : Nat} {r d : α}, ns[n]? = some r → ns.length = n + 1 → ns.getLastD d = r
  | [], _, _, _, h, _ => by simp at h
  | [a], 0, r, d, h, _ => by simpa [List.getLastD] using h
  | [a], n + 1, r, d, h, g => by simp at h
  | a :: b :: s, 0, r, d, h, g => by simp at g
  | a :: b :: s, n + 1, r, d, h, g => by
    rw [List.getLastD_cons]
    exact last_row (ns := b :: s) (n := n) (by simpa using h) (by simpa using g)
theorem stp_at {vals acc : List Int} {l : NL} {x y : Int} (hx : acc[l.1.2.toNat]? = some x) (hy : vals[l.1.1.toNat]? = some y) : (acc.map V.int).set l.1.2.toNat (V.int (x + l.2 * y)) = (stp vals acc l).map V.int := by
  unfold stp
  rw [List.getD_eq_getElem?_getD, hx, List.getD_eq_getElem?_getD, hy, List.map_set]
  rfl
theorem flat_take {α : Type} {ss : List (List α)} {i : Nat} {r : List α} (h : ss[i]? = some r) : (ss.take (i + 1)).flatten = (ss.take i).flatten ++ r := by
  rw [take_snoc h, List.flatten_append]
  simp
theorem flat_len {α : Type} {ss : List (List α)} {i : Nat} : ((ss.take i).flatten).length ≤ ss.flatten.length := by
  have h : ss.flatten = (ss.take i).flatten ++ (ss.drop i).flatten := by rw [← List.flatten_append, List.take_append_drop]
  rw [h, List.length_append]
  omega
theorem row_len_flat {α : Type} {ss : List (List α)} {r : List α} (h : r ∈ ss) : r.length ≤ ss.flatten.length := by
  obtain ⟨i, hi⟩ := List.mem_iff_getElem?.mp h
  have h1 := flat_len (ss := ss) (i := i + 1)
  rw [flat_take hi, List.length_append] at h1
  omega
theorem dNum_of {K : PySem.W.Frag} {H : Hp} {l : NL} {a : Addr} (h : H a = some (.tup [.int l.1.1, .int l.1.2, .int l.2])) : Da K H (dNum l) (.ref a) :=
  ⟨a, _, rfl, h, _, _, rfl, rfl, _, _, rfl, rfl, _, _, rfl, rfl, rfl⟩
theorem nums_at {K : PySem.W.Frag} {H : Hp} {ls : List NL} {xs : List V} {i : Nat} {x : V} (h : DaAll K H (ls.map dNum) xs) (hx : xs[i]? = some x) :
    ∃ l, ls[i]? = some l ∧ ∃ a, x = .ref a ∧ SqT K H a [.int l.1.1, .int l.1.2, .int l.2] := by
  obtain ⟨d, hd, hdx⟩ := h.at' hx
  obtain ⟨p, hp, rfl⟩ := map_at hd
  obtain ⟨a, ys, rfl, hS, z1, r1, rfl, e1, z2, r2, rfl, e2, z3, r3, rfl, e3, rfl⟩ := hdx
  obtain rfl := e1
  obtain rfl := e2
  obtain rfl := e3
  exact ⟨p, hp, a, rfl, .inl (.inl hS)⟩
end Nw
/-! Fillings, states and rows of states shown. -/
namespace Nw
open PySem PySem.Spec PyProof.Rows L2
theorem rn_rows {n : Nat} {ls : List NL} {st : List Int} {rows : List (List Int)} (h : st.length = n) : ∀ k, k ≤ rows.length → ∀ z ∈ rn n ls st (rows.take k), z.length = n
  | 0, _, z, hz => by
    obtain rfl : z = st := by simpa [rn] using hz
    exact h
  | k + 1, hk, z, hz => by
    rw [take_snoc (List.getElem?_eq_getElem (show k < rows.length from hk)), rn_snoc] at hz
    rcases List.mem_append.mp hz with hz | hz
    · exact rn_rows h k (by omega) z hz
    · obtain rfl := List.mem_singleton.mp hz
      exact mv_len
theorem NewR.da {K : PySem.W.Frag} {H H' : Hp} {ns : List (List Int)} {L : Addr} {bs : List Addr} (h : NewR H H' ns L bs) (h1 : ∀ r ∈ ns, r.length ≤ 100000) (h2 : ns.length ≤ 100000) : Da K H' (dRows ns) (.ref L) := by
  refine ⟨L, _, rfl, h.at_, rows_of h.len fun k b hb => ?_, by rw [List.length_map]; exact h2⟩
  obtain ⟨_, r, e, g⟩ := h.row k b hb
  exact ⟨r, e, g, h1 r (List.mem_of_getElem? e)⟩
theorem lay_fl (f : Fl) : f.d.canLay0 = true := by simp [Fl.d, PyData.canLay0, PyData.canLayAll0, lay_dInts, lay_dRows]
theorem Sh.ints {r : List Int} {k m : Nat} (hk : 0 < k) (h2 : ∀ x ∈ r, x.natAbs < 2 ^ 1920) (h : ∀ x ∈ r, x.natAbs < 10 ^ k) (hm : r.length ≤ m) : Sh (k + 1) (1 + m) 1 (dInts r) := by
  have e : Sh (k + 1) (1 + 1 * m) (0 + 1) (dInts r) := Sh.list (fun x hx => by
    obtain ⟨y, hy, rfl⟩ := List.mem_map.mp hx
    exact Sh.int hk (h2 y hy) (h y hy)) (by rw [List.length_map]; exact hm)
  exact ⟨e.s, e.l, by have := e.n; omega, e.k⟩
theorem Sh.rows {rs : List (List Int)} {k m j : Nat} (hk : 0 < k) (h2 : ∀ r ∈ rs, ∀ x ∈ r, x.natAbs < 2 ^ 1920) (h : ∀ r ∈ rs, ∀ x ∈ r, x.natAbs < 10 ^ k) (hm : ∀ r ∈ rs, r.length ≤ m) (hj : rs.length ≤ j) :
    Sh (k + 1) (1 + (1 + m) * j) 2 (dRows rs) := Sh.list (fun x hx => by
  obtain ⟨y, hy, rfl⟩ := List.mem_map.mp hx
  exact Sh.ints hk (h2 y hy) (h y hy) (hm y hy)) (by rw [List.length_map]; exact hj)
theorem p1920 : (2 : Nat) ^ 1920 < 10 ^ 580 := by decide +kernel
theorem p40_1920 : (10 : Nat) ^ 40 < 2 ^ 1920 := by decide +kernel
theorem p40 : (10 : Nat) ^ 40 = 10000000000000000000000000000000000000000 := by decide +kernel
theorem small40 {x : Int} (h : x.natAbs < 10000000000000000000000000000000000000000) : x.natAbs < 2 ^ 1920 ∧ x.natAbs < 10 ^ 40 := by
  have h1 : x.natAbs < 10 ^ 40 := by
    rw [p40]
    exact h
  exact ⟨Nat.lt_trans h1 p40_1920, h1⟩
theorem sm_40 {x : Int} (h : Sm x) : x.natAbs < 10000000000000000000000000000000000000000 := by
  have := h.1
  have := h.2
  omega
theorem Sh.pair {p : Int × Int} (h1 : Sm p.1) (h2 : Sm p.2) : Sh 41 3 1 (dPair p) := by
  have e : Sh 41 (1 + 1 * 2) (0 + 1) (dPair p) := Sh.tuple (fun x hx => by
    rcases List.mem_cons.mp hx with rfl | hx
    · exact Sh.int (k := 40) (by decide) (small40 (sm_40 h1)).1 (small40 (sm_40 h1)).2
    · obtain rfl := List.mem_singleton.mp hx
      exact Sh.int (k := 40) (by decide) (small40 (sm_40 h2)).1 (small40 (sm_40 h2)).2) (Nat.le_refl 2)
  exact e
theorem Sh.wide {B n k m j : Nat} {d : PyData} (h : Sh B n k d) (hn : n ≤ m) (hk : k ≤ j) : Sh B m j d := ⟨h.s, h.l, Nat.le_trans h.n hn, Nat.le_trans h.k hk⟩
theorem Wb.Ok.sh {u : Wb} (hu : u.Ok) : Sh 41 12000 3 u.d := by
  have b1 := hu.lo
  have b2 := hu.hi
  have e : Sh 41 (1 + 3901 * 3) (2 + 1) u.d := Sh.tuple (fun x hx => by
    rcases List.mem_cons.mp hx with rfl | hx
    · exact (Sh.int (k := 40) (by decide) (small40 (by omega)).1 (small40 (by omega)).2).wide (by decide) (by decide)
    rcases List.mem_cons.mp hx with rfl | hx
    · have e : Sh 41 (1 + 3 * 1300) (1 + 1) (dPairs u.ps) := Sh.list (fun x hx => by
        obtain ⟨y, hy, rfl⟩ := List.mem_map.mp hx
        have := hu.ps y hy
        exact Sh.pair ⟨this.1.1, by omega⟩ ⟨this.2.1, by omega⟩) (by rw [List.length_map]; exact hu.len)
      exact e
    · obtain rfl := List.mem_singleton.mp hx
      have hs : ∀ r ∈ u.ns, ∀ x ∈ r, x.natAbs < 10000000000000000000000000000000000000000 := by
        intro r hr x hx
        have := (hu.ns r hr).2.1 x hx
        omega
      exact (Sh.rows (k := 40) (m := 20) (j := 8) (by decide) (fun r hr x hx => (small40 (hs r hr x hx)).1) (fun r hr x hx => (small40 (hs r hr x hx)).2) (fun r hr => hu.row hr) hu.few).wide (by decide) (by decide)) (Nat.le_refl 3)
  exact e.wide (by decide) (by decide)
theorem Fl.Ok.sh {u : Wb} {f : Fl} (hu : u.Ok) (h : f.Ok u) : Sh 41 12000 3 f.d := by
  have b1 := hu.len
  have b2 := hu.few
  have hn : ∀ x : Int, NumOk x → x.natAbs < 10000000000000000000000000000000000000000 := by
    intro x hx
    have := hx.2.1
    have := hx.2.2
    omega
  have e : Sh 41 (1 + 1301 * 2) (2 + 1) f.d := Sh.tuple (fun x hx => by
    rcases List.mem_cons.mp hx with rfl | hx
    · exact (Sh.ints (k := 40) (m := 1300) (by decide) (fun x hx => (small40 (hn x (h.num x hx))).1) (fun x hx => (small40 (hn x (h.num x hx))).2) (by rw [h.len]; exact b1)).wide (by decide) (by decide)
    · obtain rfl := List.mem_singleton.mp hx
      refine (Sh.rows (k := 40) (m := 20) (j := 8) (by decide) (fun r hr x hx => (small40 (hn x (h.rnum r hr x hx))).1) (fun r hr x hx => (small40 (hn x (h.rnum r hr x hx))).2) (fun r hr => ?_) (by rw [h.slen]; exact b2)).wide (by decide) (by decide)
      obtain ⟨k, hk⟩ := List.mem_iff_getElem?.mp hr
      have hk2 : k < u.ns.length := by
        rw [← h.slen]
        exact (List.getElem?_eq_some_iff.mp hk).1
      rw [h.rlen hk (List.getElem?_eq_getElem hk2)]
      exact hu.row (List.getElem_mem hk2)) (Nat.le_refl 2)
  exact e.wide (by decide) (by decide)
/-- what repr asks of data that stands -/
theorem repr_of {K : PySem.W.Frag} {H : Hp} {d : PyData} {v : V} {B n k : Nat} (hd : Da K H d v) (hn : d.hasDict = false) (h : Sh B n k d) (hB : 8 ≤ B) (hz : (B + 4) * n ≤ 16000000) (hk : k ≤ 60) :
    Dp K H v d ∧ d.showable = true ∧ d.shown.length ≤ sizeLine ∧ d.depth ≤ 60 := ⟨hd.dp _ _ hn, h.s, h.fit hB hz, Nat.le_trans h.k hk⟩
theorem bd_abs {M x : Int} {N : Nat} (h : Bd M x) (hM : M.toNat < N) (h0 : 0 ≤ M) : x.natAbs < N := by
  have := h.1
  have := h.2
  omega
theorem pow1500 {w : Int} {k : Nat} (h0 : 0 ≤ w) {n : Nat} (hk : k ≤ n) : w * 1500000000 ^ k ≤ w * 1500000000 ^ n := by
  refine Int.mul_le_mul_of_nonneg_left ?_ h0
  have h1 : (1500000000 : Nat) ^ k ≤ 1500000000 ^ n := Nat.pow_le_pow_right (by decide) hk
  have h2 := Int.ofNat_le.mpr h1
  rw [Int.natCast_pow, Int.natCast_pow] at h2
  exact h2
end Nw
namespace Nw
open PySem PySem.Spec PyProof.Rows L2
theorem rn_pre {n : Nat} {ls : List NL} {st : List Int} {rows : List (List Int)} {k i : Nat} (hi : i ≤ k) : ∀ j, k ≤ j → j ≤ rows.length → (rn n ls st (rows.take j))[i]? = (rn n ls st (rows.take k))[i]?
  | 0, h, _ => by
    obtain rfl : k = 0 := by omega
    rfl
  | j + 1, h, hj => by
    by_cases e : k = j + 1
    · rw [e]
    · rw [take_snoc (List.getElem?_eq_getElem (show j < rows.length from hj)), rn_snoc, List.getElem?_append_left, rn_pre hi j (by omega) (by omega)]
      rw [rn_len n ls st rows j (by omega)]
      omega
theorem rn_one {n : Nat} {ls : List NL} {st r : List Int} {rows : List (List Int)} (h : rows[0]? = some r) : (rn n ls st rows)[1]? = some (mv n ls (st ++ r)) := by
  have hl : 0 < rows.length := (List.getElem?_eq_some_iff.mp h).1
  have e := rn_pre (n := n) (ls := ls) (st := st) (rows := rows) (k := 1) (i := 1) (by decide) rows.length (by omega) (by omega)
  rw [List.take_length] at e
  rw [e, show rows.take 1 = rows.take (0 + 1) from rfl, take_snoc h]
  rfl
theorem p6 : (10 : Int) ^ Int.toNat 6 = 1000000 := by decide +kernel
theorem p29 : (10 : Int) ^ Int.toNat 29 = 100000000000000000000000000000 := by decide +kernel
end Nw
/-! Any data of bounded size: put together, cut, looked up. -/
namespace Nw
open PySem PySem.Spec PyProof.Rows L2
def rTupQ (K : PySem.W.Frag) : List V → Hp → VK → Prop := fun xs H Q => ∃ p ys, xs = [.ref p] ∧ ((SqL K H p ys ∧ ∀ l, H l = none → Q (.ref l) (upd H l (.tup ys))) ∨ (SqT K H p ys ∧ Q (.ref p) H))
theorem call_tupleK {X : Cx} (K : PySem.W.Frag) (hK : X.K = K := by rfl) : CallR X (.type "tuple") (rTupQ K) := by
  subst hK
  exact call_tuple_of
def shB (n k : Nat) (d : PyData) : Bool := d.showable && (lf 41 d && (decide (nodes d ≤ n) && decide (d.depth ≤ k)))
theorem shB_sh {n k : Nat} {d : PyData} (h : shB n k d = true) : Sh 41 n k d := by
  simp only [shB, Bool.and_eq_true, decide_eq_true_eq] at h
  exact ⟨h.1, h.2.1, h.2.2.1, h.2.2.2⟩
theorem sh_all {n k : Nat} {ds : List PyData} (h : ds.all (shB n k) = true) : ∀ x ∈ ds, Sh 41 n k x := fun x hx => shB_sh (List.all_eq_true.mp h x hx)
section
variable {K : PySem.W.Frag} {H H' : Hp} {n k m j : Nat}
/-- some data of so many nodes, so deep -/
def Gd (K : PySem.W.Frag) (H : Hp) (n k : Nat) (v : V) : Prop := ∃ d, Da K H d v ∧ Sh 41 n k d
def GdAll (K : PySem.W.Frag) (H : Hp) (n k : Nat) (vs : List V) : Prop := ∃ ds, DaAll K H ds vs ∧ ∀ x ∈ ds, Sh 41 n k x
theorem Gd.up {v : V} (h : Gd K H n k v) (e : Ex H H') : Gd K H' n k v := by
  obtain ⟨d, h1, h2⟩ := h
  exact ⟨d, h1.up e, h2⟩
theorem GdAll.up {vs : List V} (h : GdAll K H n k vs) (e : Ex H H') : GdAll K H' n k vs := by
  obtain ⟨d, h1, h2⟩ := h
  exact ⟨d, h1.up e, h2⟩
theorem Gd.wide {v : V} (h : Gd K H n k v) (hn : n ≤ m) (hk : k ≤ j) : Gd K H m j v := by
  obtain ⟨d, h1, h2⟩ := h
  exact ⟨d, h1, h2.wide hn hk⟩
theorem GdAll.wide {vs : List V} (h : GdAll K H n k vs) (hn : n ≤ m) (hk : k ≤ j) : GdAll K H m j vs := by
  obtain ⟨d, h1, h2⟩ := h
  exact ⟨d, h1, fun x hx => (h2 x hx).wide hn hk⟩
theorem GdAll.nil : GdAll K H n k [] := ⟨[], rfl, fun x hx => by cases hx⟩
theorem GdAll.cons {v : V} {vs : List V} (h : Gd K H n k v) (t : GdAll K H n k vs) : GdAll K H n k (v :: vs) := by
  obtain ⟨d, h1, h2⟩ := h
  obtain ⟨ds, t1, t2⟩ := t
  refine ⟨d :: ds, ⟨_, _, rfl, h1, t1⟩, fun x hx => ?_⟩
  rcases List.mem_cons.mp hx with rfl | hx
  · exact h2
  · exact t2 x hx
theorem GdAll.at {vs : List V} {i : Nat} {x : V} (h : GdAll K H n k vs) (hx : vs[i]? = some x) : Gd K H n k x := by
  obtain ⟨ds, h1, h2⟩ := h
  obtain ⟨d, hd, hdx⟩ := h1.at' hx
  exact ⟨d, hdx, h2 d (List.mem_of_getElem? hd)⟩
theorem GdAll.app {vs ws : List V} (h : GdAll K H n k vs) (g : GdAll K H n k ws) : GdAll K H n k (vs ++ ws) := by
  obtain ⟨ds, h1, h2⟩ := h
  obtain ⟨es, g1, g2⟩ := g
  refine ⟨ds ++ es, h1.app g1, fun x hx => ?_⟩
  rcases List.mem_append.mp hx with hx | hx
  · exact h2 x hx
  · exact g2 x hx
theorem DaAll.of_mem : ∀ {ds : List PyData} {vs ws : List V}, DaAll K H ds vs → (∀ x ∈ ws, x ∈ vs) → ∃ es, DaAll K H es ws ∧ ∀ e ∈ es, e ∈ ds
  | ds, vs, [], _, _ => ⟨[], rfl, fun e he => by cases he⟩
  | ds, vs, w :: ws, h, hm => by
    obtain ⟨es, h1, h2⟩ := DaAll.of_mem h (ws := ws) fun x hx => hm x (List.mem_cons_of_mem _ hx)
    obtain ⟨d, hd, hdw⟩ := h.mem w (hm w (by simp))
    refine ⟨d :: es, ⟨_, _, rfl, hdw, h1⟩, fun e he => ?_⟩
    rcases List.mem_cons.mp he with rfl | he
    · exact hd
    · exact h2 e he
theorem GdAll.sub {vs ws : List V} (h : GdAll K H n k vs) (hm : ∀ x ∈ ws, x ∈ vs) : GdAll K H n k ws := by
  obtain ⟨ds, h1, h2⟩ := h
  obtain ⟨es, g1, g2⟩ := DaAll.of_mem h1 hm
  exact ⟨es, g1, fun x hx => h2 x (g2 x hx)⟩
theorem GdAll.cut {vs : List V} {lo hi : Option Int} (h : GdAll K H n k vs) : GdAll K H n k (cutV vs lo hi) := h.sub fun x hx => List.mem_of_mem_drop (List.mem_of_mem_take hx)
theorem GdAll.rev {vs : List V} (h : GdAll K H n k vs) : GdAll K H n k vs.reverse := h.sub fun x hx => List.mem_reverse.mp hx
theorem Gd.list {a : Addr} {vs : List V} (h : H a = some (.lst vs)) (g : GdAll K H n k vs) (hl : vs.length ≤ m) (hm : m ≤ 100000) : Gd K H (1 + n * m) (k + 1) (.ref a) := by
  obtain ⟨ds, h1, h2⟩ := g
  have e := h1.len
  exact ⟨.list ds, ⟨a, vs, rfl, h, h1, by omega⟩, Sh.list h2 (by omega)⟩
theorem Gd.tup {a : Addr} {vs : List V} (h : H a = some (.tup vs)) (g : GdAll K H n k vs) (hl : vs.length ≤ m) : Gd K H (1 + n * m) (k + 1) (.ref a) := by
  obtain ⟨ds, h1, h2⟩ := g
  have e := h1.len
  exact ⟨.tuple ds, ⟨a, vs, rfl, h, h1⟩, Sh.tuple h2 (by omega)⟩
theorem Gd.non : Gd K H (n + 1) k .non := ⟨.none, rfl, ⟨rfl, rfl, by simp only [nodes]; omega, by simp only [PyData.depth]; omega⟩⟩
theorem Gd.bl {b : Bool} : Gd K H (n + 1) k (.bl b) := ⟨.bool b, rfl, ⟨rfl, rfl, by simp only [nodes]; omega, by simp only [PyData.depth]; omega⟩⟩
theorem Gd.int {i : Int} (h : i.natAbs < 10000000000000000000000000000000000000000) : Gd K H (n + 1) k (.int i) :=
  ⟨.int i, rfl, (Sh.int (k := 40) (by decide) (small40 h).1 (small40 h).2).wide (by omega) (by omega)⟩
theorem Gd.str {x : Str} (h : (PyData.shown (.str x)).length ≤ 41) : Gd K H (n + 1) k (.str x) :=
  ⟨.str x, rfl, ⟨rfl, by simpa only [lf, decide_eq_true_eq] using h, by simp only [nodes]; omega, by simp only [PyData.depth]; omega⟩⟩
theorem Gd.dict0 {a : Addr} (h : H a = some (.dK [])) : Gd K H (n + 1) (k + 1) (.ref a) :=
  ⟨.dict [], ⟨a, [], rfl, h, rfl, rfl⟩, ⟨rfl, rfl, by simp only [nodes, nodesKv]; omega, by simp only [PyData.depth, PyData.depthKv]; omega⟩⟩
/-- a dict of one text and one value -/
theorem Gd.dict1 {a : Addr} {x : Str} {v : V} (h : H a = some (.dK [(Sum.inr x, v)])) (hx : (PyData.shown (.str x)).length ≤ 41) (g : Gd K H n k v) : Gd K H (n + 2) (k + 1) (.ref a) := by
  obtain ⟨d, h1, h2⟩ := g
  refine ⟨.dict [(.str x, d)], ⟨a, _, rfl, h, rfl, _, _, rfl, h1, rfl⟩, ⟨?_, ?_, ?_, ?_⟩⟩
  · have := h2.s
    simp only [PyData.showable, PyData.showableKv, this, Bool.and_true]
  · have := h2.l
    simp only [lf, lfKv, this, Bool.and_true, Bool.and_eq_true, decide_eq_true_eq]
    exact hx
  · have := h2.n
    simp only [nodes, nodesKv]
    omega
  · have := h2.k
    simp only [PyData.depth, PyData.depthKv]
    omega
theorem Gd.of {d : PyData} {v : V} (h : Da K H d v) (hs : Sh 41 n k d) : Gd K H n k v := ⟨d, h, hs⟩
end
end Nw
namespace K49
open PySem PySem.Spec PyProof.Rows L2 Nw
def topS (i : Nat) : Stmt := PySem.Challenge.pw_nudgewebs_k49_errors_made.main.body.getD i (.Pass ⟨0, 0, 0, 0⟩)
def errNm (i : Nat) : Str := (["WebError", "InvalidWeb", "InvalidSource", "InvalidQuantity", "InvalidTargets", "InvalidNudge", "InvalidOrder", "InvalidLinks", "InvalidKind", "InvalidFort", "InvalidFilling", "InvalidState", "InvalidGiven", "InvalidHill", "InvalidNumber", "InvalidChange", "InvalidCommand", "NoLine", "LineThere", "NothingToUndo", "TooLarge", "InvalidText"] : List Str).getD i ""
theorem bt_ValueError : bootBuiltins "ValueError" = some (.type "ValueError") := by rfl
structure Fam (K : PySem.W.Frag) (mg : Str → Option Value) (c : Nat → Addr) (fB fP : Addr) : Prop where
  g_WebError : mg "WebError" = some (.ref (c 0))
  g_InvalidWeb : mg "InvalidWeb" = some (.ref (c 1))
  g_InvalidSource : mg "InvalidSource" = some (.ref (c 2))
  g_InvalidQuantity : mg "InvalidQuantity" = some (.ref (c 3))
  g_InvalidTargets : mg "InvalidTargets" = some (.ref (c 4))
  g_InvalidNudge : mg "InvalidNudge" = some (.ref (c 5))
  g_InvalidOrder : mg "InvalidOrder" = some (.ref (c 6))
  g_InvalidLinks : mg "InvalidLinks" = some (.ref (c 7))
  g_InvalidKind : mg "InvalidKind" = some (.ref (c 8))
  g_InvalidFort : mg "InvalidFort" = some (.ref (c 9))
  g_InvalidFilling : mg "InvalidFilling" = some (.ref (c 10))
  g_InvalidState : mg "InvalidState" = some (.ref (c 11))
  g_InvalidGiven : mg "InvalidGiven" = some (.ref (c 12))
  g_InvalidHill : mg "InvalidHill" = some (.ref (c 13))
  g_InvalidNumber : mg "InvalidNumber" = some (.ref (c 14))
  g_InvalidChange : mg "InvalidChange" = some (.ref (c 15))
  g_InvalidCommand : mg "InvalidCommand" = some (.ref (c 16))
  g_NoLine : mg "NoLine" = some (.ref (c 17))
  g_LineThere : mg "LineThere" = some (.ref (c 18))
  g_NothingToUndo : mg "NothingToUndo" = some (.ref (c 19))
  g_TooLarge : mg "TooLarge" = some (.ref (c 20))
  g_InvalidText : mg "InvalidText" = some (.ref (c 21))
  n : ∀ i, i < 22 → ErrOf K (errNm i) (c i)
  k : ∀ i, i < 22 → PySem.W.keepIn K (.ref (c i)) = true
  x : ∀ i, i < 20 → PySem.W.excIn K (c i) [.type "ValueError", .type "Exception", .type "BaseException", .type "object"] "ValueError.__new__" = true
  e : ∀ i, i < 22 → L2.ExcC K (c i)
  s : ∀ i j, i < 22 → j < 22 → PySem.W.kitOne K (.ref (c i)) (.ref (c j)) = some (decide (i = j ∨ j = 0))
  v : ∀ i, i < 22 → PySem.W.kitOne K (.ref (c i)) (.type "ValueError") = some true
  big : PySem.BigX.BigTxt K mg (c 20) fB
  plc : PySem.PlcX.PlcTxt K mg (c 21) fP
structure Txt (K : PySem.W.Frag) (mg : Str → Option Value) : Prop where
  b_isinstance : mg "isinstance" = none
  b_len : mg "len" = none
  b_repr : mg "repr" = none
  b_abs : mg "abs" = none
  b_max : mg "max" = none
  b_min : mg "min" = none
  b_int : mg "int" = none
  b_range : mg "range" = none
  b_enumerate : mg "enumerate" = none
  b_ValueError : mg "ValueError" = none
  fam : ∃ c fB fP, Fam K mg c fB fP
/-! _law_kinds: slots 0 _law_e, 1 _law_found -/
abbrev s_kinds : Stmt := topS 24
abbrev N_kinds : List Str := ["_law_e", "_law_found"]
abbrev P_kinds : List Str := ["_law_e"]
theorem sc_kinds : FnScope N_kinds P_kinds (defScope s_kinds) := ⟨rfl, rfl, rfl, by decide +kernel, rfl, by decide +kernel, by decide +kernel⟩
def kindsB (i : Nat) : List Bool := [decide (i = 1 ∨ 1 = 0), decide (i = 2 ∨ 2 = 0), decide (i = 3 ∨ 3 = 0), decide (i = 4 ∨ 4 = 0), decide (i = 5 ∨ 5 = 0), decide (i = 6 ∨ 6 = 0), decide (i = 7 ∨ 7 = 0), decide (i = 8 ∨ 8 = 0), decide (i = 9 ∨ 9 = 0), decide (i = 10 ∨ 10 = 0), decide (i = 11 ∨ 11 = 0), decide (i = 12 ∨ 12 = 0), decide (i = 13 ∨ 13 = 0), decide (i = 14 ∨ 14 = 0), decide (i = 15 ∨ 15 = 0), decide (i = 16 ∨ 16 = 0), decide (i = 17 ∨ 17 = 0), decide (i = 18 ∨ 18 = 0), decide (i = 19 ∨ 19 = 0), decide (i = 20 ∨ 20 = 0), decide (i = 21 ∨ 21 = 0)]
def kindsV (i : Nat) : List V := [.bl (decide (i = 1 ∨ 1 = 0)), .bl (decide (i = 2 ∨ 2 = 0)), .bl (decide (i = 3 ∨ 3 = 0)), .bl (decide (i = 4 ∨ 4 = 0)), .bl (decide (i = 5 ∨ 5 = 0)), .bl (decide (i = 6 ∨ 6 = 0)), .bl (decide (i = 7 ∨ 7 = 0)), .bl (decide (i = 8 ∨ 8 = 0)), .bl (decide (i = 9 ∨ 9 = 0)), .bl (decide (i = 10 ∨ 10 = 0)), .bl (decide (i = 11 ∨ 11 = 0)), .bl (decide (i = 12 ∨ 12 = 0)), .bl (decide (i = 13 ∨ 13 = 0)), .bl (decide (i = 14 ∨ 14 = 0)), .bl (decide (i = 15 ∨ 15 = 0)), .bl (decide (i = 16 ∨ 16 = 0)), .bl (decide (i = 17 ∨ 17 = 0)), .bl (decide (i = 18 ∨ 18 = 0)), .bl (decide (i = 19 ∨ 19 = 0)), .bl (decide (i = 20 ∨ 20 = 0)), .bl (decide (i = 21 ∨ 21 = 0))]
theorem kindsV_eq (i : Nat) : kindsV i = (kindsB i).map V.bl := rfl
def sp_kinds (K : PySem.W.Frag) : Sp := fun vs H Q _ => ∃ (a D : Addr) (i : Nat), vs = [.ref a] ∧ i < 22 ∧ ErrOf K (errNm i) D ∧ ErrAt H a D ∧ ∀ R H', Ex H H' → H' R = some (.lst (kindsV i)) → Q (.ref R) H'
section
variable {P : Program} {w : World} {K : PySem.W.Frag} {mg : Str → Option Value} {base : Heap}
theorem ok_kinds {f : Addr} {fd : FuncData} (T : Txt K mg) (F : Fun K "_law_kinds" "_law_kinds" s_kinds f fd) :
    FnG P w K mg base CX0 1 f fd P_kinds (sp_kinds K) := by
  refine okG0 F sc_kinds (fun vs H Q E h => ?_) (fun cdv A outer s H vs Q E hr hq h => ?_)
  · obtain ⟨a, D, i, rfl, _⟩ := h
    rfl
  · obtain ⟨a, D, i, rfl, hi, hD, ha, q⟩ := h
    obtain ⟨c, fB, fP, hc⟩ := T.fam
    obtain rfl : D = c i := err_uniq hD (hc.n i hi)
    refine ⟨_, (pss_cons (ps_set (i := 1) sc_kinds.nd rfl (by first | exact .inl rfl | exact .inr rfl) (pe_lst (pa_cons (pe_callB (call_isV K) (by rfl) T.b_isinstance bt_isinstance (pa_cons (pv 0) (pa_cons (pe_glob (v := .ref (c 1)) rfl hc.g_InvalidWeb rfl) pa_nil))) (pa_cons (pe_callB (call_isV K) (by rfl) T.b_isinstance bt_isinstance (pa_cons (pv 0) (pa_cons (pe_glob (v := .ref (c 2)) rfl hc.g_InvalidSource rfl) pa_nil))) (pa_cons (pe_callB (call_isV K) (by rfl) T.b_isinstance bt_isinstance (pa_cons (pv 0) (pa_cons (pe_glob (v := .ref (c 3)) rfl hc.g_InvalidQuantity rfl) pa_nil))) pa_nil)))))
      (pss_cons (ps_set (i := 1) sc_kinds.nd rfl (by first | exact .inl rfl | exact .inr rfl) (pe_op (op_catS K) (pv 1) (pe_lst (pa_cons (pe_callB (call_isV K) (by rfl) T.b_isinstance bt_isinstance (pa_cons (pv 0) (pa_cons (pe_glob (v := .ref (c 4)) rfl hc.g_InvalidTargets rfl) pa_nil))) (pa_cons (pe_callB (call_isV K) (by rfl) T.b_isinstance bt_isinstance (pa_cons (pv 0) (pa_cons (pe_glob (v := .ref (c 5)) rfl hc.g_InvalidNudge rfl) pa_nil))) (pa_cons (pe_callB (call_isV K) (by rfl) T.b_isinstance bt_isinstance (pa_cons (pv 0) (pa_cons (pe_glob (v := .ref (c 6)) rfl hc.g_InvalidOrder rfl) pa_nil))) pa_nil))))))
      (pss_cons (ps_set (i := 1) sc_kinds.nd rfl (by first | exact .inl rfl | exact .inr rfl) (pe_op (op_catS K) (pv 1) (pe_lst (pa_cons (pe_callB (call_isV K) (by rfl) T.b_isinstance bt_isinstance (pa_cons (pv 0) (pa_cons (pe_glob (v := .ref (c 7)) rfl hc.g_InvalidLinks rfl) pa_nil))) (pa_cons (pe_callB (call_isV K) (by rfl) T.b_isinstance bt_isinstance (pa_cons (pv 0) (pa_cons (pe_glob (v := .ref (c 8)) rfl hc.g_InvalidKind rfl) pa_nil))) (pa_cons (pe_callB (call_isV K) (by rfl) T.b_isinstance bt_isinstance (pa_cons (pv 0) (pa_cons (pe_glob (v := .ref (c 9)) rfl hc.g_InvalidFort rfl) pa_nil))) pa_nil))))))
      (pss_cons (ps_set (i := 1) sc_kinds.nd rfl (by first | exact .inl rfl | exact .inr rfl) (pe_op (op_catS K) (pv 1) (pe_lst (pa_cons (pe_callB (call_isV K) (by rfl) T.b_isinstance bt_isinstance (pa_cons (pv 0) (pa_cons (pe_glob (v := .ref (c 10)) rfl hc.g_InvalidFilling rfl) pa_nil))) (pa_cons (pe_callB (call_isV K) (by rfl) T.b_isinstance bt_isinstance (pa_cons (pv 0) (pa_cons (pe_glob (v := .ref (c 11)) rfl hc.g_InvalidState rfl) pa_nil))) (pa_cons (pe_callB (call_isV K) (by rfl) T.b_isinstance bt_isinstance (pa_cons (pv 0) (pa_cons (pe_glob (v := .ref (c 12)) rfl hc.g_InvalidGiven rfl) pa_nil))) pa_nil))))))
      (pss_cons (ps_set (i := 1) sc_kinds.nd rfl (by first | exact .inl rfl | exact .inr rfl) (pe_op (op_catS K) (pv 1) (pe_lst (pa_cons (pe_callB (call_isV K) (by rfl) T.b_isinstance bt_isinstance (pa_cons (pv 0) (pa_cons (pe_glob (v := .ref (c 13)) rfl hc.g_InvalidHill rfl) pa_nil))) (pa_cons (pe_callB (call_isV K) (by rfl) T.b_isinstance bt_isinstance (pa_cons (pv 0) (pa_cons (pe_glob (v := .ref (c 14)) rfl hc.g_InvalidNumber rfl) pa_nil))) (pa_cons (pe_callB (call_isV K) (by rfl) T.b_isinstance bt_isinstance (pa_cons (pv 0) (pa_cons (pe_glob (v := .ref (c 15)) rfl hc.g_InvalidChange rfl) pa_nil))) pa_nil))))))
      (pss_cons (ps_set (i := 1) sc_kinds.nd rfl (by first | exact .inl rfl | exact .inr rfl) (pe_op (op_catS K) (pv 1) (pe_lst (pa_cons (pe_callB (call_isV K) (by rfl) T.b_isinstance bt_isinstance (pa_cons (pv 0) (pa_cons (pe_glob (v := .ref (c 16)) rfl hc.g_InvalidCommand rfl) pa_nil))) (pa_cons (pe_callB (call_isV K) (by rfl) T.b_isinstance bt_isinstance (pa_cons (pv 0) (pa_cons (pe_glob (v := .ref (c 17)) rfl hc.g_NoLine rfl) pa_nil))) (pa_cons (pe_callB (call_isV K) (by rfl) T.b_isinstance bt_isinstance (pa_cons (pv 0) (pa_cons (pe_glob (v := .ref (c 18)) rfl hc.g_LineThere rfl) pa_nil))) pa_nil))))))
      (pss_cons (ps_set (i := 1) sc_kinds.nd rfl (by first | exact .inl rfl | exact .inr rfl) (pe_op (op_catS K) (pv 1) (pe_lst (pa_cons (pe_callB (call_isV K) (by rfl) T.b_isinstance bt_isinstance (pa_cons (pv 0) (pa_cons (pe_glob (v := .ref (c 19)) rfl hc.g_NothingToUndo rfl) pa_nil))) (pa_cons (pe_callB (call_isV K) (by rfl) T.b_isinstance bt_isinstance (pa_cons (pv 0) (pa_cons (pe_glob (v := .ref (c 20)) rfl hc.g_TooLarge rfl) pa_nil))) (pa_cons (pe_callB (call_isV K) (by rfl) T.b_isinstance bt_isinstance (pa_cons (pv 0) (pa_cons (pe_glob (v := .ref (c 21)) rfl hc.g_InvalidText rfl) pa_nil))) pa_nil))))))
      (pss_one (ps_ret (pv 1)))))))))), ?_⟩
    refine ⟨_, rfl, a, c i, .ref (c 1), .ref (c 1), _, rfl, ha, hc.e i hi, fun u hu => hu, hc.s i 1 hi (by decide), ?_⟩
    refine ⟨_, rfl, a, c i, .ref (c 2), .ref (c 2), _, rfl, ha, hc.e i hi, fun u hu => hu, hc.s i 2 hi (by decide), ?_⟩
    refine ⟨_, rfl, a, c i, .ref (c 3), .ref (c 3), _, rfl, ha, hc.e i hi, fun u hu => hu, hc.s i 3 hi (by decide), ?_⟩
    refine ⟨by show 3 ≤ sizeLine; decide, fun o1 n1 => ?_⟩
    have E1 : Ex H (upd H o1 (.lst [.bl (decide (i = 1 ∨ 1 = 0)), .bl (decide (i = 2 ∨ 2 = 0)), .bl (decide (i = 3 ∨ 3 = 0))])) := Ex.nw n1
    have F1 : (upd H o1 (.lst [.bl (decide (i = 1 ∨ 1 = 0)), .bl (decide (i = 2 ∨ 2 = 0)), .bl (decide (i = 3 ∨ 3 = 0))])) o1 = some (.lst [.bl (decide (i = 1 ∨ 1 = 0)), .bl (decide (i = 2 ∨ 2 = 0)), .bl (decide (i = 3 ∨ 3 = 0))]) := upd_same
    have A1 := ha.up E1
    generalize upd H o1 (.lst [.bl (decide (i = 1 ∨ 1 = 0)), .bl (decide (i = 2 ∨ 2 = 0)), .bl (decide (i = 3 ∨ 3 = 0))]) = G1 at E1 F1 A1
    refine ⟨_, rfl, ?_⟩
    refine ⟨_, rfl, a, c i, .ref (c 4), .ref (c 4), _, rfl, A1, hc.e i hi, fun u hu => hu, hc.s i 4 hi (by decide), ?_⟩
    refine ⟨_, rfl, a, c i, .ref (c 5), .ref (c 5), _, rfl, A1, hc.e i hi, fun u hu => hu, hc.s i 5 hi (by decide), ?_⟩
    refine ⟨_, rfl, a, c i, .ref (c 6), .ref (c 6), _, rfl, A1, hc.e i hi, fun u hu => hu, hc.s i 6 hi (by decide), ?_⟩
    refine ⟨by show 3 ≤ sizeLine; decide, fun o2 n2 => ?_⟩
    have E2 : Ex G1 (upd G1 o2 (.lst [.bl (decide (i = 4 ∨ 4 = 0)), .bl (decide (i = 5 ∨ 5 = 0)), .bl (decide (i = 6 ∨ 6 = 0))])) := Ex.nw n2
    have F2 : (upd G1 o2 (.lst [.bl (decide (i = 4 ∨ 4 = 0)), .bl (decide (i = 5 ∨ 5 = 0)), .bl (decide (i = 6 ∨ 6 = 0))])) o2 = some (.lst [.bl (decide (i = 4 ∨ 4 = 0)), .bl (decide (i = 5 ∨ 5 = 0)), .bl (decide (i = 6 ∨ 6 = 0))]) := upd_same
    have A2 := A1.up E2
    generalize upd G1 o2 (.lst [.bl (decide (i = 4 ∨ 4 = 0)), .bl (decide (i = 5 ∨ 5 = 0)), .bl (decide (i = 6 ∨ 6 = 0))]) = G2 at E2 F2 A2
    refine ⟨o1, o2, _, _, rfl, rfl, .inl (.inl (E2 _ _ F1)), .inl (.inl F2), by show 3 + 3 ≤ 1000000; decide, fun o3 n3 => ?_⟩
    rw [show ([.bl (decide (i = 1 ∨ 1 = 0)), .bl (decide (i = 2 ∨ 2 = 0)), .bl (decide (i = 3 ∨ 3 = 0))] ++ [.bl (decide (i = 4 ∨ 4 = 0)), .bl (decide (i = 5 ∨ 5 = 0)), .bl (decide (i = 6 ∨ 6 = 0))] : List V) = [.bl (decide (i = 1 ∨ 1 = 0)), .bl (decide (i = 2 ∨ 2 = 0)), .bl (decide (i = 3 ∨ 3 = 0)), .bl (decide (i = 4 ∨ 4 = 0)), .bl (decide (i = 5 ∨ 5 = 0)), .bl (decide (i = 6 ∨ 6 = 0))] from rfl]
    have E3 : Ex G2 (upd G2 o3 (.lst [.bl (decide (i = 1 ∨ 1 = 0)), .bl (decide (i = 2 ∨ 2 = 0)), .bl (decide (i = 3 ∨ 3 = 0)), .bl (decide (i = 4 ∨ 4 = 0)), .bl (decide (i = 5 ∨ 5 = 0)), .bl (decide (i = 6 ∨ 6 = 0))])) := Ex.nw n3
    have F3 : (upd G2 o3 (.lst [.bl (decide (i = 1 ∨ 1 = 0)), .bl (decide (i = 2 ∨ 2 = 0)), .bl (decide (i = 3 ∨ 3 = 0)), .bl (decide (i = 4 ∨ 4 = 0)), .bl (decide (i = 5 ∨ 5 = 0)), .bl (decide (i = 6 ∨ 6 = 0))])) o3 = some (.lst [.bl (decide (i = 1 ∨ 1 = 0)), .bl (decide (i = 2 ∨ 2 = 0)), .bl (decide (i = 3 ∨ 3 = 0)), .bl (decide (i = 4 ∨ 4 = 0)), .bl (decide (i = 5 ∨ 5 = 0)), .bl (decide (i = 6 ∨ 6 = 0))]) := upd_same
    have A3 := A2.up E3
    generalize upd G2 o3 (.lst [.bl (decide (i = 1 ∨ 1 = 0)), .bl (decide (i = 2 ∨ 2 = 0)), .bl (decide (i = 3 ∨ 3 = 0)), .bl (decide (i = 4 ∨ 4 = 0)), .bl (decide (i = 5 ∨ 5 = 0)), .bl (decide (i = 6 ∨ 6 = 0))]) = G3 at E3 F3 A3
    refine ⟨_, rfl, ?_⟩
    refine ⟨_, rfl, a, c i, .ref (c 7), .ref (c 7), _, rfl, A3, hc.e i hi, fun u hu => hu, hc.s i 7 hi (by decide), ?_⟩
    refine ⟨_, rfl, a, c i, .ref (c 8), .ref (c 8), _, rfl, A3, hc.e i hi, fun u hu => hu, hc.s i 8 hi (by decide), ?_⟩
    refine ⟨_, rfl, a, c i, .ref (c 9), .ref (c 9), _, rfl, A3, hc.e i hi, fun u hu => hu, hc.s i 9 hi (by decide), ?_⟩
    refine ⟨by show 3 ≤ sizeLine; decide, fun o4 n4 => ?_⟩
    have E4 : Ex G3 (upd G3 o4 (.lst [.bl (decide (i = 7 ∨ 7 = 0)), .bl (decide (i = 8 ∨ 8 = 0)), .bl (decide (i = 9 ∨ 9 = 0))])) := Ex.nw n4
    have F4 : (upd G3 o4 (.lst [.bl (decide (i = 7 ∨ 7 = 0)), .bl (decide (i = 8 ∨ 8 = 0)), .bl (decide (i = 9 ∨ 9 = 0))])) o4 = some (.lst [.bl (decide (i = 7 ∨ 7 = 0)), .bl (decide (i = 8 ∨ 8 = 0)), .bl (decide (i = 9 ∨ 9 = 0))]) := upd_same
    have A4 := A3.up E4
    generalize upd G3 o4 (.lst [.bl (decide (i = 7 ∨ 7 = 0)), .bl (decide (i = 8 ∨ 8 = 0)), .bl (decide (i = 9 ∨ 9 = 0))]) = G4 at E4 F4 A4
    refine ⟨o3, o4, _, _, rfl, rfl, .inl (.inl (E4 _ _ F3)), .inl (.inl F4), by show 6 + 3 ≤ 1000000; decide, fun o5 n5 => ?_⟩
    rw [show ([.bl (decide (i = 1 ∨ 1 = 0)), .bl (decide (i = 2 ∨ 2 = 0)), .bl (decide (i = 3 ∨ 3 = 0)), .bl (decide (i = 4 ∨ 4 = 0)), .bl (decide (i = 5 ∨ 5 = 0)), .bl (decide (i = 6 ∨ 6 = 0))] ++ [.bl (decide (i = 7 ∨ 7 = 0)), .bl (decide (i = 8 ∨ 8 = 0)), .bl (decide (i = 9 ∨ 9 = 0))] : List V) = [.bl (decide (i = 1 ∨ 1 = 0)), .bl (decide (i = 2 ∨ 2 = 0)), .bl (decide (i = 3 ∨ 3 = 0)), .bl (decide (i = 4 ∨ 4 = 0)), .bl (decide (i = 5 ∨ 5 = 0)), .bl (decide (i = 6 ∨ 6 = 0)), .bl (decide (i = 7 ∨ 7 = 0)), .bl (decide (i = 8 ∨ 8 = 0)), .bl (decide (i = 9 ∨ 9 = 0))] from rfl]
    have E5 : Ex G4 (upd G4 o5 (.lst [.bl (decide (i = 1 ∨ 1 = 0)), .bl (decide (i = 2 ∨ 2 = 0)), .bl (decide (i = 3 ∨ 3 = 0)), .bl (decide (i = 4 ∨ 4 = 0)), .bl (decide (i = 5 ∨ 5 = 0)), .bl (decide (i = 6 ∨ 6 = 0)), .bl (decide (i = 7 ∨ 7 = 0)), .bl (decide (i = 8 ∨ 8 = 0)), .bl (decide (i = 9 ∨ 9 = 0))])) := Ex.nw n5
    have F5 : (upd G4 o5 (.lst [.bl (decide (i = 1 ∨ 1 = 0)), .bl (decide (i = 2 ∨ 2 = 0)), .bl (decide (i = 3 ∨ 3 = 0)), .bl (decide (i = 4 ∨ 4 = 0)), .bl (decide (i = 5 ∨ 5 = 0)), .bl (decide (i = 6 ∨ 6 = 0)), .bl (decide (i = 7 ∨ 7 = 0)), .bl (decide (i = 8 ∨ 8 = 0)), .bl (decide (i = 9 ∨ 9 = 0))])) o5 = some (.lst [.bl (decide (i = 1 ∨ 1 = 0)), .bl (decide (i = 2 ∨ 2 = 0)), .bl (decide (i = 3 ∨ 3 = 0)), .bl (decide (i = 4 ∨ 4 = 0)), .bl (decide (i = 5 ∨ 5 = 0)), .bl (decide (i = 6 ∨ 6 = 0)), .bl (decide (i = 7 ∨ 7 = 0)), .bl (decide (i = 8 ∨ 8 = 0)), .bl (decide (i = 9 ∨ 9 = 0))]) := upd_same
    have A5 := A4.up E5
    generalize upd G4 o5 (.lst [.bl (decide (i = 1 ∨ 1 = 0)), .bl (decide (i = 2 ∨ 2 = 0)), .bl (decide (i = 3 ∨ 3 = 0)), .bl (decide (i = 4 ∨ 4 = 0)), .bl (decide (i = 5 ∨ 5 = 0)), .bl (decide (i = 6 ∨ 6 = 0)), .bl (decide (i = 7 ∨ 7 = 0)), .bl (decide (i = 8 ∨ 8 = 0)), .bl (decide (i = 9 ∨ 9 = 0))]) = G5 at E5 F5 A5
    refine ⟨_, rfl, ?_⟩
    refine ⟨_, rfl, a, c i, .ref (c 10), .ref (c 10), _, rfl, A5, hc.e i hi, fun u hu => hu, hc.s i 10 hi (by decide), ?_⟩
    refine ⟨_, rfl, a, c i, .ref (c 11), .ref (c 11), _, rfl, A5, hc.e i hi, fun u hu => hu, hc.s i 11 hi (by decide), ?_⟩
    refine ⟨_, rfl, a, c i, .ref (c 12), .ref (c 12), _, rfl, A5, hc.e i hi, fun u hu => hu, hc.s i 12 hi (by decide), ?_⟩
    refine ⟨by show 3 ≤ sizeLine; decide, fun o6 n6 => ?_⟩
    have E6 : Ex G5 (upd G5 o6 (.lst [.bl (decide (i = 10 ∨ 10 = 0)), .bl (decide (i = 11 ∨ 11 = 0)), .bl (decide (i = 12 ∨ 12 = 0))])) := Ex.nw n6
    have F6 : (upd G5 o6 (.lst [.bl (decide (i = 10 ∨ 10 = 0)), .bl (decide (i = 11 ∨ 11 = 0)), .bl (decide (i = 12 ∨ 12 = 0))])) o6 = some (.lst [.bl (decide (i = 10 ∨ 10 = 0)), .bl (decide (i = 11 ∨ 11 = 0)), .bl (decide (i = 12 ∨ 12 = 0))]) := upd_same
    have A6 := A5.up E6
    generalize upd G5 o6 (.lst [.bl (decide (i = 10 ∨ 10 = 0)), .bl (decide (i = 11 ∨ 11 = 0)), .bl (decide (i = 12 ∨ 12 = 0))]) = G6 at E6 F6 A6
    refine ⟨o5, o6, _, _, rfl, rfl, .inl (.inl (E6 _ _ F5)), .inl (.inl F6), by show 9 + 3 ≤ 1000000; decide, fun o7 n7 => ?_⟩
    rw [show ([.bl (decide (i = 1 ∨ 1 = 0)), .bl (decide (i = 2 ∨ 2 = 0)), .bl (decide (i = 3 ∨ 3 = 0)), .bl (decide (i = 4 ∨ 4 = 0)), .bl (decide (i = 5 ∨ 5 = 0)), .bl (decide (i = 6 ∨ 6 = 0)), .bl (decide (i = 7 ∨ 7 = 0)), .bl (decide (i = 8 ∨ 8 = 0)), .bl (decide (i = 9 ∨ 9 = 0))] ++ [.bl (decide (i = 10 ∨ 10 = 0)), .bl (decide (i = 11 ∨ 11 = 0)), .bl (decide (i = 12 ∨ 12 = 0))] : List V) = [.bl (decide (i = 1 ∨ 1 = 0)), .bl (decide (i = 2 ∨ 2 = 0)), .bl (decide (i = 3 ∨ 3 = 0)), .bl (decide (i = 4 ∨ 4 = 0)), .bl (decide (i = 5 ∨ 5 = 0)), .bl (decide (i = 6 ∨ 6 = 0)), .bl (decide (i = 7 ∨ 7 = 0)), .bl (decide (i = 8 ∨ 8 = 0)), .bl (decide (i = 9 ∨ 9 = 0)), .bl (decide (i = 10 ∨ 10 = 0)), .bl (decide (i = 11 ∨ 11 = 0)), .bl (decide (i = 12 ∨ 12 = 0))] from rfl]
    have E7 : Ex G6 (upd G6 o7 (.lst [.bl (decide (i = 1 ∨ 1 = 0)), .bl (decide (i = 2 ∨ 2 = 0)), .bl (decide (i = 3 ∨ 3 = 0)), .bl (decide (i = 4 ∨ 4 = 0)), .bl (decide (i = 5 ∨ 5 = 0)), .bl (decide (i = 6 ∨ 6 = 0)), .bl (decide (i = 7 ∨ 7 = 0)), .bl (decide (i = 8 ∨ 8 = 0)), .bl (decide (i = 9 ∨ 9 = 0)), .bl (decide (i = 10 ∨ 10 = 0)), .bl (decide (i = 11 ∨ 11 = 0)), .bl (decide (i = 12 ∨ 12 = 0))])) := Ex.nw n7
    have F7 : (upd G6 o7 (.lst [.bl (decide (i = 1 ∨ 1 = 0)), .bl (decide (i = 2 ∨ 2 = 0)), .bl (decide (i = 3 ∨ 3 = 0)), .bl (decide (i = 4 ∨ 4 = 0)), .bl (decide (i = 5 ∨ 5 = 0)), .bl (decide (i = 6 ∨ 6 = 0)), .bl (decide (i = 7 ∨ 7 = 0)), .bl (decide (i = 8 ∨ 8 = 0)), .bl (decide (i = 9 ∨ 9 = 0)), .bl (decide (i = 10 ∨ 10 = 0)), .bl (decide (i = 11 ∨ 11 = 0)), .bl (decide (i = 12 ∨ 12 = 0))])) o7 = some (.lst [.bl (decide (i = 1 ∨ 1 = 0)), .bl (decide (i = 2 ∨ 2 = 0)), .bl (decide (i = 3 ∨ 3 = 0)), .bl (decide (i = 4 ∨ 4 = 0)), .bl (decide (i = 5 ∨ 5 = 0)), .bl (decide (i = 6 ∨ 6 = 0)), .bl (decide (i = 7 ∨ 7 = 0)), .bl (decide (i = 8 ∨ 8 = 0)), .bl (decide (i = 9 ∨ 9 = 0)), .bl (decide (i = 10 ∨ 10 = 0)), .bl (decide (i = 11 ∨ 11 = 0)), .bl (decide (i = 12 ∨ 12 = 0))]) := upd_same
    have A7 := A6.up E7
    generalize upd G6 o7 (.lst [.bl (decide (i = 1 ∨ 1 = 0)), .bl (decide (i = 2 ∨ 2 = 0)), .bl (decide (i = 3 ∨ 3 = 0)), .bl (decide (i = 4 ∨ 4 = 0)), .bl (decide (i = 5 ∨ 5 = 0)), .bl (decide (i = 6 ∨ 6 = 0)), .bl (decide (i = 7 ∨ 7 = 0)), .bl (decide (i = 8 ∨ 8 = 0)), .bl (decide (i = 9 ∨ 9 = 0)), .bl (decide (i = 10 ∨ 10 = 0)), .bl (decide (i = 11 ∨ 11 = 0)), .bl (decide (i = 12 ∨ 12 = 0))]) = G7 at E7 F7 A7
    refine ⟨_, rfl, ?_⟩
    refine ⟨_, rfl, a, c i, .ref (c 13), .ref (c 13), _, rfl, A7, hc.e i hi, fun u hu => hu, hc.s i 13 hi (by decide), ?_⟩
    refine ⟨_, rfl, a, c i, .ref (c 14), .ref (c 14), _, rfl, A7, hc.e i hi, fun u hu => hu, hc.s i 14 hi (by decide), ?_⟩
    refine ⟨_, rfl, a, c i, .ref (c 15), .ref (c 15), _, rfl, A7, hc.e i hi, fun u hu => hu, hc.s i 15 hi (by decide), ?_⟩
    refine ⟨by show 3 ≤ sizeLine; decide, fun o8 n8 => ?_⟩
    have E8 : Ex G7 (upd G7 o8 (.lst [.bl (decide (i = 13 ∨ 13 = 0)), .bl (decide (i = 14 ∨ 14 = 0)), .bl (decide (i = 15 ∨ 15 = 0))])) := Ex.nw n8
    have F8 : (upd G7 o8 (.lst [.bl (decide (i = 13 ∨ 13 = 0)), .bl (decide (i = 14 ∨ 14 = 0)), .bl (decide (i = 15 ∨ 15 = 0))])) o8 = some (.lst [.bl (decide (i = 13 ∨ 13 = 0)), .bl (decide (i = 14 ∨ 14 = 0)), .bl (decide (i = 15 ∨ 15 = 0))]) := upd_same
    have A8 := A7.up E8
    generalize upd G7 o8 (.lst [.bl (decide (i = 13 ∨ 13 = 0)), .bl (decide (i = 14 ∨ 14 = 0)), .bl (decide (i = 15 ∨ 15 = 0))]) = G8 at E8 F8 A8
    refine ⟨o7, o8, _, _, rfl, rfl, .inl (.inl (E8 _ _ F7)), .inl (.inl F8), by show 12 + 3 ≤ 1000000; decide, fun o9 n9 => ?_⟩
    rw [show ([.bl (decide (i = 1 ∨ 1 = 0)), .bl (decide (i = 2 ∨ 2 = 0)), .bl (decide (i = 3 ∨ 3 = 0)), .bl (decide (i = 4 ∨ 4 = 0)), .bl (decide (i = 5 ∨ 5 = 0)), .bl (decide (i = 6 ∨ 6 = 0)), .bl (decide (i = 7 ∨ 7 = 0)), .bl (decide (i = 8 ∨ 8 = 0)), .bl (decide (i = 9 ∨ 9 = 0)), .bl (decide (i = 10 ∨ 10 = 0)), .bl (decide (i = 11 ∨ 11 = 0)), .bl (decide (i = 12 ∨ 12 = 0))] ++ [.bl (decide (i = 13 ∨ 13 = 0)), .bl (decide (i = 14 ∨ 14 = 0)), .bl (decide (i = 15 ∨ 15 = 0))] : List V) = [.bl (decide (i = 1 ∨ 1 = 0)), .bl (decide (i = 2 ∨ 2 = 0)), .bl (decide (i = 3 ∨ 3 = 0)), .bl (decide (i = 4 ∨ 4 = 0)), .bl (decide (i = 5 ∨ 5 = 0)), .bl (decide (i = 6 ∨ 6 = 0)), .bl (decide (i = 7 ∨ 7 = 0)), .bl (decide (i = 8 ∨ 8 = 0)), .bl (decide (i = 9 ∨ 9 = 0)), .bl (decide (i = 10 ∨ 10 = 0)), .bl (decide (i = 11 ∨ 11 = 0)), .bl (decide (i = 12 ∨ 12 = 0)), .bl (decide (i = 13 ∨ 13 = 0)), .bl (decide (i = 14 ∨ 14 = 0)), .bl (decide (i = 15 ∨ 15 = 0))] from rfl]
    have E9 : Ex G8 (upd G8 o9 (.lst [.bl (decide (i = 1 ∨ 1 = 0)), .bl (decide (i = 2 ∨ 2 = 0)), .bl (decide (i = 3 ∨ 3 = 0)), .bl (decide (i = 4 ∨ 4 = 0)), .bl (decide (i = 5 ∨ 5 = 0)), .bl (decide (i = 6 ∨ 6 = 0)), .bl (decide (i = 7 ∨ 7 = 0)), .bl (decide (i = 8 ∨ 8 = 0)), .bl (decide (i = 9 ∨ 9 = 0)), .bl (decide (i = 10 ∨ 10 = 0)), .bl (decide (i = 11 ∨ 11 = 0)), .bl (decide (i = 12 ∨ 12 = 0)), .bl (decide (i = 13 ∨ 13 = 0)), .bl (decide (i = 14 ∨ 14 = 0)), .bl (decide (i = 15 ∨ 15 = 0))])) := Ex.nw n9
    have F9 : (upd G8 o9 (.lst [.bl (decide (i = 1 ∨ 1 = 0)), .bl (decide (i = 2 ∨ 2 = 0)), .bl (decide (i = 3 ∨ 3 = 0)), .bl (decide (i = 4 ∨ 4 = 0)), .bl (decide (i = 5 ∨ 5 = 0)), .bl (decide (i = 6 ∨ 6 = 0)), .bl (decide (i = 7 ∨ 7 = 0)), .bl (decide (i = 8 ∨ 8 = 0)), .bl (decide (i = 9 ∨ 9 = 0)), .bl (decide (i = 10 ∨ 10 = 0)), .bl (decide (i = 11 ∨ 11 = 0)), .bl (decide (i = 12 ∨ 12 = 0)), .bl (decide (i = 13 ∨ 13 = 0)), .bl (decide (i = 14 ∨ 14 = 0)), .bl (decide (i = 15 ∨ 15 = 0))])) o9 = some (.lst [.bl (decide (i = 1 ∨ 1 = 0)), .bl (decide (i = 2 ∨ 2 = 0)), .bl (decide (i = 3 ∨ 3 = 0)), .bl (decide (i = 4 ∨ 4 = 0)), .bl (decide (i = 5 ∨ 5 = 0)), .bl (decide (i = 6 ∨ 6 = 0)), .bl (decide (i = 7 ∨ 7 = 0)), .bl (decide (i = 8 ∨ 8 = 0)), .bl (decide (i = 9 ∨ 9 = 0)), .bl (decide (i = 10 ∨ 10 = 0)), .bl (decide (i = 11 ∨ 11 = 0)), .bl (decide (i = 12 ∨ 12 = 0)), .bl (decide (i = 13 ∨ 13 = 0)), .bl (decide (i = 14 ∨ 14 = 0)), .bl (decide (i = 15 ∨ 15 = 0))]) := upd_same
    have A9 := A8.up E9
    generalize upd G8 o9 (.lst [.bl (decide (i = 1 ∨ 1 = 0)), .bl (decide (i = 2 ∨ 2 = 0)), .bl (decide (i = 3 ∨ 3 = 0)), .bl (decide (i = 4 ∨ 4 = 0)), .bl (decide (i = 5 ∨ 5 = 0)), .bl (decide (i = 6 ∨ 6 = 0)), .bl (decide (i = 7 ∨ 7 = 0)), .bl (decide (i = 8 ∨ 8 = 0)), .bl (decide (i = 9 ∨ 9 = 0)), .bl (decide (i = 10 ∨ 10 = 0)), .bl (decide (i = 11 ∨ 11 = 0)), .bl (decide (i = 12 ∨ 12 = 0)), .bl (decide (i = 13 ∨ 13 = 0)), .bl (decide (i = 14 ∨ 14 = 0)), .bl (decide (i = 15 ∨ 15 = 0))]) = G9 at E9 F9 A9
    refine ⟨_, rfl, ?_⟩
    refine ⟨_, rfl, a, c i, .ref (c 16), .ref (c 16), _, rfl, A9, hc.e i hi, fun u hu => hu, hc.s i 16 hi (by decide), ?_⟩
    refine ⟨_, rfl, a, c i, .ref (c 17), .ref (c 17), _, rfl, A9, hc.e i hi, fun u hu => hu, hc.s i 17 hi (by decide), ?_⟩
    refine ⟨_, rfl, a, c i, .ref (c 18), .ref (c 18), _, rfl, A9, hc.e i hi, fun u hu => hu, hc.s i 18 hi (by decide), ?_⟩
    refine ⟨by show 3 ≤ sizeLine; decide, fun o10 n10 => ?_⟩
    have E10 : Ex G9 (upd G9 o10 (.lst [.bl (decide (i = 16 ∨ 16 = 0)), .bl (decide (i = 17 ∨ 17 = 0)), .bl (decide (i = 18 ∨ 18 = 0))])) := Ex.nw n10
    have F10 : (upd G9 o10 (.lst [.bl (decide (i = 16 ∨ 16 = 0)), .bl (decide (i = 17 ∨ 17 = 0)), .bl (decide (i = 18 ∨ 18 = 0))])) o10 = some (.lst [.bl (decide (i = 16 ∨ 16 = 0)), .bl (decide (i = 17 ∨ 17 = 0)), .bl (decide (i = 18 ∨ 18 = 0))]) := upd_same
    have A10 := A9.up E10
    generalize upd G9 o10 (.lst [.bl (decide (i = 16 ∨ 16 = 0)), .bl (decide (i = 17 ∨ 17 = 0)), .bl (decide (i = 18 ∨ 18 = 0))]) = G10 at E10 F10 A10
    refine ⟨o9, o10, _, _, rfl, rfl, .inl (.inl (E10 _ _ F9)), .inl (.inl F10), by show 15 + 3 ≤ 1000000; decide, fun o11 n11 => ?_⟩
    rw [show ([.bl (decide (i = 1 ∨ 1 = 0)), .bl (decide (i = 2 ∨ 2 = 0)), .bl (decide (i = 3 ∨ 3 = 0)), .bl (decide (i = 4 ∨ 4 = 0)), .bl (decide (i = 5 ∨ 5 = 0)), .bl (decide (i = 6 ∨ 6 = 0)), .bl (decide (i = 7 ∨ 7 = 0)), .bl (decide (i = 8 ∨ 8 = 0)), .bl (decide (i = 9 ∨ 9 = 0)), .bl (decide (i = 10 ∨ 10 = 0)), .bl (decide (i = 11 ∨ 11 = 0)), .bl (decide (i = 12 ∨ 12 = 0)), .bl (decide (i = 13 ∨ 13 = 0)), .bl (decide (i = 14 ∨ 14 = 0)), .bl (decide (i = 15 ∨ 15 = 0))] ++ [.bl (decide (i = 16 ∨ 16 = 0)), .bl (decide (i = 17 ∨ 17 = 0)), .bl (decide (i = 18 ∨ 18 = 0))] : List V) = [.bl (decide (i = 1 ∨ 1 = 0)), .bl (decide (i = 2 ∨ 2 = 0)), .bl (decide (i = 3 ∨ 3 = 0)), .bl (decide (i = 4 ∨ 4 = 0)), .bl (decide (i = 5 ∨ 5 = 0)), .bl (decide (i = 6 ∨ 6 = 0)), .bl (decide (i = 7 ∨ 7 = 0)), .bl (decide (i = 8 ∨ 8 = 0)), .bl (decide (i = 9 ∨ 9 = 0)), .bl (decide (i = 10 ∨ 10 = 0)), .bl (decide (i = 11 ∨ 11 = 0)), .bl (decide (i = 12 ∨ 12 = 0)), .bl (decide (i = 13 ∨ 13 = 0)), .bl (decide (i = 14 ∨ 14 = 0)), .bl (decide (i = 15 ∨ 15 = 0)), .bl (decide (i = 16 ∨ 16 = 0)), .bl (decide (i = 17 ∨ 17 = 0)), .bl (decide (i = 18 ∨ 18 = 0))] from rfl]
    have E11 : Ex G10 (upd G10 o11 (.lst [.bl (decide (i = 1 ∨ 1 = 0)), .bl (decide (i = 2 ∨ 2 = 0)), .bl (decide (i = 3 ∨ 3 = 0)), .bl (decide (i = 4 ∨ 4 = 0)), .bl (decide (i = 5 ∨ 5 = 0)), .bl (decide (i = 6 ∨ 6 = 0)), .bl (decide (i = 7 ∨ 7 = 0)), .bl (decide (i = 8 ∨ 8 = 0)), .bl (decide (i = 9 ∨ 9 = 0)), .bl (decide (i = 10 ∨ 10 = 0)), .bl (decide (i = 11 ∨ 11 = 0)), .bl (decide (i = 12 ∨ 12 = 0)), .bl (decide (i = 13 ∨ 13 = 0)), .bl (decide (i = 14 ∨ 14 = 0)), .bl (decide (i = 15 ∨ 15 = 0)), .bl (decide (i = 16 ∨ 16 = 0)), .bl (decide (i = 17 ∨ 17 = 0)), .bl (decide (i = 18 ∨ 18 = 0))])) := Ex.nw n11
    have F11 : (upd G10 o11 (.lst [.bl (decide (i = 1 ∨ 1 = 0)), .bl (decide (i = 2 ∨ 2 = 0)), .bl (decide (i = 3 ∨ 3 = 0)), .bl (decide (i = 4 ∨ 4 = 0)), .bl (decide (i = 5 ∨ 5 = 0)), .bl (decide (i = 6 ∨ 6 = 0)), .bl (decide (i = 7 ∨ 7 = 0)), .bl (decide (i = 8 ∨ 8 = 0)), .bl (decide (i = 9 ∨ 9 = 0)), .bl (decide (i = 10 ∨ 10 = 0)), .bl (decide (i = 11 ∨ 11 = 0)), .bl (decide (i = 12 ∨ 12 = 0)), .bl (decide (i = 13 ∨ 13 = 0)), .bl (decide (i = 14 ∨ 14 = 0)), .bl (decide (i = 15 ∨ 15 = 0)), .bl (decide (i = 16 ∨ 16 = 0)), .bl (decide (i = 17 ∨ 17 = 0)), .bl (decide (i = 18 ∨ 18 = 0))])) o11 = some (.lst [.bl (decide (i = 1 ∨ 1 = 0)), .bl (decide (i = 2 ∨ 2 = 0)), .bl (decide (i = 3 ∨ 3 = 0)), .bl (decide (i = 4 ∨ 4 = 0)), .bl (decide (i = 5 ∨ 5 = 0)), .bl (decide (i = 6 ∨ 6 = 0)), .bl (decide (i = 7 ∨ 7 = 0)), .bl (decide (i = 8 ∨ 8 = 0)), .bl (decide (i = 9 ∨ 9 = 0)), .bl (decide (i = 10 ∨ 10 = 0)), .bl (decide (i = 11 ∨ 11 = 0)), .bl (decide (i = 12 ∨ 12 = 0)), .bl (decide (i = 13 ∨ 13 = 0)), .bl (decide (i = 14 ∨ 14 = 0)), .bl (decide (i = 15 ∨ 15 = 0)), .bl (decide (i = 16 ∨ 16 = 0)), .bl (decide (i = 17 ∨ 17 = 0)), .bl (decide (i = 18 ∨ 18 = 0))]) := upd_same
    have A11 := A10.up E11
    generalize upd G10 o11 (.lst [.bl (decide (i = 1 ∨ 1 = 0)), .bl (decide (i = 2 ∨ 2 = 0)), .bl (decide (i = 3 ∨ 3 = 0)), .bl (decide (i = 4 ∨ 4 = 0)), .bl (decide (i = 5 ∨ 5 = 0)), .bl (decide (i = 6 ∨ 6 = 0)), .bl (decide (i = 7 ∨ 7 = 0)), .bl (decide (i = 8 ∨ 8 = 0)), .bl (decide (i = 9 ∨ 9 = 0)), .bl (decide (i = 10 ∨ 10 = 0)), .bl (decide (i = 11 ∨ 11 = 0)), .bl (decide (i = 12 ∨ 12 = 0)), .bl (decide (i = 13 ∨ 13 = 0)), .bl (decide (i = 14 ∨ 14 = 0)), .bl (decide (i = 15 ∨ 15 = 0)), .bl (decide (i = 16 ∨ 16 = 0)), .bl (decide (i = 17 ∨ 17 = 0)), .bl (decide (i = 18 ∨ 18 = 0))]) = G11 at E11 F11 A11
    refine ⟨_, rfl, ?_⟩
    refine ⟨_, rfl, a, c i, .ref (c 19), .ref (c 19), _, rfl, A11, hc.e i hi, fun u hu => hu, hc.s i 19 hi (by decide), ?_⟩
    refine ⟨_, rfl, a, c i, .ref (c 20), .ref (c 20), _, rfl, A11, hc.e i hi, fun u hu => hu, hc.s i 20 hi (by decide), ?_⟩
    refine ⟨_, rfl, a, c i, .ref (c 21), .ref (c 21), _, rfl, A11, hc.e i hi, fun u hu => hu, hc.s i 21 hi (by decide), ?_⟩
    refine ⟨by show 3 ≤ sizeLine; decide, fun o12 n12 => ?_⟩
    have E12 : Ex G11 (upd G11 o12 (.lst [.bl (decide (i = 19 ∨ 19 = 0)), .bl (decide (i = 20 ∨ 20 = 0)), .bl (decide (i = 21 ∨ 21 = 0))])) := Ex.nw n12
    have F12 : (upd G11 o12 (.lst [.bl (decide (i = 19 ∨ 19 = 0)), .bl (decide (i = 20 ∨ 20 = 0)), .bl (decide (i = 21 ∨ 21 = 0))])) o12 = some (.lst [.bl (decide (i = 19 ∨ 19 = 0)), .bl (decide (i = 20 ∨ 20 = 0)), .bl (decide (i = 21 ∨ 21 = 0))]) := upd_same
    have A12 := A11.up E12
    generalize upd G11 o12 (.lst [.bl (decide (i = 19 ∨ 19 = 0)), .bl (decide (i = 20 ∨ 20 = 0)), .bl (decide (i = 21 ∨ 21 = 0))]) = G12 at E12 F12 A12
    refine ⟨o11, o12, _, _, rfl, rfl, .inl (.inl (E12 _ _ F11)), .inl (.inl F12), by show 18 + 3 ≤ 1000000; decide, fun o13 n13 => ?_⟩
    rw [show ([.bl (decide (i = 1 ∨ 1 = 0)), .bl (decide (i = 2 ∨ 2 = 0)), .bl (decide (i = 3 ∨ 3 = 0)), .bl (decide (i = 4 ∨ 4 = 0)), .bl (decide (i = 5 ∨ 5 = 0)), .bl (decide (i = 6 ∨ 6 = 0)), .bl (decide (i = 7 ∨ 7 = 0)), .bl (decide (i = 8 ∨ 8 = 0)), .bl (decide (i = 9 ∨ 9 = 0)), .bl (decide (i = 10 ∨ 10 = 0)), .bl (decide (i = 11 ∨ 11 = 0)), .bl (decide (i = 12 ∨ 12 = 0)), .bl (decide (i = 13 ∨ 13 = 0)), .bl (decide (i = 14 ∨ 14 = 0)), .bl (decide (i = 15 ∨ 15 = 0)), .bl (decide (i = 16 ∨ 16 = 0)), .bl (decide (i = 17 ∨ 17 = 0)), .bl (decide (i = 18 ∨ 18 = 0))] ++ [.bl (decide (i = 19 ∨ 19 = 0)), .bl (decide (i = 20 ∨ 20 = 0)), .bl (decide (i = 21 ∨ 21 = 0))] : List V) = [.bl (decide (i = 1 ∨ 1 = 0)), .bl (decide (i = 2 ∨ 2 = 0)), .bl (decide (i = 3 ∨ 3 = 0)), .bl (decide (i = 4 ∨ 4 = 0)), .bl (decide (i = 5 ∨ 5 = 0)), .bl (decide (i = 6 ∨ 6 = 0)), .bl (decide (i = 7 ∨ 7 = 0)), .bl (decide (i = 8 ∨ 8 = 0)), .bl (decide (i = 9 ∨ 9 = 0)), .bl (decide (i = 10 ∨ 10 = 0)), .bl (decide (i = 11 ∨ 11 = 0)), .bl (decide (i = 12 ∨ 12 = 0)), .bl (decide (i = 13 ∨ 13 = 0)), .bl (decide (i = 14 ∨ 14 = 0)), .bl (decide (i = 15 ∨ 15 = 0)), .bl (decide (i = 16 ∨ 16 = 0)), .bl (decide (i = 17 ∨ 17 = 0)), .bl (decide (i = 18 ∨ 18 = 0)), .bl (decide (i = 19 ∨ 19 = 0)), .bl (decide (i = 20 ∨ 20 = 0)), .bl (decide (i = 21 ∨ 21 = 0))] from rfl]
    have E13 : Ex G12 (upd G12 o13 (.lst [.bl (decide (i = 1 ∨ 1 = 0)), .bl (decide (i = 2 ∨ 2 = 0)), .bl (decide (i = 3 ∨ 3 = 0)), .bl (decide (i = 4 ∨ 4 = 0)), .bl (decide (i = 5 ∨ 5 = 0)), .bl (decide (i = 6 ∨ 6 = 0)), .bl (decide (i = 7 ∨ 7 = 0)), .bl (decide (i = 8 ∨ 8 = 0)), .bl (decide (i = 9 ∨ 9 = 0)), .bl (decide (i = 10 ∨ 10 = 0)), .bl (decide (i = 11 ∨ 11 = 0)), .bl (decide (i = 12 ∨ 12 = 0)), .bl (decide (i = 13 ∨ 13 = 0)), .bl (decide (i = 14 ∨ 14 = 0)), .bl (decide (i = 15 ∨ 15 = 0)), .bl (decide (i = 16 ∨ 16 = 0)), .bl (decide (i = 17 ∨ 17 = 0)), .bl (decide (i = 18 ∨ 18 = 0)), .bl (decide (i = 19 ∨ 19 = 0)), .bl (decide (i = 20 ∨ 20 = 0)), .bl (decide (i = 21 ∨ 21 = 0))])) := Ex.nw n13
    have F13 : (upd G12 o13 (.lst [.bl (decide (i = 1 ∨ 1 = 0)), .bl (decide (i = 2 ∨ 2 = 0)), .bl (decide (i = 3 ∨ 3 = 0)), .bl (decide (i = 4 ∨ 4 = 0)), .bl (decide (i = 5 ∨ 5 = 0)), .bl (decide (i = 6 ∨ 6 = 0)), .bl (decide (i = 7 ∨ 7 = 0)), .bl (decide (i = 8 ∨ 8 = 0)), .bl (decide (i = 9 ∨ 9 = 0)), .bl (decide (i = 10 ∨ 10 = 0)), .bl (decide (i = 11 ∨ 11 = 0)), .bl (decide (i = 12 ∨ 12 = 0)), .bl (decide (i = 13 ∨ 13 = 0)), .bl (decide (i = 14 ∨ 14 = 0)), .bl (decide (i = 15 ∨ 15 = 0)), .bl (decide (i = 16 ∨ 16 = 0)), .bl (decide (i = 17 ∨ 17 = 0)), .bl (decide (i = 18 ∨ 18 = 0)), .bl (decide (i = 19 ∨ 19 = 0)), .bl (decide (i = 20 ∨ 20 = 0)), .bl (decide (i = 21 ∨ 21 = 0))])) o13 = some (.lst [.bl (decide (i = 1 ∨ 1 = 0)), .bl (decide (i = 2 ∨ 2 = 0)), .bl (decide (i = 3 ∨ 3 = 0)), .bl (decide (i = 4 ∨ 4 = 0)), .bl (decide (i = 5 ∨ 5 = 0)), .bl (decide (i = 6 ∨ 6 = 0)), .bl (decide (i = 7 ∨ 7 = 0)), .bl (decide (i = 8 ∨ 8 = 0)), .bl (decide (i = 9 ∨ 9 = 0)), .bl (decide (i = 10 ∨ 10 = 0)), .bl (decide (i = 11 ∨ 11 = 0)), .bl (decide (i = 12 ∨ 12 = 0)), .bl (decide (i = 13 ∨ 13 = 0)), .bl (decide (i = 14 ∨ 14 = 0)), .bl (decide (i = 15 ∨ 15 = 0)), .bl (decide (i = 16 ∨ 16 = 0)), .bl (decide (i = 17 ∨ 17 = 0)), .bl (decide (i = 18 ∨ 18 = 0)), .bl (decide (i = 19 ∨ 19 = 0)), .bl (decide (i = 20 ∨ 20 = 0)), .bl (decide (i = 21 ∨ 21 = 0))]) := upd_same
    have A13 := A12.up E13
    generalize upd G12 o13 (.lst [.bl (decide (i = 1 ∨ 1 = 0)), .bl (decide (i = 2 ∨ 2 = 0)), .bl (decide (i = 3 ∨ 3 = 0)), .bl (decide (i = 4 ∨ 4 = 0)), .bl (decide (i = 5 ∨ 5 = 0)), .bl (decide (i = 6 ∨ 6 = 0)), .bl (decide (i = 7 ∨ 7 = 0)), .bl (decide (i = 8 ∨ 8 = 0)), .bl (decide (i = 9 ∨ 9 = 0)), .bl (decide (i = 10 ∨ 10 = 0)), .bl (decide (i = 11 ∨ 11 = 0)), .bl (decide (i = 12 ∨ 12 = 0)), .bl (decide (i = 13 ∨ 13 = 0)), .bl (decide (i = 14 ∨ 14 = 0)), .bl (decide (i = 15 ∨ 15 = 0)), .bl (decide (i = 16 ∨ 16 = 0)), .bl (decide (i = 17 ∨ 17 = 0)), .bl (decide (i = 18 ∨ 18 = 0)), .bl (decide (i = 19 ∨ 19 = 0)), .bl (decide (i = 20 ∨ 20 = 0)), .bl (decide (i = 21 ∨ 21 = 0))]) = G13 at E13 F13 A13
    refine ⟨_, rfl, ?_⟩
    exact q _ _ (E1.tr (E2.tr (E3.tr (E4.tr (E5.tr (E6.tr (E7.tr (E8.tr (E9.tr (E10.tr (E11.tr (E12.tr E13)))))))))))) F13
end

end K49
namespace K49
open PySem PySem.Spec PyProof.Rows L2 Nw
/-! _law_made: slots 0 _law_limit_here, 1 _law_place_here, 2 _law_found -/
abbrev s_made : Stmt := topS 25
abbrev N_made : List Str := ["_law_limit_here", "_law_place_here", "_law_found"]
abbrev P_made : List Str := ["_law_limit_here", "_law_place_here"]
theorem sc_made : FnScope N_made P_made (defScope s_made) := ⟨rfl, rfl, rfl, by decide +kernel, rfl, by decide +kernel, by decide +kernel⟩
def ErrAll (K : PySem.W.Frag) (H : Hp) : Nat → List Addr → Prop
  | _, [] => True
  | j, a :: as => (∃ D, ErrOf K (errNm j) D ∧ ErrAt H a D) ∧ ErrAll K H (j + 1) as
theorem ErrAll.at {K : PySem.W.Frag} {H : Hp} : ∀ {as : List Addr} {j n : Nat} {a : Addr}, ErrAll K H j as → as[n]? = some a → ∃ D, ErrOf K (errNm (j + n)) D ∧ ErrAt H a D
  | [], _, _, _, _, h => by cases h
  | b :: as, j, 0, a, g, h => by
    obtain rfl := Option.some.inj h
    exact g.1
  | b :: as, j, n + 1, a, g, h => by
    have := g.2.at (n := n) h
    rw [show j + (n + 1) = j + 1 + n by omega]
    exact this
theorem ErrAll.up {K : PySem.W.Frag} {H H' : Hp} (e : Ex H H') : ∀ {as : List Addr} {j : Nat}, ErrAll K H j as → ErrAll K H' j as
  | [], _, _ => trivial
  | a :: as, j, h => by
    obtain ⟨D, h1, h2⟩ := h.1
    exact ⟨⟨D, h1, h2.up e⟩, ErrAll.up e h.2⟩
/-- an error of the class named x, at a, whose field f holds v -/
def HasF (K : PySem.W.Frag) (H : Hp) (x f : Str) (a : Addr) (v : V) : Prop := ∃ D dd, ErrOf K x D ∧ H a = some (ExK (.ref D) (some dd) a) ∧ H dd = some (.xd [(f, v)])
theorem HasF.up {K : PySem.W.Frag} {H H' : Hp} {x f : Str} {a : Addr} {v : V} (h : HasF K H x f a v) (e : Ex H H') : HasF K H' x f a v := by
  obtain ⟨D, dd, h1, h2, h3⟩ := h
  exact ⟨D, dd, h1, e _ _ h2, e _ _ h3⟩
def sp_made (K : PySem.W.Frag) : Sp := fun vs H Q _ => ∃ l p : V, vs = [l, p] ∧ ∀ R (as : List Addr) H', Ex H H' → H' R = some (.lst (as.map V.ref)) → as.length = 21 → ErrAll K H' 1 as →
  (∃ a, as[19]? = some a ∧ HasF K H' "TooLarge" "limit" a l) → (∃ a, as[20]? = some a ∧ HasF K H' "InvalidText" "place" a p) → Q (.ref R) H'
section
variable {P : Program} {w : World} {K : PySem.W.Frag} {mg : Str → Option Value} {base : Heap}
theorem ok_made {f : Addr} {fd : FuncData} (T : Txt K mg) (F : Fun K "_law_made" "_law_made" s_made f fd) :
    FnG P w K mg base CX0 1 f fd P_made (sp_made K) := by
  refine okG0 F sc_made (fun vs H Q E h => ?_) (fun cdv A outer s H vs Q E hr hq h => ?_)
  · obtain ⟨l, p, rfl, _⟩ := h
    rfl
  · obtain ⟨l, p, rfl, q⟩ := h
    obtain ⟨c, fB, fP, hc⟩ := T.fam
    refine ⟨_, (pss_cons (ps_set (i := 2) sc_made.nd rfl (by first | exact .inl rfl | exact .inr rfl) (pe_lst (pa_cons (pe_exc1 PySem.F.excBase_ValueError (hc.x 1 (by decide)) hc.g_InvalidWeb (hc.k 1 (by decide)) (by rfl) pe_str) (pa_cons (pe_exc1 PySem.F.excBase_ValueError (hc.x 2 (by decide)) hc.g_InvalidSource (hc.k 2 (by decide)) (by rfl) pe_str) (pa_cons (pe_exc1 PySem.F.excBase_ValueError (hc.x 3 (by decide)) hc.g_InvalidQuantity (hc.k 3 (by decide)) (by rfl) pe_str) (pa_cons (pe_exc1 PySem.F.excBase_ValueError (hc.x 4 (by decide)) hc.g_InvalidTargets (hc.k 4 (by decide)) (by rfl) pe_str) pa_nil))))))
      (pss_cons (ps_set (i := 2) sc_made.nd rfl (by first | exact .inl rfl | exact .inr rfl) (pe_op (op_catS K) (pv 2) (pe_lst (pa_cons (pe_exc1 PySem.F.excBase_ValueError (hc.x 5 (by decide)) hc.g_InvalidNudge (hc.k 5 (by decide)) (by rfl) pe_str) (pa_cons (pe_exc1 PySem.F.excBase_ValueError (hc.x 6 (by decide)) hc.g_InvalidOrder (hc.k 6 (by decide)) (by rfl) pe_str) (pa_cons (pe_exc1 PySem.F.excBase_ValueError (hc.x 7 (by decide)) hc.g_InvalidLinks (hc.k 7 (by decide)) (by rfl) pe_str) (pa_cons (pe_exc1 PySem.F.excBase_ValueError (hc.x 8 (by decide)) hc.g_InvalidKind (hc.k 8 (by decide)) (by rfl) pe_str) pa_nil)))))))
      (pss_cons (ps_set (i := 2) sc_made.nd rfl (by first | exact .inl rfl | exact .inr rfl) (pe_op (op_catS K) (pv 2) (pe_lst (pa_cons (pe_exc1 PySem.F.excBase_ValueError (hc.x 9 (by decide)) hc.g_InvalidFort (hc.k 9 (by decide)) (by rfl) pe_str) (pa_cons (pe_exc1 PySem.F.excBase_ValueError (hc.x 10 (by decide)) hc.g_InvalidFilling (hc.k 10 (by decide)) (by rfl) pe_str) (pa_cons (pe_exc1 PySem.F.excBase_ValueError (hc.x 11 (by decide)) hc.g_InvalidState (hc.k 11 (by decide)) (by rfl) pe_str) pa_nil))))))
      (pss_cons (ps_set (i := 2) sc_made.nd rfl (by first | exact .inl rfl | exact .inr rfl) (pe_op (op_catS K) (pv 2) (pe_lst (pa_cons (pe_exc1 PySem.F.excBase_ValueError (hc.x 12 (by decide)) hc.g_InvalidGiven (hc.k 12 (by decide)) (by rfl) pe_str) (pa_cons (pe_exc1 PySem.F.excBase_ValueError (hc.x 13 (by decide)) hc.g_InvalidHill (hc.k 13 (by decide)) (by rfl) pe_str) (pa_cons (pe_exc1 PySem.F.excBase_ValueError (hc.x 14 (by decide)) hc.g_InvalidNumber (hc.k 14 (by decide)) (by rfl) pe_str) pa_nil))))))
      (pss_cons (ps_set (i := 2) sc_made.nd rfl (by first | exact .inl rfl | exact .inr rfl) (pe_op (op_catS K) (pv 2) (pe_lst (pa_cons (pe_exc1 PySem.F.excBase_ValueError (hc.x 15 (by decide)) hc.g_InvalidChange (hc.k 15 (by decide)) (by rfl) pe_str) (pa_cons (pe_exc1 PySem.F.excBase_ValueError (hc.x 16 (by decide)) hc.g_InvalidCommand (hc.k 16 (by decide)) (by rfl) pe_str) (pa_cons (pe_exc1 PySem.F.excBase_ValueError (hc.x 17 (by decide)) hc.g_NoLine (hc.k 17 (by decide)) (by rfl) pe_str) pa_nil))))))
      (pss_cons (ps_set (i := 2) sc_made.nd rfl (by first | exact .inl rfl | exact .inr rfl) (pe_op (op_catS K) (pv 2) (pe_lst (pa_cons (pe_exc1 PySem.F.excBase_ValueError (hc.x 18 (by decide)) hc.g_LineThere (hc.k 18 (by decide)) (by rfl) pe_str) (pa_cons (pe_exc1 PySem.F.excBase_ValueError (hc.x 19 (by decide)) hc.g_NothingToUndo (hc.k 19 (by decide)) (by rfl) pe_str) pa_nil)))))
      (pss_one (ps_ret (pe_op (op_catS K) (pv 2) (pe_lst (pa_cons (pe_bigV hc.big hr (pa_cons (pv 0) pa_nil)) (pa_cons (pe_plcV hc.plc hr (pa_cons (pv 1) pa_nil)) pa_nil)))))))))))), ?_⟩
    refine fun o1 n1 => ?_
    have E1 : Ex H (upd H o1 (ExO (.ref (c 1)) o1)) := Ex.nw n1
    have F1 : (upd H o1 (ExO (.ref (c 1)) o1)) o1 = some (ExO (.ref (c 1)) o1) := upd_same
    generalize upd H o1 (ExO (.ref (c 1)) o1) = G1 at E1 F1
    refine fun o2 n2 => ?_
    have E2 : Ex G1 (upd G1 o2 (ExO (.ref (c 2)) o2)) := Ex.nw n2
    have F2 : (upd G1 o2 (ExO (.ref (c 2)) o2)) o2 = some (ExO (.ref (c 2)) o2) := upd_same
    generalize upd G1 o2 (ExO (.ref (c 2)) o2) = G2 at E2 F2
    refine fun o3 n3 => ?_
    have E3 : Ex G2 (upd G2 o3 (ExO (.ref (c 3)) o3)) := Ex.nw n3
    have F3 : (upd G2 o3 (ExO (.ref (c 3)) o3)) o3 = some (ExO (.ref (c 3)) o3) := upd_same
    generalize upd G2 o3 (ExO (.ref (c 3)) o3) = G3 at E3 F3
    refine fun o4 n4 => ?_
    have E4 : Ex G3 (upd G3 o4 (ExO (.ref (c 4)) o4)) := Ex.nw n4
    have F4 : (upd G3 o4 (ExO (.ref (c 4)) o4)) o4 = some (ExO (.ref (c 4)) o4) := upd_same
    generalize upd G3 o4 (ExO (.ref (c 4)) o4) = G4 at E4 F4
    refine ⟨by show 4 ≤ sizeLine; decide, fun o5 n5 => ?_⟩
    have E5 : Ex G4 (upd G4 o5 (.lst [.ref o1, .ref o2, .ref o3, .ref o4])) := Ex.nw n5
    have F5 : (upd G4 o5 (.lst [.ref o1, .ref o2, .ref o3, .ref o4])) o5 = some (.lst [.ref o1, .ref o2, .ref o3, .ref o4]) := upd_same
    generalize upd G4 o5 (.lst [.ref o1, .ref o2, .ref o3, .ref o4]) = G5 at E5 F5
    refine ⟨_, rfl, ?_⟩
    refine fun o6 n6 => ?_
    have E6 : Ex G5 (upd G5 o6 (ExO (.ref (c 5)) o6)) := Ex.nw n6
    have F6 : (upd G5 o6 (ExO (.ref (c 5)) o6)) o6 = some (ExO (.ref (c 5)) o6) := upd_same
    generalize upd G5 o6 (ExO (.ref (c 5)) o6) = G6 at E6 F6
    refine fun o7 n7 => ?_
    have E7 : Ex G6 (upd G6 o7 (ExO (.ref (c 6)) o7)) := Ex.nw n7
    have F7 : (upd G6 o7 (ExO (.ref (c 6)) o7)) o7 = some (ExO (.ref (c 6)) o7) := upd_same
    generalize upd G6 o7 (ExO (.ref (c 6)) o7) = G7 at E7 F7
    refine fun o8 n8 => ?_
    have E8 : Ex G7 (upd G7 o8 (ExO (.ref (c 7)) o8)) := Ex.nw n8
    have F8 : (upd G7 o8 (ExO (.ref (c 7)) o8)) o8 = some (ExO (.ref (c 7)) o8) := upd_same
    generalize upd G7 o8 (ExO (.ref (c 7)) o8) = G8 at E8 F8
    refine fun o9 n9 => ?_
    have E9 : Ex G8 (upd G8 o9 (ExO (.ref (c 8)) o9)) := Ex.nw n9
    have F9 : (upd G8 o9 (ExO (.ref (c 8)) o9)) o9 = some (ExO (.ref (c 8)) o9) := upd_same
    generalize upd G8 o9 (ExO (.ref (c 8)) o9) = G9 at E9 F9
    refine ⟨by show 4 ≤ sizeLine; decide, fun o10 n10 => ?_⟩
    have E10 : Ex G9 (upd G9 o10 (.lst [.ref o6, .ref o7, .ref o8, .ref o9])) := Ex.nw n10
    have F10 : (upd G9 o10 (.lst [.ref o6, .ref o7, .ref o8, .ref o9])) o10 = some (.lst [.ref o6, .ref o7, .ref o8, .ref o9]) := upd_same
    generalize upd G9 o10 (.lst [.ref o6, .ref o7, .ref o8, .ref o9]) = G10 at E10 F10
    refine ⟨o5, o10, _, _, rfl, rfl, .inl (.inl ((E6.tr (E7.tr (E8.tr (E9.tr E10)))) _ _ F5)), .inl (.inl F10), by show 4 + 4 ≤ 1000000; decide, fun o11 n11 => ?_⟩
    rw [show ([.ref o1, .ref o2, .ref o3, .ref o4] ++ [.ref o6, .ref o7, .ref o8, .ref o9] : List V) = [.ref o1, .ref o2, .ref o3, .ref o4, .ref o6, .ref o7, .ref o8, .ref o9] from rfl]
    have E11 : Ex G10 (upd G10 o11 (.lst [.ref o1, .ref o2, .ref o3, .ref o4, .ref o6, .ref o7, .ref o8, .ref o9])) := Ex.nw n11
    have F11 : (upd G10 o11 (.lst [.ref o1, .ref o2, .ref o3, .ref o4, .ref o6, .ref o7, .ref o8, .ref o9])) o11 = some (.lst [.ref o1, .ref o2, .ref o3, .ref o4, .ref o6, .ref o7, .ref o8, .ref o9]) := upd_same
    generalize upd G10 o11 (.lst [.ref o1, .ref o2, .ref o3, .ref o4, .ref o6, .ref o7, .ref o8, .ref o9]) = G11 at E11 F11
    refine ⟨_, rfl, ?_⟩
    refine fun o12 n12 => ?_
    have E12 : Ex G11 (upd G11 o12 (ExO (.ref (c 9)) o12)) := Ex.nw n12
    have F12 : (upd G11 o12 (ExO (.ref (c 9)) o12)) o12 = some (ExO (.ref (c 9)) o12) := upd_same
    generalize upd G11 o12 (ExO (.ref (c 9)) o12) = G12 at E12 F12
    refine fun o13 n13 => ?_
    have E13 : Ex G12 (upd G12 o13 (ExO (.ref (c 10)) o13)) := Ex.nw n13
    have F13 : (upd G12 o13 (ExO (.ref (c 10)) o13)) o13 = some (ExO (.ref (c 10)) o13) := upd_same
    generalize upd G12 o13 (ExO (.ref (c 10)) o13) = G13 at E13 F13
    refine fun o14 n14 => ?_
    have E14 : Ex G13 (upd G13 o14 (ExO (.ref (c 11)) o14)) := Ex.nw n14
    have F14 : (upd G13 o14 (ExO (.ref (c 11)) o14)) o14 = some (ExO (.ref (c 11)) o14) := upd_same
    generalize upd G13 o14 (ExO (.ref (c 11)) o14) = G14 at E14 F14
    refine ⟨by show 3 ≤ sizeLine; decide, fun o15 n15 => ?_⟩
    have E15 : Ex G14 (upd G14 o15 (.lst [.ref o12, .ref o13, .ref o14])) := Ex.nw n15
    have F15 : (upd G14 o15 (.lst [.ref o12, .ref o13, .ref o14])) o15 = some (.lst [.ref o12, .ref o13, .ref o14]) := upd_same
    generalize upd G14 o15 (.lst [.ref o12, .ref o13, .ref o14]) = G15 at E15 F15
    refine ⟨o11, o15, _, _, rfl, rfl, .inl (.inl ((E12.tr (E13.tr (E14.tr E15))) _ _ F11)), .inl (.inl F15), by show 8 + 3 ≤ 1000000; decide, fun o16 n16 => ?_⟩
    rw [show ([.ref o1, .ref o2, .ref o3, .ref o4, .ref o6, .ref o7, .ref o8, .ref o9] ++ [.ref o12, .ref o13, .ref o14] : List V) = [.ref o1, .ref o2, .ref o3, .ref o4, .ref o6, .ref o7, .ref o8, .ref o9, .ref o12, .ref o13, .ref o14] from rfl]
    have E16 : Ex G15 (upd G15 o16 (.lst [.ref o1, .ref o2, .ref o3, .ref o4, .ref o6, .ref o7, .ref o8, .ref o9, .ref o12, .ref o13, .ref o14])) := Ex.nw n16
    have F16 : (upd G15 o16 (.lst [.ref o1, .ref o2, .ref o3, .ref o4, .ref o6, .ref o7, .ref o8, .ref o9, .ref o12, .ref o13, .ref o14])) o16 = some (.lst [.ref o1, .ref o2, .ref o3, .ref o4, .ref o6, .ref o7, .ref o8, .ref o9, .ref o12, .ref o13, .ref o14]) := upd_same
    generalize upd G15 o16 (.lst [.ref o1, .ref o2, .ref o3, .ref o4, .ref o6, .ref o7, .ref o8, .ref o9, .ref o12, .ref o13, .ref o14]) = G16 at E16 F16
    refine ⟨_, rfl, ?_⟩
    refine fun o17 n17 => ?_
    have E17 : Ex G16 (upd G16 o17 (ExO (.ref (c 12)) o17)) := Ex.nw n17
    have F17 : (upd G16 o17 (ExO (.ref (c 12)) o17)) o17 = some (ExO (.ref (c 12)) o17) := upd_same
    generalize upd G16 o17 (ExO (.ref (c 12)) o17) = G17 at E17 F17
    refine fun o18 n18 => ?_
    have E18 : Ex G17 (upd G17 o18 (ExO (.ref (c 13)) o18)) := Ex.nw n18
    have F18 : (upd G17 o18 (ExO (.ref (c 13)) o18)) o18 = some (ExO (.ref (c 13)) o18) := upd_same
    generalize upd G17 o18 (ExO (.ref (c 13)) o18) = G18 at E18 F18
    refine fun o19 n19 => ?_
    have E19 : Ex G18 (upd G18 o19 (ExO (.ref (c 14)) o19)) := Ex.nw n19
    have F19 : (upd G18 o19 (ExO (.ref (c 14)) o19)) o19 = some (ExO (.ref (c 14)) o19) := upd_same
    generalize upd G18 o19 (ExO (.ref (c 14)) o19) = G19 at E19 F19
    refine ⟨by show 3 ≤ sizeLine; decide, fun o20 n20 => ?_⟩
    have E20 : Ex G19 (upd G19 o20 (.lst [.ref o17, .ref o18, .ref o19])) := Ex.nw n20
    have F20 : (upd G19 o20 (.lst [.ref o17, .ref o18, .ref o19])) o20 = some (.lst [.ref o17, .ref o18, .ref o19]) := upd_same
    generalize upd G19 o20 (.lst [.ref o17, .ref o18, .ref o19]) = G20 at E20 F20
    refine ⟨o16, o20, _, _, rfl, rfl, .inl (.inl ((E17.tr (E18.tr (E19.tr E20))) _ _ F16)), .inl (.inl F20), by show 11 + 3 ≤ 1000000; decide, fun o21 n21 => ?_⟩
    rw [show ([.ref o1, .ref o2, .ref o3, .ref o4, .ref o6, .ref o7, .ref o8, .ref o9, .ref o12, .ref o13, .ref o14] ++ [.ref o17, .ref o18, .ref o19] : List V) = [.ref o1, .ref o2, .ref o3, .ref o4, .ref o6, .ref o7, .ref o8, .ref o9, .ref o12, .ref o13, .ref o14, .ref o17, .ref o18, .ref o19] from rfl]
    have E21 : Ex G20 (upd G20 o21 (.lst [.ref o1, .ref o2, .ref o3, .ref o4, .ref o6, .ref o7, .ref o8, .ref o9, .ref o12, .ref o13, .ref o14, .ref o17, .ref o18, .ref o19])) := Ex.nw n21
    have F21 : (upd G20 o21 (.lst [.ref o1, .ref o2, .ref o3, .ref o4, .ref o6, .ref o7, .ref o8, .ref o9, .ref o12, .ref o13, .ref o14, .ref o17, .ref o18, .ref o19])) o21 = some (.lst [.ref o1, .ref o2, .ref o3, .ref o4, .ref o6, .ref o7, .ref o8, .ref o9, .ref o12, .ref o13, .ref o14, .ref o17, .ref o18, .ref o19]) := upd_same
    generalize upd G20 o21 (.lst [.ref o1, .ref o2, .ref o3, .ref o4, .ref o6, .ref o7, .ref o8, .ref o9, .ref o12, .ref o13, .ref o14, .ref o17, .ref o18, .ref o19]) = G21 at E21 F21
    refine ⟨_, rfl, ?_⟩
    refine fun o22 n22 => ?_
    have E22 : Ex G21 (upd G21 o22 (ExO (.ref (c 15)) o22)) := Ex.nw n22
    have F22 : (upd G21 o22 (ExO (.ref (c 15)) o22)) o22 = some (ExO (.ref (c 15)) o22) := upd_same
    generalize upd G21 o22 (ExO (.ref (c 15)) o22) = G22 at E22 F22
    refine fun o23 n23 => ?_
    have E23 : Ex G22 (upd G22 o23 (ExO (.ref (c 16)) o23)) := Ex.nw n23
    have F23 : (upd G22 o23 (ExO (.ref (c 16)) o23)) o23 = some (ExO (.ref (c 16)) o23) := upd_same
    generalize upd G22 o23 (ExO (.ref (c 16)) o23) = G23 at E23 F23
    refine fun o24 n24 => ?_
    have E24 : Ex G23 (upd G23 o24 (ExO (.ref (c 17)) o24)) := Ex.nw n24
    have F24 : (upd G23 o24 (ExO (.ref (c 17)) o24)) o24 = some (ExO (.ref (c 17)) o24) := upd_same
    generalize upd G23 o24 (ExO (.ref (c 17)) o24) = G24 at E24 F24
    refine ⟨by show 3 ≤ sizeLine; decide, fun o25 n25 => ?_⟩
    have E25 : Ex G24 (upd G24 o25 (.lst [.ref o22, .ref o23, .ref o24])) := Ex.nw n25
    have F25 : (upd G24 o25 (.lst [.ref o22, .ref o23, .ref o24])) o25 = some (.lst [.ref o22, .ref o23, .ref o24]) := upd_same
    generalize upd G24 o25 (.lst [.ref o22, .ref o23, .ref o24]) = G25 at E25 F25
    refine ⟨o21, o25, _, _, rfl, rfl, .inl (.inl ((E22.tr (E23.tr (E24.tr E25))) _ _ F21)), .inl (.inl F25), by show 14 + 3 ≤ 1000000; decide, fun o26 n26 => ?_⟩
    rw [show ([.ref o1, .ref o2, .ref o3, .ref o4, .ref o6, .ref o7, .ref o8, .ref o9, .ref o12, .ref o13, .ref o14, .ref o17, .ref o18, .ref o19] ++ [.ref o22, .ref o23, .ref o24] : List V) = [.ref o1, .ref o2, .ref o3, .ref o4, .ref o6, .ref o7, .ref o8, .ref o9, .ref o12, .ref o13, .ref o14, .ref o17, .ref o18, .ref o19, .ref o22, .ref o23, .ref o24] from rfl]
    have E26 : Ex G25 (upd G25 o26 (.lst [.ref o1, .ref o2, .ref o3, .ref o4, .ref o6, .ref o7, .ref o8, .ref o9, .ref o12, .ref o13, .ref o14, .ref o17, .ref o18, .ref o19, .ref o22, .ref o23, .ref o24])) := Ex.nw n26
    have F26 : (upd G25 o26 (.lst [.ref o1, .ref o2, .ref o3, .ref o4, .ref o6, .ref o7, .ref o8, .ref o9, .ref o12, .ref o13, .ref o14, .ref o17, .ref o18, .ref o19, .ref o22, .ref o23, .ref o24])) o26 = some (.lst [.ref o1, .ref o2, .ref o3, .ref o4, .ref o6, .ref o7, .ref o8, .ref o9, .ref o12, .ref o13, .ref o14, .ref o17, .ref o18, .ref o19, .ref o22, .ref o23, .ref o24]) := upd_same
    generalize upd G25 o26 (.lst [.ref o1, .ref o2, .ref o3, .ref o4, .ref o6, .ref o7, .ref o8, .ref o9, .ref o12, .ref o13, .ref o14, .ref o17, .ref o18, .ref o19, .ref o22, .ref o23, .ref o24]) = G26 at E26 F26
    refine ⟨_, rfl, ?_⟩
    refine fun o27 n27 => ?_
    have E27 : Ex G26 (upd G26 o27 (ExO (.ref (c 18)) o27)) := Ex.nw n27
    have F27 : (upd G26 o27 (ExO (.ref (c 18)) o27)) o27 = some (ExO (.ref (c 18)) o27) := upd_same
    generalize upd G26 o27 (ExO (.ref (c 18)) o27) = G27 at E27 F27
    refine fun o28 n28 => ?_
    have E28 : Ex G27 (upd G27 o28 (ExO (.ref (c 19)) o28)) := Ex.nw n28
    have F28 : (upd G27 o28 (ExO (.ref (c 19)) o28)) o28 = some (ExO (.ref (c 19)) o28) := upd_same
    generalize upd G27 o28 (ExO (.ref (c 19)) o28) = G28 at E28 F28
    refine ⟨by show 2 ≤ sizeLine; decide, fun o29 n29 => ?_⟩
    have E29 : Ex G28 (upd G28 o29 (.lst [.ref o27, .ref o28])) := Ex.nw n29
    have F29 : (upd G28 o29 (.lst [.ref o27, .ref o28])) o29 = some (.lst [.ref o27, .ref o28]) := upd_same
    generalize upd G28 o29 (.lst [.ref o27, .ref o28]) = G29 at E29 F29
    refine ⟨o26, o29, _, _, rfl, rfl, .inl (.inl ((E27.tr (E28.tr E29)) _ _ F26)), .inl (.inl F29), by show 17 + 2 ≤ 1000000; decide, fun o30 n30 => ?_⟩
    rw [show ([.ref o1, .ref o2, .ref o3, .ref o4, .ref o6, .ref o7, .ref o8, .ref o9, .ref o12, .ref o13, .ref o14, .ref o17, .ref o18, .ref o19, .ref o22, .ref o23, .ref o24] ++ [.ref o27, .ref o28] : List V) = [.ref o1, .ref o2, .ref o3, .ref o4, .ref o6, .ref o7, .ref o8, .ref o9, .ref o12, .ref o13, .ref o14, .ref o17, .ref o18, .ref o19, .ref o22, .ref o23, .ref o24, .ref o27, .ref o28] from rfl]
    have E30 : Ex G29 (upd G29 o30 (.lst [.ref o1, .ref o2, .ref o3, .ref o4, .ref o6, .ref o7, .ref o8, .ref o9, .ref o12, .ref o13, .ref o14, .ref o17, .ref o18, .ref o19, .ref o22, .ref o23, .ref o24, .ref o27, .ref o28])) := Ex.nw n30
    have F30 : (upd G29 o30 (.lst [.ref o1, .ref o2, .ref o3, .ref o4, .ref o6, .ref o7, .ref o8, .ref o9, .ref o12, .ref o13, .ref o14, .ref o17, .ref o18, .ref o19, .ref o22, .ref o23, .ref o24, .ref o27, .ref o28])) o30 = some (.lst [.ref o1, .ref o2, .ref o3, .ref o4, .ref o6, .ref o7, .ref o8, .ref o9, .ref o12, .ref o13, .ref o14, .ref o17, .ref o18, .ref o19, .ref o22, .ref o23, .ref o24, .ref o27, .ref o28]) := upd_same
    generalize upd G29 o30 (.lst [.ref o1, .ref o2, .ref o3, .ref o4, .ref o6, .ref o7, .ref o8, .ref o9, .ref o12, .ref o13, .ref o14, .ref o17, .ref o18, .ref o19, .ref o22, .ref o23, .ref o24, .ref o27, .ref o28]) = G30 at E30 F30
    refine ⟨_, rfl, ?_⟩
    refine ⟨_, rfl, _, rfl, fun o31 o32 n31 n32 x32 => ?_⟩
    have E31 : Ex G30 (upd G30 o31 (.xd [(("limit" : Str), l)])) := Ex.nw n31
    have F31 : (upd G30 o31 (.xd [(("limit" : Str), l)])) o31 = some (.xd [(("limit" : Str), l)]) := upd_same
    have m32 : (upd G30 o31 (.xd [(("limit" : Str), l)])) o32 = none := by rw [upd_ne x32]; exact n32
    generalize upd G30 o31 (.xd [(("limit" : Str), l)]) = G31 at E31 F31 m32
    have E32 : Ex G31 (upd G31 o32 (Nw.ExK (.ref (c 20)) (some o31) o32)) := Ex.nw m32
    have F32 : (upd G31 o32 (Nw.ExK (.ref (c 20)) (some o31) o32)) o32 = some (Nw.ExK (.ref (c 20)) (some o31) o32) := upd_same
    generalize upd G31 o32 (Nw.ExK (.ref (c 20)) (some o31) o32) = G32 at E32 F32
    refine ⟨_, rfl, _, rfl, fun o33 o34 n33 n34 x34 => ?_⟩
    have E33 : Ex G32 (upd G32 o33 (.xd [(("place" : Str), p)])) := Ex.nw n33
    have F33 : (upd G32 o33 (.xd [(("place" : Str), p)])) o33 = some (.xd [(("place" : Str), p)]) := upd_same
    have m34 : (upd G32 o33 (.xd [(("place" : Str), p)])) o34 = none := by rw [upd_ne x34]; exact n34
    generalize upd G32 o33 (.xd [(("place" : Str), p)]) = G33 at E33 F33 m34
    have E34 : Ex G33 (upd G33 o34 (Nw.ExK (.ref (c 21)) (some o33) o34)) := Ex.nw m34
    have F34 : (upd G33 o34 (Nw.ExK (.ref (c 21)) (some o33) o34)) o34 = some (Nw.ExK (.ref (c 21)) (some o33) o34) := upd_same
    generalize upd G33 o34 (Nw.ExK (.ref (c 21)) (some o33) o34) = G34 at E34 F34
    refine ⟨by show 2 ≤ sizeLine; decide, fun o35 n35 => ?_⟩
    have E35 : Ex G34 (upd G34 o35 (.lst [.ref o32, .ref o34])) := Ex.nw n35
    have F35 : (upd G34 o35 (.lst [.ref o32, .ref o34])) o35 = some (.lst [.ref o32, .ref o34]) := upd_same
    generalize upd G34 o35 (.lst [.ref o32, .ref o34]) = G35 at E35 F35
    refine ⟨o30, o35, _, _, rfl, rfl, .inl (.inl ((E31.tr (E32.tr (E33.tr (E34.tr E35)))) _ _ F30)), .inl (.inl F35), by show 19 + 2 ≤ 1000000; decide, fun o36 n36 => ?_⟩
    rw [show ([.ref o1, .ref o2, .ref o3, .ref o4, .ref o6, .ref o7, .ref o8, .ref o9, .ref o12, .ref o13, .ref o14, .ref o17, .ref o18, .ref o19, .ref o22, .ref o23, .ref o24, .ref o27, .ref o28] ++ [.ref o32, .ref o34] : List V) = [.ref o1, .ref o2, .ref o3, .ref o4, .ref o6, .ref o7, .ref o8, .ref o9, .ref o12, .ref o13, .ref o14, .ref o17, .ref o18, .ref o19, .ref o22, .ref o23, .ref o24, .ref o27, .ref o28, .ref o32, .ref o34] from rfl]
    have E36 : Ex G35 (upd G35 o36 (.lst [.ref o1, .ref o2, .ref o3, .ref o4, .ref o6, .ref o7, .ref o8, .ref o9, .ref o12, .ref o13, .ref o14, .ref o17, .ref o18, .ref o19, .ref o22, .ref o23, .ref o24, .ref o27, .ref o28, .ref o32, .ref o34])) := Ex.nw n36
    have F36 : (upd G35 o36 (.lst [.ref o1, .ref o2, .ref o3, .ref o4, .ref o6, .ref o7, .ref o8, .ref o9, .ref o12, .ref o13, .ref o14, .ref o17, .ref o18, .ref o19, .ref o22, .ref o23, .ref o24, .ref o27, .ref o28, .ref o32, .ref o34])) o36 = some (.lst [.ref o1, .ref o2, .ref o3, .ref o4, .ref o6, .ref o7, .ref o8, .ref o9, .ref o12, .ref o13, .ref o14, .ref o17, .ref o18, .ref o19, .ref o22, .ref o23, .ref o24, .ref o27, .ref o28, .ref o32, .ref o34]) := upd_same
    generalize upd G35 o36 (.lst [.ref o1, .ref o2, .ref o3, .ref o4, .ref o6, .ref o7, .ref o8, .ref o9, .ref o12, .ref o13, .ref o14, .ref o17, .ref o18, .ref o19, .ref o22, .ref o23, .ref o24, .ref o27, .ref o28, .ref o32, .ref o34]) = G36 at E36 F36
    have q1 : ∃ D, ErrOf K (errNm 1) D ∧ ErrAt G36 o1 D := ⟨_, hc.n 1 (by decide), .inl ((E2.tr (E3.tr (E4.tr (E5.tr (E6.tr (E7.tr (E8.tr (E9.tr (E10.tr (E11.tr (E12.tr (E13.tr (E14.tr (E15.tr (E16.tr (E17.tr (E18.tr (E19.tr (E20.tr (E21.tr (E22.tr (E23.tr (E24.tr (E25.tr (E26.tr (E27.tr (E28.tr (E29.tr (E30.tr (E31.tr (E32.tr (E33.tr (E34.tr (E35.tr E36)))))))))))))))))))))))))))))))))) _ _ F1)⟩
    have q2 : ∃ D, ErrOf K (errNm 2) D ∧ ErrAt G36 o2 D := ⟨_, hc.n 2 (by decide), .inl ((E3.tr (E4.tr (E5.tr (E6.tr (E7.tr (E8.tr (E9.tr (E10.tr (E11.tr (E12.tr (E13.tr (E14.tr (E15.tr (E16.tr (E17.tr (E18.tr (E19.tr (E20.tr (E21.tr (E22.tr (E23.tr (E24.tr (E25.tr (E26.tr (E27.tr (E28.tr (E29.tr (E30.tr (E31.tr (E32.tr (E33.tr (E34.tr (E35.tr E36))))))))))))))))))))))))))))))))) _ _ F2)⟩
    have q3 : ∃ D, ErrOf K (errNm 3) D ∧ ErrAt G36 o3 D := ⟨_, hc.n 3 (by decide), .inl ((E4.tr (E5.tr (E6.tr (E7.tr (E8.tr (E9.tr (E10.tr (E11.tr (E12.tr (E13.tr (E14.tr (E15.tr (E16.tr (E17.tr (E18.tr (E19.tr (E20.tr (E21.tr (E22.tr (E23.tr (E24.tr (E25.tr (E26.tr (E27.tr (E28.tr (E29.tr (E30.tr (E31.tr (E32.tr (E33.tr (E34.tr (E35.tr E36)))))))))))))))))))))))))))))))) _ _ F3)⟩
    have q4 : ∃ D, ErrOf K (errNm 4) D ∧ ErrAt G36 o4 D := ⟨_, hc.n 4 (by decide), .inl ((E5.tr (E6.tr (E7.tr (E8.tr (E9.tr (E10.tr (E11.tr (E12.tr (E13.tr (E14.tr (E15.tr (E16.tr (E17.tr (E18.tr (E19.tr (E20.tr (E21.tr (E22.tr (E23.tr (E24.tr (E25.tr (E26.tr (E27.tr (E28.tr (E29.tr (E30.tr (E31.tr (E32.tr (E33.tr (E34.tr (E35.tr E36))))))))))))))))))))))))))))))) _ _ F4)⟩
    have q5 : ∃ D, ErrOf K (errNm 5) D ∧ ErrAt G36 o6 D := ⟨_, hc.n 5 (by decide), .inl ((E7.tr (E8.tr (E9.tr (E10.tr (E11.tr (E12.tr (E13.tr (E14.tr (E15.tr (E16.tr (E17.tr (E18.tr (E19.tr (E20.tr (E21.tr (E22.tr (E23.tr (E24.tr (E25.tr (E26.tr (E27.tr (E28.tr (E29.tr (E30.tr (E31.tr (E32.tr (E33.tr (E34.tr (E35.tr E36))))))))))))))))))))))))))))) _ _ F6)⟩
    have q6 : ∃ D, ErrOf K (errNm 6) D ∧ ErrAt G36 o7 D := ⟨_, hc.n 6 (by decide), .inl ((E8.tr (E9.tr (E10.tr (E11.tr (E12.tr (E13.tr (E14.tr (E15.tr (E16.tr (E17.tr (E18.tr (E19.tr (E20.tr (E21.tr (E22.tr (E23.tr (E24.tr (E25.tr (E26.tr (E27.tr (E28.tr (E29.tr (E30.tr (E31.tr (E32.tr (E33.tr (E34.tr (E35.tr E36)))))))))))))))))))))))))))) _ _ F7)⟩
    have q7 : ∃ D, ErrOf K (errNm 7) D ∧ ErrAt G36 o8 D := ⟨_, hc.n 7 (by decide), .inl ((E9.tr (E10.tr (E11.tr (E12.tr (E13.tr (E14.tr (E15.tr (E16.tr (E17.tr (E18.tr (E19.tr (E20.tr (E21.tr (E22.tr (E23.tr (E24.tr (E25.tr (E26.tr (E27.tr (E28.tr (E29.tr (E30.tr (E31.tr (E32.tr (E33.tr (E34.tr (E35.tr E36))))))))))))))))))))))))))) _ _ F8)⟩
    have q8 : ∃ D, ErrOf K (errNm 8) D ∧ ErrAt G36 o9 D := ⟨_, hc.n 8 (by decide), .inl ((E10.tr (E11.tr (E12.tr (E13.tr (E14.tr (E15.tr (E16.tr (E17.tr (E18.tr (E19.tr (E20.tr (E21.tr (E22.tr (E23.tr (E24.tr (E25.tr (E26.tr (E27.tr (E28.tr (E29.tr (E30.tr (E31.tr (E32.tr (E33.tr (E34.tr (E35.tr E36)))))))))))))))))))))))))) _ _ F9)⟩
    have q9 : ∃ D, ErrOf K (errNm 9) D ∧ ErrAt G36 o12 D := ⟨_, hc.n 9 (by decide), .inl ((E13.tr (E14.tr (E15.tr (E16.tr (E17.tr (E18.tr (E19.tr (E20.tr (E21.tr (E22.tr (E23.tr (E24.tr (E25.tr (E26.tr (E27.tr (E28.tr (E29.tr (E30.tr (E31.tr (E32.tr (E33.tr (E34.tr (E35.tr E36))))))))))))))))))))))) _ _ F12)⟩
    have q10 : ∃ D, ErrOf K (errNm 10) D ∧ ErrAt G36 o13 D := ⟨_, hc.n 10 (by decide), .inl ((E14.tr (E15.tr (E16.tr (E17.tr (E18.tr (E19.tr (E20.tr (E21.tr (E22.tr (E23.tr (E24.tr (E25.tr (E26.tr (E27.tr (E28.tr (E29.tr (E30.tr (E31.tr (E32.tr (E33.tr (E34.tr (E35.tr E36)))))))))))))))))))))) _ _ F13)⟩
    have q11 : ∃ D, ErrOf K (errNm 11) D ∧ ErrAt G36 o14 D := ⟨_, hc.n 11 (by decide), .inl ((E15.tr (E16.tr (E17.tr (E18.tr (E19.tr (E20.tr (E21.tr (E22.tr (E23.tr (E24.tr (E25.tr (E26.tr (E27.tr (E28.tr (E29.tr (E30.tr (E31.tr (E32.tr (E33.tr (E34.tr (E35.tr E36))))))))))))))))))))) _ _ F14)⟩
    have q12 : ∃ D, ErrOf K (errNm 12) D ∧ ErrAt G36 o17 D := ⟨_, hc.n 12 (by decide), .inl ((E18.tr (E19.tr (E20.tr (E21.tr (E22.tr (E23.tr (E24.tr (E25.tr (E26.tr (E27.tr (E28.tr (E29.tr (E30.tr (E31.tr (E32.tr (E33.tr (E34.tr (E35.tr E36)))))))))))))))))) _ _ F17)⟩
    have q13 : ∃ D, ErrOf K (errNm 13) D ∧ ErrAt G36 o18 D := ⟨_, hc.n 13 (by decide), .inl ((E19.tr (E20.tr (E21.tr (E22.tr (E23.tr (E24.tr (E25.tr (E26.tr (E27.tr (E28.tr (E29.tr (E30.tr (E31.tr (E32.tr (E33.tr (E34.tr (E35.tr E36))))))))))))))))) _ _ F18)⟩
    have q14 : ∃ D, ErrOf K (errNm 14) D ∧ ErrAt G36 o19 D := ⟨_, hc.n 14 (by decide), .inl ((E20.tr (E21.tr (E22.tr (E23.tr (E24.tr (E25.tr (E26.tr (E27.tr (E28.tr (E29.tr (E30.tr (E31.tr (E32.tr (E33.tr (E34.tr (E35.tr E36)))))))))))))))) _ _ F19)⟩
    have q15 : ∃ D, ErrOf K (errNm 15) D ∧ ErrAt G36 o22 D := ⟨_, hc.n 15 (by decide), .inl ((E23.tr (E24.tr (E25.tr (E26.tr (E27.tr (E28.tr (E29.tr (E30.tr (E31.tr (E32.tr (E33.tr (E34.tr (E35.tr E36))))))))))))) _ _ F22)⟩
    have q16 : ∃ D, ErrOf K (errNm 16) D ∧ ErrAt G36 o23 D := ⟨_, hc.n 16 (by decide), .inl ((E24.tr (E25.tr (E26.tr (E27.tr (E28.tr (E29.tr (E30.tr (E31.tr (E32.tr (E33.tr (E34.tr (E35.tr E36)))))))))))) _ _ F23)⟩
    have q17 : ∃ D, ErrOf K (errNm 17) D ∧ ErrAt G36 o24 D := ⟨_, hc.n 17 (by decide), .inl ((E25.tr (E26.tr (E27.tr (E28.tr (E29.tr (E30.tr (E31.tr (E32.tr (E33.tr (E34.tr (E35.tr E36))))))))))) _ _ F24)⟩
    have q18 : ∃ D, ErrOf K (errNm 18) D ∧ ErrAt G36 o27 D := ⟨_, hc.n 18 (by decide), .inl ((E28.tr (E29.tr (E30.tr (E31.tr (E32.tr (E33.tr (E34.tr (E35.tr E36)))))))) _ _ F27)⟩
    have q19 : ∃ D, ErrOf K (errNm 19) D ∧ ErrAt G36 o28 D := ⟨_, hc.n 19 (by decide), .inl ((E29.tr (E30.tr (E31.tr (E32.tr (E33.tr (E34.tr (E35.tr E36))))))) _ _ F28)⟩
    have g0 : HasF K G36 "TooLarge" "limit" o32 l := ⟨_, o31, hc.n 20 (by decide), (E33.tr (E34.tr (E35.tr E36))) _ _ F32, (E32.tr (E33.tr (E34.tr (E35.tr E36)))) _ _ F31⟩
    have q20 : ∃ D, ErrOf K (errNm 20) D ∧ ErrAt G36 o32 D := ⟨_, hc.n 20 (by decide), .inr ⟨some o31, (E33.tr (E34.tr (E35.tr E36))) _ _ F32, fun dx hd => ⟨_, (Option.some.inj hd) ▸ ((E32.tr (E33.tr (E34.tr (E35.tr E36)))) _ _ F31)⟩⟩⟩
    have g1 : HasF K G36 "InvalidText" "place" o34 p := ⟨_, o33, hc.n 21 (by decide), (E35.tr E36) _ _ F34, (E34.tr (E35.tr E36)) _ _ F33⟩
    have q21 : ∃ D, ErrOf K (errNm 21) D ∧ ErrAt G36 o34 D := ⟨_, hc.n 21 (by decide), .inr ⟨some o33, (E35.tr E36) _ _ F34, fun dx hd => ⟨_, (Option.some.inj hd) ▸ ((E34.tr (E35.tr E36)) _ _ F33)⟩⟩⟩
    exact q _ [o1, o2, o3, o4, o6, o7, o8, o9, o12, o13, o14, o17, o18, o19, o22, o23, o24, o27, o28, o32, o34] _ (E1.tr (E2.tr (E3.tr (E4.tr (E5.tr (E6.tr (E7.tr (E8.tr (E9.tr (E10.tr (E11.tr (E12.tr (E13.tr (E14.tr (E15.tr (E16.tr (E17.tr (E18.tr (E19.tr (E20.tr (E21.tr (E22.tr (E23.tr (E24.tr (E25.tr (E26.tr (E27.tr (E28.tr (E29.tr (E30.tr (E31.tr (E32.tr (E33.tr (E34.tr (E35.tr E36))))))))))))))))))))))))))))))))))) F36 rfl ⟨q1, q2, q3, q4, q5, q6, q7, q8, q9, q10, q11, q12, q13, q14, q15, q16, q17, q18, q19, q20, q21, trivial⟩ ⟨_, rfl, g0⟩ ⟨_, rfl, g1⟩
end

end K49
namespace K49
open PySem PySem.Spec PyProof.Rows L2 Nw
/-! _law_right: slots 0 _law_limit_here, 1 _law_place_here, 2 _law_some, 3 _law_at, 4 _law_e, 5 _law_one -/
abbrev s_right : Stmt := topS 26
abbrev N_right : List Str := ["_law_limit_here", "_law_place_here", "_law_some", "_law_at", "_law_e", "_law_one"]
abbrev P_right : List Str := ["_law_limit_here", "_law_place_here"]
theorem sc_right : FnScope N_right P_right (defScope s_right) := ⟨rfl, rfl, rfl, by decide +kernel, rfl, by decide +kernel, by decide +kernel⟩
def sp_right (K : PySem.W.Frag) : Sp := fun vs H Q _ => ∃ (l p : V) (dl dp : PyData), vs = [l, p] ∧ (∀ H, Dp K H l dl) ∧ (∀ H, Dp K H p dp) ∧ Sh 41 1 1 dl ∧ Sh 41 1 1 dp ∧ ∀ H', Ex H H' → Q (.bl true) H'
theorem bls_all {K : PySem.W.Frag} {H : Hp} : ∀ bs : List Bool, DaAll K H (bs.map PyData.bool) (bs.map V.bl)
  | [] => rfl
  | b :: bs => ⟨_, _, rfl, rfl, bls_all bs⟩
theorem bls_sh : ∀ bs : List Bool, ∀ x ∈ bs.map PyData.bool, Sh 41 1 1 x := fun bs x hx => by
  obtain ⟨b, _, rfl⟩ := List.mem_map.mp hx
  exact ⟨rfl, rfl, Nat.le_refl _, Nat.le_succ _⟩
theorem kinds_eqv : ∀ j : Fin 21, PyData.eqv (.list ((kindsB (1 + j.val)).map PyData.bool)) (.list (((List.range 21).map fun k : Nat => decide ((k : Int) = (j.val : Int))).map PyData.bool)) = true := by decide +kernel
theorem nodict (bs : List Bool) : (PyData.list (bs.map PyData.bool)).hasDict = false := by
  have h : ∀ bs : List Bool, PyData.hasDictAll (bs.map PyData.bool) = false := fun bs => by
    induction bs with
    | nil => rfl
    | cons b bs ih =>
      show (PyData.hasDict (.bool b) || PyData.hasDictAll (bs.map PyData.bool)) = false
      rw [ih]
      rfl
  exact h bs
theorem kinds_len (i : Nat) : (kindsB i).length = 21 := rfl
section
variable {P : Program} {w : World} {K : PySem.W.Frag} {mg : Str → Option Value} {base : Heap}
theorem ok_right {f : Addr} {fd : FuncData} (T : Txt K mg) (F : Fun K "_law_right" "_law_right" s_right f fd)
    (D_kinds : DefOk P w K mg base CX0 1 "_law_kinds" P_kinds (sp_kinds K))
    (D_made : DefOk P w K mg base CX0 1 "_law_made" P_made (sp_made K)) :
    FnG P w K mg base CX0 2 f fd P_right (sp_right K) := by
  refine okG0 F sc_right (fun vs H Q E h => ?_) (fun cdv A outer s H vs Q E hr hq h => ?_)
  · obtain ⟨l, p, dl, dp, rfl, _⟩ := h
    rfl
  · obtain ⟨l, p, dl, dp, rfl, hl, hp, sl, sp, q⟩ := h
    obtain ⟨c, fB, fP, hc⟩ := T.fam
    refine ⟨_, (pss_cons (ps_set (i := 2) sc_right.nd rfl (by first | exact .inl rfl | exact .inr rfl) (pe_callD D_made (hr.mono (by decide)) hq pass0 (pa_cons (pv 0) (pa_cons (pv 1) pa_nil))))
      (pss_cons (ps_for PassesOwn.never rfl (pi_enum (by rfl) T.b_enumerate (pa_cons (pv 2) pa_nil)) (pg_tupK (n := 2) K rfl (pgs_cons (pg_name (i := 3) sc_right.nd rfl (by first | exact .inl rfl | exact .inr rfl)) (pgs_cons (pg_name (i := 4) sc_right.nd rfl (by first | exact .inl rfl | exact .inr rfl)) pgs_nil))) (pss_cons (ps_if (PW.pt (pw_or (pt_not (pt_val (pe_callB (call_isV K) (by rfl) T.b_isinstance bt_isinstance (pa_cons (pv 4) (pa_cons (pe_glob (v := .ref (c 0)) rfl hc.g_WebError rfl) pa_nil))))) (pw_or1 (pt_not (pt_val (pe_callB (call_isV K) (by rfl) T.b_isinstance bt_isinstance (pa_cons (pv 4) (pa_cons (pe_bty T.b_ValueError bt_ValueError) pa_nil)))))))) (pss_one (ps_ret pe_bl)) pss_nil)
      (pss_one (ps_if (pt_cmpR (op_neDk K hr.units) (pe_callD D_kinds (hr.mono (by decide)) hq pass0 (pa_cons (pv 4) pa_nil)) (pe_lc (own := [("_law_one", 5)]) rfl sc_right.nd (pi_range1 (by rfl) T.b_range (pa_cons (pe_callB (call_lenK K) (by rfl) T.b_len bt_len (pa_cons (pv 2) pa_nil)) pa_nil)) (blkOk_by (N := N_right) (sc := defScope s_right) (by decide +kernel)) (fun _ _ _ _ _ => (pg_name (i := 5) sc_right.nd rfl (by first | exact .inl rfl | exact .inr rfl))) (fun _ _ _ _ _ => pts_nil) (fun _ _ _ _ _ => (pe_cmpR op_eq (pv 5) (pv 3) (nomark _)))) (nomark _)) (pss_one (ps_ret pe_bl)) pss_nil))))
      (pss_one (ps_ret (pe_cmpR op_eq (pe_callB (call_reprK K hq hr) (by rfl) T.b_repr bt_repr (pa_cons (pe_lst (pa_cons (pe_limK hc.big (pe_ix (ix_listK K) (pv 2) (pe_un un_neg pe_int) (fun _ _ => rfl))) (pa_cons (pe_placeK hc.plc (pe_ix (ix_listK K) (pv 2) (pe_un un_neg pe_int) (fun _ _ => rfl))) pa_nil))) pa_nil)) (pe_callB (call_reprK K hq hr) (by rfl) T.b_repr bt_repr (pa_cons (pe_lst (pa_cons (pv 0) (pa_cons (pv 1) pa_nil))) pa_nil)) (nomark _)))))), ?_⟩
    refine ⟨_, rfl, _, rfl, l, p, rfl, fun R as H1 e1 hR hn hA hL hP => ?_⟩
    have la : (as.map V.ref).length = 21 := by rw [List.length_map]; exact hn
    refine ⟨_, rfl, R, _, rfl, .inl (.inl hR), ?_⟩
    refine for_by (as.map V.ref).length (fun j σ H' => ∃ y3 y4 y5, σ = [some l, some p, some (.ref R), y3, y4, y5] ∧ Ex H1 H') ⟨_, _, _, rfl, Ex.rfl⟩ (fun i σ H' hi pv => ?_) (fun σ H' pv => ?_) ?_ ?_
    · obtain ⟨_, _, _, _, e⟩ := pv
      exact ite_go (K := K) (.inl (.inl (e _ _ hR))) Ex.rfl hi
    · obtain ⟨_, _, _, _, e⟩ := pv
      exact ite_stop (K := K) (.inl (.inl (e _ _ hR))) Ex.rfl
    · rintro j σ H4 x H5 hi ⟨y3, y4, y5, rfl, e4⟩ ⟨T1, y1, rfl, hT1, rfl, hy1⟩
      have hj : j < 21 := by omega
      have g1 := hy1 _ (.inl (.inl (e4 _ _ hR)))
      obtain ⟨a, ha, rfl⟩ : ∃ a, as[j]? = some a ∧ y1 = .ref a := by
        rw [List.getElem?_map] at g1
        cases e : as[j]? with
        | none => rw [e] at g1; cases g1
        | some a => rw [e] at g1; exact ⟨a, rfl, (Option.some.inj g1).symm⟩
      obtain ⟨D, hD, hE⟩ := hA.at ha
      obtain rfl : D = c (1 + j) := err_uniq hD (hc.n _ (by omega))
      have e5 : Ex H4 (upd H4 T1 (.tup [.int (j : Nat), .ref a])) := Ex.nw hT1
      have f5 : (upd H4 T1 (.tup [.int (j : Nat), .ref a])) T1 = some (.tup [.int (j : Nat), .ref a]) := upd_same
      generalize upd H4 T1 (.tup [.int (j : Nat), .ref a]) = H6 at e5 f5
      have hE6 := hE.up (e4.tr e5)
      refine ⟨T1, _, rfl, .inl (.inl f5), rfl, _, _, rfl, _, _, rfl, rfl, ?_⟩
      refine ⟨_, rfl, a, c (1 + j), .ref (c 0), .ref (c 0), _, rfl, hE6, hc.e _ (by omega), fun u hu => hu, hc.s _ 0 (by omega) (by decide), ?_⟩
      rw [show decide (1 + j = 0 ∨ 0 = 0) = true from decide_eq_true (.inr rfl)]
      refine ⟨true, rfl, ite2 (fun h => Bool.noConfusion h) (fun _ => ?_)⟩
      refine ⟨_, rfl, a, c (1 + j), .ty "ValueError", .type "ValueError", _, rfl, hE6, hc.e _ (by omega), fun u hu => hu, hc.v _ (by omega), ?_⟩
      refine ⟨true, rfl, ite2 (fun h => Bool.noConfusion h) (fun _ => ?_)⟩
      refine ⟨_, rfl, a, c (1 + j), 1 + j, rfl, by omega, hc.n _ (by omega), hE6, fun R2 H7 e7 h7 => ?_⟩
      have e17 := (e4.tr e5).tr e7
      refine ⟨_, rfl, R, _, rfl, .inl (.inl (.inl (e17 _ _ hR))), _, rfl, by rw [la]; decide, by rw [la]; decide, fun D hD => ?_⟩
      rw [la]
      refine lc_by 21 (fun i H' => Ex H7 H' ∧ H' D = some (.lst (((List.range i).map fun k : Nat => decide ((k : Int) = (j : Int))).map V.bl))) ⟨Ex.nw hD, upd_same⟩ (fun i H' hi p => (by show i < 21; omega)) (fun H' p => (by show 21 ≤ 21; omega)) ?_ ?_
      · rintro i H9 x H8 hi2 ⟨e9, hD9⟩ ⟨rfl, rfl⟩
        have e : decide (V.int (0 + (i : Int)) = V.int ((j : Nat) : Int)) = decide ((i : Int) = (j : Int)) := decide_eq_decide.mpr ⟨fun h => by have := V.int.inj h; omega, fun h => by rw [h, Int.zero_add]⟩
        refine ⟨rfl, _, rfl, _, rfl, rfl, _, hD9, by rw [List.length_map, List.length_map, List.length_range]; exact Nat.lt_of_lt_of_le hi2 (by rw [sizeLine_eq]; decide), fun b o h => by rw [upd_ne (fun e => by rw [e, hD] at h; cases h)]; exact e9 b o h, ?_⟩
        rw [e, List.range_succ, List.map_append, List.map_append]
        exact upd_same
      · rintro H8 ⟨e8, hD8⟩
        have b1 : Da K H8 (.list ((kindsB (1 + j)).map PyData.bool)) (.ref R2) := ⟨R2, _, rfl, e8 _ _ h7, bls_all _, by rw [List.length_map, kinds_len]; decide⟩
        have b2 : Da K H8 (.list (((List.range 21).map fun k : Nat => decide ((k : Int) = (j : Int))).map PyData.bool)) (.ref D) := ⟨D, _, rfl, hD8, bls_all _, by rw [List.length_map, List.length_map, List.length_range]; decide⟩
        refine ⟨_, _, b1.dp _ _ (nodict _), b2.dp _ _ (nodict _), rfl, rfl, ?_⟩
        have ke := kinds_eqv ⟨j, hj⟩
        rw [ke]
        exact ⟨false, rfl, ite2 (fun h => Bool.noConfusion h) (fun _ => ⟨_, _, _, rfl, (e17.tr e8)⟩)⟩
    · rintro σ H2 ⟨y3, y4, y5, rfl, e2⟩
      obtain ⟨a20, ha20, D20, d20, hD20, k20, f20⟩ := hL
      obtain ⟨a21, ha21, D21, d21, hD21, k21, f21⟩ := hP
      obtain rfl : D20 = c 20 := err_uniq hD20 (hc.n 20 (by decide))
      obtain rfl : D21 = c 21 := err_uniq hD21 (hc.n 21 (by decide))
      have at20 : atI (as.map V.ref) (-2) = some (.ref a20) := by
        unfold atI
        rw [la]
        show (as.map V.ref)[19]? = _
        rw [List.getElem?_map, ha20]
        rfl
      have at21 : atI (as.map V.ref) (-1) = some (.ref a21) := by
        unfold atI
        rw [la]
        show (as.map V.ref)[20]? = _
        rw [List.getElem?_map, ha21]
        rfl
      refine ⟨_, rfl, 2, rfl, R, _, _, _, rfl, rfl, .inl (.inl (e2 _ _ hR)), at20, a20, d20, l, rfl, e2 _ _ k20, e2 _ _ f20, ?_⟩
      refine ⟨_, rfl, 1, rfl, R, _, _, _, rfl, rfl, .inl (.inl (e2 _ _ hR)), at21, a21, d21, p, rfl, e2 _ _ k21, e2 _ _ f21, ?_⟩
      refine ⟨by show 2 ≤ sizeLine; decide, fun o1 n1 => ?_⟩
      have E1 : Ex H2 (upd H2 o1 (.lst [l, p])) := Ex.nw n1
      have F1 : (upd H2 o1 (.lst [l, p])) o1 = some (.lst [l, p]) := upd_same
      generalize upd H2 o1 (.lst [l, p]) = G1 at E1 F1
      have sh : Sh 41 (1 + 1 * 2) 2 (.list [dl, dp]) := Sh.list (fun x hx => by
        rcases List.mem_cons.mp hx with rfl | hx
        · exact sl
        · obtain rfl := List.mem_singleton.mp hx
          exact sp) (Nat.le_refl _)
      refine ⟨_, .list [dl, dp], rfl, .lst (.inl (.inl F1)) (.cons (hl _) (.cons (hp _) .nil)), sh.s, sh.fit (by decide) (by decide), by have := sh.k; omega, ?_⟩
      refine ⟨_, rfl, _, rfl, by show 2 ≤ sizeLine; decide, fun o2 n2 => ?_⟩
      have E2 : Ex G1 (upd G1 o2 (.lst [l, p])) := Ex.nw n2
      have F2 : (upd G1 o2 (.lst [l, p])) o2 = some (.lst [l, p]) := upd_same
      generalize upd G1 o2 (.lst [l, p]) = G2 at E2 F2
      refine ⟨_, .list [dl, dp], rfl, .lst (.inl (.inl F2)) (.cons (hl _) (.cons (hp _) .nil)), sh.s, sh.fit (by decide) (by decide), by have := sh.k; omega, ?_⟩
      refine ⟨rfl, ?_⟩
      rw [decide_eq_true rfl]
      exact q _ (e1.tr (e2.tr (E1.tr E2)))
end

end K49
namespace K49
open PySem PySem.Spec PyProof.Rows L2 Nw
/-! law: slots 0 _law_script, 1 _law_base, 2 _law_cells, 3 _law_cell, 4 _law_number, 5 _law_one, 6 _law_other, 7 _law_third -/
abbrev s_law : Stmt := topS 27
abbrev N_law : List Str := ["_law_script", "_law_base", "_law_cells", "_law_cell", "_law_number", "_law_one", "_law_other", "_law_third"]
abbrev P_law : List Str := ["_law_script"]
theorem sc_law : FnScope N_law P_law (defScope s_law) := ⟨rfl, rfl, rfl, by decide +kernel, rfl, by decide +kernel, by decide +kernel⟩
def sp_law (K : PySem.W.Frag) : Sp := fun vs H Q _ => ∃ (a : Addr) (ns : List Int), vs = [.ref a] ∧ ns.length ≤ 63 ∧ SqL K H a (ns.map V.int) ∧ ∀ H', Ex H H' → Q (.bl true) H'
theorem sp_law_start {K : PySem.W.Frag} {H : Hp} {a : Addr} {ns : List Int} (hl : ns.length ≤ 63) (hS : SqL K H a (ns.map V.int)) : sp_law K [.ref a] H (fun v _ => v = .bl true) (fun _ _ _ => False) :=
  ⟨a, ns, rfl, hl, hS, fun _ _ => rfl⟩
theorem sh_i {i : Int} (h : i.natAbs < 10000000000000000000000000000000000000000) : Sh 41 1 1 (.int i) := (Sh.int (k := 40) (by decide) (small40 h).1 (small40 h).2).wide (by omega) (by omega)
theorem sh_n : Sh 41 1 1 .none := ⟨rfl, rfl, Nat.le_refl _, Nat.le_succ _⟩
theorem fmod_pos {i : Int} (h : 0 ≤ i) : 0 ≤ i.fmod (10 ^ 29) ∧ i.fmod (10 ^ 29) < 10 ^ 29 := ⟨Int.fmod_nonneg h (by decide), Int.fmod_lt_of_pos _ (by decide)⟩
section
variable {P : Program} {w : World} {K : PySem.W.Frag} {mg : Str → Option Value} {base : Heap}
theorem ok_law {f : Addr} {fd : FuncData} (T : Txt K mg) (F : Fun K "law" "law" s_law f fd)
    (D_kinds : DefOk P w K mg base CX0 1 "_law_kinds" P_kinds (sp_kinds K))
    (D_right : DefOk P w K mg base CX0 2 "_law_right" P_right (sp_right K)) :
    FnG P w K mg base CX0 3 f fd P_law (sp_law K) := by
  refine okG0 F sc_law (fun vs H Q E h => ?_) (fun cdv A outer s H vs Q E hr hq h => ?_)
  · obtain ⟨a, ns, rfl, _⟩ := h
    rfl
  · obtain ⟨S, ns, rfl, hn, hS, q⟩ := h
    obtain ⟨c, fB, fP, hc⟩ := T.fam
    refine ⟨_, (pss_cons (ps_par (i := 1) (j := 2) (by rfl) sc_law.nd rfl rfl (by decide) rfl rfl (pa_cons (pe_exc1 PySem.F.excBase_ValueError (hc.x 0 (by decide)) hc.g_WebError (hc.k 0 (by decide)) (by rfl) pe_str) (pa_cons (pe_slice (sl_listK K) (pe_op (op_catS K) (pv 0) (pe_lst (pa_cons pe_int pa_nil))) po_none (po_some (pe_callB (call_max2 rfl) (by rfl) T.b_max bt_max (pa_cons pe_int (pa_cons (pe_callB (call_min2 rfl) (by rfl) T.b_min bt_min (pa_cons pe_int (pa_cons (pe_callB (call_lenK K) (by rfl) T.b_len bt_len (pa_cons (pv 0) pa_nil)) pa_nil))) pa_nil))))) pa_nil)) (by rfl))
      (pss_cons (ps_if (PW.pt (pw_or (pt_cmpR (op_inK K) pe_bl (pe_callD D_kinds (hr.mono (by decide)) hq pass0 (pa_cons (pv 1) pa_nil)) (by rfl)) (pw_or1 (pt_not (pt_val (pe_callB (call_isV K) (by rfl) T.b_isinstance bt_isinstance (pa_cons (pv 1) (pa_cons (pe_bty T.b_ValueError bt_ValueError) pa_nil)))))))) (pss_one (ps_ret pe_bl)) pss_nil)
      (pss_cons (ps_for PassesOwn.never rfl (pi_listK K (pv 2)) (pg_name (i := 3) sc_law.nd rfl (by first | exact .inl rfl | exact .inr rfl)) (pss_cons (ps_set (i := 4) sc_law.nd rfl (by first | exact .inl rfl | exact .inr rfl) (pe_op op_modN (pe_callTy call_int1 (by rfl) T.b_int bt_int (pa_cons (pe_callB call_abs (by rfl) T.b_abs bt_abs (pa_cons (pv 3) pa_nil)) pa_nil)) (pe_op op_powW pe_int pe_int)))
      (pss_one (ps_if (PW.pt (pw_or (pt_not (pt_val (pe_callD D_right (hr.mono (by decide)) hq pass0 (pa_cons pe_int (pa_cons (pv 4) pa_nil))))) (pw_or (pt_not (pt_val (pe_callD D_right (hr.mono (by decide)) hq pass0 (pa_cons (pv 4) (pa_cons pe_non pa_nil))))) (pw_or1 (pt_not (pt_val (pe_callD D_right (hr.mono (by decide)) hq pass0 (pa_cons pe_int (pa_cons (pe_op op_sub pe_int (pv 4)) pa_nil))))))))) (pss_one (ps_ret pe_bl)) pss_nil))))
      (pss_cons (ps_par3 (i := 5) (j := 6) (l := 7) (by rfl) sc_law.nd rfl rfl rfl (by decide) (by decide) (by decide) rfl rfl rfl (pa_cons (pe_bigV hc.big hr (pa_cons pe_int pa_nil)) (pa_cons (pe_bigV hc.big hr (pa_cons pe_int pa_nil)) (pa_cons (pe_plcV hc.plc hr (pa_cons pe_int pa_nil)) pa_nil))) (by rfl))
      (pss_one (ps_ret (pe_cmpR (op_eqDk K hr.units) (pe_lst (pa_cons (pe_limK hc.big (pv 5)) (pa_cons (pe_limK hc.big (pv 6)) (pa_cons (pe_placeK hc.plc (pv 7)) (pa_cons (pe_placeK hc.plc (pe_plcV hc.plc hr (pa_cons pe_int pa_nil))) pa_nil))))) (pe_lst (pa_cons pe_int (pa_cons pe_int (pa_cons pe_int (pa_cons pe_int pa_nil))))) (nomark _)))))))), ?_⟩
    refine fun a1 m1 => ?_
    have E1 : Ex H (upd H a1 (ExO (.ref (c 0)) a1)) := Ex.nw m1
    have A1 : ErrAt (upd H a1 (ExO (.ref (c 0)) a1)) a1 (c 0) := .inl upd_same
    generalize upd H a1 (ExO (.ref (c 0)) a1) = G1 at E1 A1
    refine ⟨_, rfl, by show 1 ≤ sizeLine; decide, fun o2 n2 => ?_⟩
    have E2 : Ex G1 (upd G1 o2 (.lst [.int 0])) := Ex.nw n2
    have F2 : (upd G1 o2 (.lst [.int 0])) o2 = some (.lst [.int 0]) := upd_same
    have A2 := A1.up E2
    generalize upd G1 o2 (.lst [.int 0]) = G2 at E2 F2 A2
    refine ⟨S, o2, _, _, rfl, rfl, (E1.tr E2).l hS, .inl (.inl F2), by rw [List.length_map]; show ns.length + 1 ≤ 1000000; omega, fun o3 n3 => ?_⟩
    have lm : (ns.map V.int).length = ns.length := List.length_map ..
    have E3 : Ex G2 (upd G2 o3 (.lst (ns.map V.int ++ [.int 0]))) := Ex.nw n3
    have F3 : (upd G2 o3 (.lst (ns.map V.int ++ [.int 0]))) o3 = some (.lst (ns.map V.int ++ [.int 0])) := upd_same
    have A3 := A2.up E3
    generalize upd G2 o3 (.lst (ns.map V.int ++ [.int 0])) = G3 at E3 F3 A3
    have e3 := E1.tr (E2.tr E3)
    refine ⟨_, rfl, S, _, rfl, .inl (e3.l hS), _, _, rfl, _, _, rfl, _, rfl, ?_⟩
    rw [lm]
    obtain ⟨k, hk, hk1, hkn⟩ : ∃ k : Nat, (if (if ((ns.length : Nat) : Int) < 4 then ((ns.length : Nat) : Int) else 4) > 1 then (if ((ns.length : Nat) : Int) < 4 then ((ns.length : Nat) : Int) else 4) else 1) = (k : Int) ∧ 1 ≤ k ∧ k ≤ ns.length + 1 := by
      refine ⟨max 1 (min 4 ns.length), ?_, by omega, by omega⟩
      split <;> split <;> omega
    rw [hk]
    refine ⟨o3, _, rfl, .inl (.inl F3), fun o4 n4 => ?_⟩
    obtain ⟨cs, hcs⟩ : ∃ cs : List Int, cutV (ns.map V.int ++ [.int 0]) none (some (k : Int)) = cs.map V.int := by
      refine ⟨(ns ++ [0]).take k, ?_⟩
      rw [cut_take _ _ (by rw [List.length_append, lm]; exact hkn), List.map_take, List.map_append]
      rfl
    rw [hcs]
    have E4 : Ex G3 (upd G3 o4 (.lst (cs.map V.int))) := Ex.nw n4
    have F4 : (upd G3 o4 (.lst (cs.map V.int))) o4 = some (.lst (cs.map V.int)) := upd_same
    have A4 := A3.up E4
    generalize upd G3 o4 (.lst (cs.map V.int)) = G4 at E4 F4 A4
    have e4 := e3.tr E4
    refine ⟨_, _, rfl, ?_⟩
    refine ⟨_, rfl, a1, c 0, 0, rfl, by decide, hc.n 0 (by decide), A4, fun R G5 E5 F5 => ?_⟩
    refine ⟨R, _, rfl, .inl (.inl (.inl F5)), rfl, by decide, ?_⟩
    refine ⟨false, rfl, ite2 (fun h => Bool.noConfusion h) (fun _ => ?_)⟩
    refine ⟨_, rfl, a1, c 0, .ty "ValueError", .type "ValueError", _, rfl, A4.up E5, hc.e 0 (by decide), fun u hu => hu, hc.v 0 (by decide), ?_⟩
    refine ⟨true, rfl, ite2 (fun h => Bool.noConfusion h) (fun _ => ?_)⟩
    have e5 := e4.tr E5
    have F45 := E5 _ _ F4
    have lc : (cs.map V.int).length = cs.length := List.length_map ..
    refine ⟨_, rfl, o4, rfl, ⟨_, .inl (.inl F45)⟩, ?_⟩
    refine for_by (cs.map V.int).length (fun i σ H' => ∃ y3 y4 y5 y6 y7, σ = [some (.ref S), some (.ref a1), some (.ref o4), y3, y4, y5, y6, y7] ∧ Ex G5 H') ⟨_, _, _, _, _, rfl, Ex.rfl⟩ (fun j σ H' hj p => ?_) (fun σ H' p => ?_) ?_ ?_
    · obtain ⟨_, _, _, _, _, _, h4⟩ := p
      exact itl_go (.inl (.inl (h4 _ _ F45))) Ex.rfl hj
    · obtain ⟨_, _, _, _, _, _, h4⟩ := p
      exact itl_stop (.inl (.inl (h4 _ _ F45))) Ex.rfl
    · rintro j σ H6 x H7 hj ⟨y3, y4, y5, y6, y7, rfl, e6⟩ ⟨rfl, hx⟩
      have hx := hx _ (.inl (.inl (e6 _ _ F45)))
      obtain ⟨z, rfl⟩ : ∃ z : Int, x = .int z := by
        rw [List.getElem?_map] at hx
        cases e : cs[j]? with
        | none => rw [e] at hx; cases hx
        | some a => rw [e] at hx; exact ⟨a, (Option.some.inj hx).symm⟩
      refine ⟨_, rfl, z, rfl, .inl ⟨_, rfl, ?_⟩⟩
      obtain ⟨m0, m2⟩ := fmod_pos (i := if z < 0 then -z else z) (by split <;> omega)
      refine ⟨10, 29, rfl, rfl, ⟨by decide, by decide, by decide⟩, _, _, rfl, rfl, (show (10 : Int) ^ (29 : Int).toNat ≠ 0 from by decide), ?_⟩
      have hm : ((if z < 0 then -z else z).fmod (10 ^ 29)).natAbs < 10000000000000000000000000000000000000000 := by omega
      have hm2 : (0 - (if z < 0 then -z else z).fmod (10 ^ 29)).natAbs < 10000000000000000000000000000000000000000 := by omega
      refine ⟨_, rfl, .int 8, _, .int 8, _, rfl, fun _ => .int 8, fun _ => .int _, sh_i (by decide), sh_i hm, fun H8 e8 => ⟨true, rfl, ite2 (fun h => Bool.noConfusion h) (fun _ => ?_)⟩⟩
      refine ⟨_, rfl, _, .non, _, .none, rfl, fun _ => .int _, fun _ => .non, sh_i hm, sh_n, fun H9 e9 => ⟨true, rfl, ite2 (fun h => Bool.noConfusion h) (fun _ => ?_)⟩⟩
      refine ⟨_, rfl, _, _, rfl, rfl, .int 20, _, .int 20, _, rfl, fun _ => .int 20, fun _ => .int _, sh_i (by decide), sh_i hm2, fun H10 e10 => ⟨true, rfl, ite2 (fun h => Bool.noConfusion h) (fun _ => ?_)⟩⟩
      exact ⟨_, _, _, _, _, rfl, e6.tr (e8.tr (e9.tr e10))⟩
    · rintro σ H6 ⟨y3, y4, y5, y6, y7, rfl, e6⟩
      refine ⟨_, rfl, fun d6 b6 n6 m6 x6 => ?_⟩
      have E6 : Ex H6 (upd H6 d6 (.xd [(("limit" : Str), .int 8)])) := Ex.nw n6
      have F6 : (upd H6 d6 (.xd [(("limit" : Str), .int 8)])) d6 = some (.xd [(("limit" : Str), .int 8)]) := upd_same
      have M6 : (upd H6 d6 (.xd [(("limit" : Str), .int 8)])) b6 = none := by rw [upd_ne x6]; exact m6
      generalize upd H6 d6 (.xd [(("limit" : Str), .int 8)]) = K6 at E6 F6 M6
      have B6 : Ex K6 (upd K6 b6 (Nw.ExK (.ref (c 20)) (some d6) b6)) := Ex.nw M6
      have C6 : (upd K6 b6 (Nw.ExK (.ref (c 20)) (some d6) b6)) b6 = some (Nw.ExK (.ref (c 20)) (some d6) b6) := upd_same
      generalize upd K6 b6 (Nw.ExK (.ref (c 20)) (some d6) b6) = H7 at B6 C6
      have D6 := B6 _ _ F6
      have Z6 := E6.tr B6
      refine ⟨_, rfl, fun d7 b7 n7 m7 x7 => ?_⟩
      have E7 : Ex H7 (upd H7 d7 (.xd [(("limit" : Str), .int 20)])) := Ex.nw n7
      have F7 : (upd H7 d7 (.xd [(("limit" : Str), .int 20)])) d7 = some (.xd [(("limit" : Str), .int 20)]) := upd_same
      have M7 : (upd H7 d7 (.xd [(("limit" : Str), .int 20)])) b7 = none := by rw [upd_ne x7]; exact m7
      generalize upd H7 d7 (.xd [(("limit" : Str), .int 20)]) = K7 at E7 F7 M7
      have B7 : Ex K7 (upd K7 b7 (Nw.ExK (.ref (c 20)) (some d7) b7)) := Ex.nw M7
      have C7 : (upd K7 b7 (Nw.ExK (.ref (c 20)) (some d7) b7)) b7 = some (Nw.ExK (.ref (c 20)) (some d7) b7) := upd_same
      generalize upd K7 b7 (Nw.ExK (.ref (c 20)) (some d7) b7) = H8 at B7 C7
      have D7 := B7 _ _ F7
      have Z7 := E7.tr B7
      refine ⟨_, rfl, fun d8 b8 n8 m8 x8 => ?_⟩
      have E8 : Ex H8 (upd H8 d8 (.xd [(("place" : Str), .int 0)])) := Ex.nw n8
      have F8 : (upd H8 d8 (.xd [(("place" : Str), .int 0)])) d8 = some (.xd [(("place" : Str), .int 0)]) := upd_same
      have M8 : (upd H8 d8 (.xd [(("place" : Str), .int 0)])) b8 = none := by rw [upd_ne x8]; exact m8
      generalize upd H8 d8 (.xd [(("place" : Str), .int 0)]) = K8 at E8 F8 M8
      have B8 : Ex K8 (upd K8 b8 (Nw.ExK (.ref (c 21)) (some d8) b8)) := Ex.nw M8
      have C8 : (upd K8 b8 (Nw.ExK (.ref (c 21)) (some d8) b8)) b8 = some (Nw.ExK (.ref (c 21)) (some d8) b8) := upd_same
      generalize upd K8 b8 (Nw.ExK (.ref (c 21)) (some d8) b8) = H9 at B8 C8
      have D8 := B8 _ _ F8
      have Z8 := E8.tr B8
      refine ⟨_, _, _, rfl, ?_⟩
      refine ⟨_, rfl, b6, d6, .int 8, rfl, Z8 _ _ (Z7 _ _ C6), Z8 _ _ (Z7 _ _ D6), ?_⟩
      refine ⟨_, rfl, b7, d7, .int 20, rfl, Z8 _ _ C7, Z8 _ _ D7, ?_⟩
      refine ⟨_, rfl, b8, d8, .int 0, rfl, C8, D8, ?_⟩
      refine ⟨_, rfl, fun d9 b9 n9 m9 x9 => ?_⟩
      have E9 : Ex H9 (upd H9 d9 (.xd [(("place" : Str), .int 2)])) := Ex.nw n9
      have F9 : (upd H9 d9 (.xd [(("place" : Str), .int 2)])) d9 = some (.xd [(("place" : Str), .int 2)]) := upd_same
      have M9 : (upd H9 d9 (.xd [(("place" : Str), .int 2)])) b9 = none := by rw [upd_ne x9]; exact m9
      generalize upd H9 d9 (.xd [(("place" : Str), .int 2)]) = K9 at E9 F9 M9
      have B9 : Ex K9 (upd K9 b9 (Nw.ExK (.ref (c 21)) (some d9) b9)) := Ex.nw M9
      have C9 : (upd K9 b9 (Nw.ExK (.ref (c 21)) (some d9) b9)) b9 = some (Nw.ExK (.ref (c 21)) (some d9) b9) := upd_same
      generalize upd K9 b9 (Nw.ExK (.ref (c 21)) (some d9) b9) = H10 at B9 C9
      have D9 := B9 _ _ F9
      have Z9 := E9.tr B9
      refine ⟨b9, d9, .int 2, rfl, C9, D9, ?_⟩
      refine ⟨by show 4 ≤ sizeLine; decide, fun o10 n10 => ?_⟩
      have X10 : Ex H10 (upd H10 o10 (.lst [.int 8, .int 20, .int 0, .int 2])) := Ex.nw n10
      have Y10 : (upd H10 o10 (.lst [.int 8, .int 20, .int 0, .int 2])) o10 = some (.lst [.int 8, .int 20, .int 0, .int 2]) := upd_same
      generalize upd H10 o10 (.lst [.int 8, .int 20, .int 0, .int 2]) = H11 at X10 Y10
      refine ⟨by show 4 ≤ sizeLine; decide, fun o11 n11 => ?_⟩
      have X11 : Ex H11 (upd H11 o11 (.lst [.int 8, .int 20, .int 0, .int 2])) := Ex.nw n11
      have Y11 : (upd H11 o11 (.lst [.int 8, .int 20, .int 0, .int 2])) o11 = some (.lst [.int 8, .int 20, .int 0, .int 2]) := upd_same
      generalize upd H11 o11 (.lst [.int 8, .int 20, .int 0, .int 2]) = H12 at X11 Y11
      have dC : Dp K H12 (.ref o10) (dInts [8, 20, 0, 2]) := (dInts_of (r := [8, 20, 0, 2]) (X11 _ _ Y10) (by decide)).dInts
      have dz : Dp K H12 (.ref o11) (dInts [8, 20, 0, 2]) := (dInts_of (r := [8, 20, 0, 2]) Y11 (by decide)).dInts
      refine ⟨_, _, dC, dz, sh_dInts _, sh_dInts _, ?_⟩
      rw [eqv_dInts, decide_eq_true rfl]
      exact q _ (e5.tr (e6.tr (Z6.tr (Z7.tr (Z8.tr (Z9.tr (X10.tr X11)))))))
end

end K49
namespace K49
open PySem PySem.Spec PyProof.Rows L2 Nw
theorem all_mk {l : PySem.W.OpenLaw} {w : World} {K : PySem.W.Frag} {h : Heap} {mg : Str → Option Value} {fa : Addr} (X : K.In h) (G : h.Ns mainGlobals mg) (hfa : mg "law" = some (.ref fa))
    {f0 f1 f2 f3 : Addr} {od0 an0 od1 an1 od2 an2 od3 an3 : Option Addr} {sl0 sl1 sl2 sl3 : Array (Option Value)}
    {oc0 kV0 dc0 pm0 cd0 ct0 oc1 kV1 dc1 pm1 cd1 ct1 oc2 kV2 dc2 pm2 cd2 ct2 oc3 kV3 dc3 pm3 cd3 ct3 : Value}
    (a0 : PySem.W.nsIn K mainGlobals "_law_kinds" = some (some (.ref f0))) (l0 : K.lookup f0 = some ⟨oc0, od0, .func (PySem.W.fnOf "_law_kinds" "_law_kinds" (defArgs s_kinds) (defBody s_kinds) (defScope s_kinds) .none kV0 dc0 pm0 an0 cd0 ct0), sl0⟩) (c0 : PySem.W.codeIn K cd0 "_law_kinds" = true) (k0 : PySem.W.keepIn K (.ref f0) = true)
    (a1 : PySem.W.nsIn K mainGlobals "_law_made" = some (some (.ref f1))) (l1 : K.lookup f1 = some ⟨oc1, od1, .func (PySem.W.fnOf "_law_made" "_law_made" (defArgs s_made) (defBody s_made) (defScope s_made) .none kV1 dc1 pm1 an1 cd1 ct1), sl1⟩) (c1 : PySem.W.codeIn K cd1 "_law_made" = true) (k1 : PySem.W.keepIn K (.ref f1) = true)
    (a2 : PySem.W.nsIn K mainGlobals "_law_right" = some (some (.ref f2))) (l2 : K.lookup f2 = some ⟨oc2, od2, .func (PySem.W.fnOf "_law_right" "_law_right" (defArgs s_right) (defBody s_right) (defScope s_right) .none kV2 dc2 pm2 an2 cd2 ct2), sl2⟩) (c2 : PySem.W.codeIn K cd2 "_law_right" = true) (k2 : PySem.W.keepIn K (.ref f2) = true)
    (a3 : PySem.W.nsIn K mainGlobals "law" = some (some (.ref f3))) (l3 : K.lookup f3 = some ⟨oc3, od3, .func (PySem.W.fnOf "law" "law" (defArgs s_law) (defBody s_law) (defScope s_law) .none kV3 dc3 pm3 an3 cd3 ct3), sl3⟩) (c3 : PySem.W.codeIn K cd3 "law" = true) (k3 : PySem.W.keepIn K (.ref f3) = true)
    (z_isinstance : PySem.W.nsIn K mainGlobals "isinstance" = some none)
    (z_len : PySem.W.nsIn K mainGlobals "len" = some none)
    (z_repr : PySem.W.nsIn K mainGlobals "repr" = some none)
    (z_abs : PySem.W.nsIn K mainGlobals "abs" = some none)
    (z_max : PySem.W.nsIn K mainGlobals "max" = some none)
    (z_min : PySem.W.nsIn K mainGlobals "min" = some none)
    (z_int : PySem.W.nsIn K mainGlobals "int" = some none)
    (z_range : PySem.W.nsIn K mainGlobals "range" = some none)
    (z_enumerate : PySem.W.nsIn K mainGlobals "enumerate" = some none)
    (z_ValueError : PySem.W.nsIn K mainGlobals "ValueError" = some none)
    {C_0 : Addr} {nm_0 q_0 : Str} {N_0 : Addr} {bs_0 : List Value} {sn_0 : List Str} {sub_0 : List Value} {ab_0 : Bool} {col_0 : Option Bool} {dd_0 : Option Addr} {w0_0 w1_0 w2_0 w3_0 w5_0 : Option Value}
    (g_0 : PySem.W.nsIn K mainGlobals "WebError" = some (some (.ref C_0))) (x_0 : K.lookup C_0 = some (excClassObj nm_0 q_0 C_0 N_0 bs_0 errTail true sn_0 sub_0 ab_0 col_0 dd_0 w0_0 w1_0 w2_0 w3_0 w5_0 "ValueError.__new__"))
    (k_0 : PySem.W.keepIn K (.ref C_0) = true) (t_0 : PySem.W.typeIn K (.ref C_0) = some (.type "type"))
    (hg_0 : PySem.W.findIn K (.ref C_0) "__getattribute__" = some (some (.builtin "BaseException.__getattribute__"))) (hk_0 : PySem.W.findIn K (.ref C_0) "__getattr__" = some none) (ha_0 : PySem.W.findIn K (.ref C_0) "__class__" = some (some (.builtin "object.__class__")))
    (e_0 : PySem.W.excIn K C_0 [.type "ValueError", .type "Exception", .type "BaseException", .type "object"] "ValueError.__new__" = true)
    {C_1 : Addr} {nm_1 q_1 : Str} {N_1 : Addr} {bs_1 : List Value} {sn_1 : List Str} {sub_1 : List Value} {ab_1 : Bool} {col_1 : Option Bool} {dd_1 : Option Addr} {w0_1 w1_1 w2_1 w3_1 w5_1 : Option Value}
    (g_1 : PySem.W.nsIn K mainGlobals "InvalidWeb" = some (some (.ref C_1))) (x_1 : K.lookup C_1 = some (excClassObj nm_1 q_1 C_1 N_1 bs_1 (.ref C_0 :: errTail) true sn_1 sub_1 ab_1 col_1 dd_1 w0_1 w1_1 w2_1 w3_1 w5_1 "ValueError.__new__"))
    (k_1 : PySem.W.keepIn K (.ref C_1) = true) (t_1 : PySem.W.typeIn K (.ref C_1) = some (.type "type"))
    (hg_1 : PySem.W.findIn K (.ref C_1) "__getattribute__" = some (some (.builtin "BaseException.__getattribute__"))) (hk_1 : PySem.W.findIn K (.ref C_1) "__getattr__" = some none) (ha_1 : PySem.W.findIn K (.ref C_1) "__class__" = some (some (.builtin "object.__class__")))
    (e_1 : PySem.W.excIn K C_1 [.type "ValueError", .type "Exception", .type "BaseException", .type "object"] "ValueError.__new__" = true)
    {C_2 : Addr} {nm_2 q_2 : Str} {N_2 : Addr} {bs_2 : List Value} {sn_2 : List Str} {sub_2 : List Value} {ab_2 : Bool} {col_2 : Option Bool} {dd_2 : Option Addr} {w0_2 w1_2 w2_2 w3_2 w5_2 : Option Value}
    (g_2 : PySem.W.nsIn K mainGlobals "InvalidSource" = some (some (.ref C_2))) (x_2 : K.lookup C_2 = some (excClassObj nm_2 q_2 C_2 N_2 bs_2 (.ref C_0 :: errTail) true sn_2 sub_2 ab_2 col_2 dd_2 w0_2 w1_2 w2_2 w3_2 w5_2 "ValueError.__new__"))
    (k_2 : PySem.W.keepIn K (.ref C_2) = true) (t_2 : PySem.W.typeIn K (.ref C_2) = some (.type "type"))
    (hg_2 : PySem.W.findIn K (.ref C_2) "__getattribute__" = some (some (.builtin "BaseException.__getattribute__"))) (hk_2 : PySem.W.findIn K (.ref C_2) "__getattr__" = some none) (ha_2 : PySem.W.findIn K (.ref C_2) "__class__" = some (some (.builtin "object.__class__")))
    (e_2 : PySem.W.excIn K C_2 [.type "ValueError", .type "Exception", .type "BaseException", .type "object"] "ValueError.__new__" = true)
    {C_3 : Addr} {nm_3 q_3 : Str} {N_3 : Addr} {bs_3 : List Value} {sn_3 : List Str} {sub_3 : List Value} {ab_3 : Bool} {col_3 : Option Bool} {dd_3 : Option Addr} {w0_3 w1_3 w2_3 w3_3 w5_3 : Option Value}
    (g_3 : PySem.W.nsIn K mainGlobals "InvalidQuantity" = some (some (.ref C_3))) (x_3 : K.lookup C_3 = some (excClassObj nm_3 q_3 C_3 N_3 bs_3 (.ref C_0 :: errTail) true sn_3 sub_3 ab_3 col_3 dd_3 w0_3 w1_3 w2_3 w3_3 w5_3 "ValueError.__new__"))
    (k_3 : PySem.W.keepIn K (.ref C_3) = true) (t_3 : PySem.W.typeIn K (.ref C_3) = some (.type "type"))
    (hg_3 : PySem.W.findIn K (.ref C_3) "__getattribute__" = some (some (.builtin "BaseException.__getattribute__"))) (hk_3 : PySem.W.findIn K (.ref C_3) "__getattr__" = some none) (ha_3 : PySem.W.findIn K (.ref C_3) "__class__" = some (some (.builtin "object.__class__")))
    (e_3 : PySem.W.excIn K C_3 [.type "ValueError", .type "Exception", .type "BaseException", .type "object"] "ValueError.__new__" = true)
    {C_4 : Addr} {nm_4 q_4 : Str} {N_4 : Addr} {bs_4 : List Value} {sn_4 : List Str} {sub_4 : List Value} {ab_4 : Bool} {col_4 : Option Bool} {dd_4 : Option Addr} {w0_4 w1_4 w2_4 w3_4 w5_4 : Option Value}
    (g_4 : PySem.W.nsIn K mainGlobals "InvalidTargets" = some (some (.ref C_4))) (x_4 : K.lookup C_4 = some (excClassObj nm_4 q_4 C_4 N_4 bs_4 (.ref C_0 :: errTail) true sn_4 sub_4 ab_4 col_4 dd_4 w0_4 w1_4 w2_4 w3_4 w5_4 "ValueError.__new__"))
    (k_4 : PySem.W.keepIn K (.ref C_4) = true) (t_4 : PySem.W.typeIn K (.ref C_4) = some (.type "type"))
    (hg_4 : PySem.W.findIn K (.ref C_4) "__getattribute__" = some (some (.builtin "BaseException.__getattribute__"))) (hk_4 : PySem.W.findIn K (.ref C_4) "__getattr__" = some none) (ha_4 : PySem.W.findIn K (.ref C_4) "__class__" = some (some (.builtin "object.__class__")))
    (e_4 : PySem.W.excIn K C_4 [.type "ValueError", .type "Exception", .type "BaseException", .type "object"] "ValueError.__new__" = true)
    {C_5 : Addr} {nm_5 q_5 : Str} {N_5 : Addr} {bs_5 : List Value} {sn_5 : List Str} {sub_5 : List Value} {ab_5 : Bool} {col_5 : Option Bool} {dd_5 : Option Addr} {w0_5 w1_5 w2_5 w3_5 w5_5 : Option Value}
    (g_5 : PySem.W.nsIn K mainGlobals "InvalidNudge" = some (some (.ref C_5))) (x_5 : K.lookup C_5 = some (excClassObj nm_5 q_5 C_5 N_5 bs_5 (.ref C_0 :: errTail) true sn_5 sub_5 ab_5 col_5 dd_5 w0_5 w1_5 w2_5 w3_5 w5_5 "ValueError.__new__"))
    (k_5 : PySem.W.keepIn K (.ref C_5) = true) (t_5 : PySem.W.typeIn K (.ref C_5) = some (.type "type"))
    (hg_5 : PySem.W.findIn K (.ref C_5) "__getattribute__" = some (some (.builtin "BaseException.__getattribute__"))) (hk_5 : PySem.W.findIn K (.ref C_5) "__getattr__" = some none) (ha_5 : PySem.W.findIn K (.ref C_5) "__class__" = some (some (.builtin "object.__class__")))
    (e_5 : PySem.W.excIn K C_5 [.type "ValueError", .type "Exception", .type "BaseException", .type "object"] "ValueError.__new__" = true)
    {C_6 : Addr} {nm_6 q_6 : Str} {N_6 : Addr} {bs_6 : List Value} {sn_6 : List Str} {sub_6 : List Value} {ab_6 : Bool} {col_6 : Option Bool} {dd_6 : Option Addr} {w0_6 w1_6 w2_6 w3_6 w5_6 : Option Value}
    (g_6 : PySem.W.nsIn K mainGlobals "InvalidOrder" = some (some (.ref C_6))) (x_6 : K.lookup C_6 = some (excClassObj nm_6 q_6 C_6 N_6 bs_6 (.ref C_0 :: errTail) true sn_6 sub_6 ab_6 col_6 dd_6 w0_6 w1_6 w2_6 w3_6 w5_6 "ValueError.__new__"))
    (k_6 : PySem.W.keepIn K (.ref C_6) = true) (t_6 : PySem.W.typeIn K (.ref C_6) = some (.type "type"))
    (hg_6 : PySem.W.findIn K (.ref C_6) "__getattribute__" = some (some (.builtin "BaseException.__getattribute__"))) (hk_6 : PySem.W.findIn K (.ref C_6) "__getattr__" = some none) (ha_6 : PySem.W.findIn K (.ref C_6) "__class__" = some (some (.builtin "object.__class__")))
    (e_6 : PySem.W.excIn K C_6 [.type "ValueError", .type "Exception", .type "BaseException", .type "object"] "ValueError.__new__" = true)
    {C_7 : Addr} {nm_7 q_7 : Str} {N_7 : Addr} {bs_7 : List Value} {sn_7 : List Str} {sub_7 : List Value} {ab_7 : Bool} {col_7 : Option Bool} {dd_7 : Option Addr} {w0_7 w1_7 w2_7 w3_7 w5_7 : Option Value}
    (g_7 : PySem.W.nsIn K mainGlobals "InvalidLinks" = some (some (.ref C_7))) (x_7 : K.lookup C_7 = some (excClassObj nm_7 q_7 C_7 N_7 bs_7 (.ref C_0 :: errTail) true sn_7 sub_7 ab_7 col_7 dd_7 w0_7 w1_7 w2_7 w3_7 w5_7 "ValueError.__new__"))
    (k_7 : PySem.W.keepIn K (.ref C_7) = true) (t_7 : PySem.W.typeIn K (.ref C_7) = some (.type "type"))
    (hg_7 : PySem.W.findIn K (.ref C_7) "__getattribute__" = some (some (.builtin "BaseException.__getattribute__"))) (hk_7 : PySem.W.findIn K (.ref C_7) "__getattr__" = some none) (ha_7 : PySem.W.findIn K (.ref C_7) "__class__" = some (some (.builtin "object.__class__")))
    (e_7 : PySem.W.excIn K C_7 [.type "ValueError", .type "Exception", .type "BaseException", .type "object"] "ValueError.__new__" = true)
    {C_8 : Addr} {nm_8 q_8 : Str} {N_8 : Addr} {bs_8 : List Value} {sn_8 : List Str} {sub_8 : List Value} {ab_8 : Bool} {col_8 : Option Bool} {dd_8 : Option Addr} {w0_8 w1_8 w2_8 w3_8 w5_8 : Option Value}
    (g_8 : PySem.W.nsIn K mainGlobals "InvalidKind" = some (some (.ref C_8))) (x_8 : K.lookup C_8 = some (excClassObj nm_8 q_8 C_8 N_8 bs_8 (.ref C_0 :: errTail) true sn_8 sub_8 ab_8 col_8 dd_8 w0_8 w1_8 w2_8 w3_8 w5_8 "ValueError.__new__"))
    (k_8 : PySem.W.keepIn K (.ref C_8) = true) (t_8 : PySem.W.typeIn K (.ref C_8) = some (.type "type"))
    (hg_8 : PySem.W.findIn K (.ref C_8) "__getattribute__" = some (some (.builtin "BaseException.__getattribute__"))) (hk_8 : PySem.W.findIn K (.ref C_8) "__getattr__" = some none) (ha_8 : PySem.W.findIn K (.ref C_8) "__class__" = some (some (.builtin "object.__class__")))
    (e_8 : PySem.W.excIn K C_8 [.type "ValueError", .type "Exception", .type "BaseException", .type "object"] "ValueError.__new__" = true)
    {C_9 : Addr} {nm_9 q_9 : Str} {N_9 : Addr} {bs_9 : List Value} {sn_9 : List Str} {sub_9 : List Value} {ab_9 : Bool} {col_9 : Option Bool} {dd_9 : Option Addr} {w0_9 w1_9 w2_9 w3_9 w5_9 : Option Value}
    (g_9 : PySem.W.nsIn K mainGlobals "InvalidFort" = some (some (.ref C_9))) (x_9 : K.lookup C_9 = some (excClassObj nm_9 q_9 C_9 N_9 bs_9 (.ref C_0 :: errTail) true sn_9 sub_9 ab_9 col_9 dd_9 w0_9 w1_9 w2_9 w3_9 w5_9 "ValueError.__new__"))
    (k_9 : PySem.W.keepIn K (.ref C_9) = true) (t_9 : PySem.W.typeIn K (.ref C_9) = some (.type "type"))
    (hg_9 : PySem.W.findIn K (.ref C_9) "__getattribute__" = some (some (.builtin "BaseException.__getattribute__"))) (hk_9 : PySem.W.findIn K (.ref C_9) "__getattr__" = some none) (ha_9 : PySem.W.findIn K (.ref C_9) "__class__" = some (some (.builtin "object.__class__")))
    (e_9 : PySem.W.excIn K C_9 [.type "ValueError", .type "Exception", .type "BaseException", .type "object"] "ValueError.__new__" = true)
    {C_10 : Addr} {nm_10 q_10 : Str} {N_10 : Addr} {bs_10 : List Value} {sn_10 : List Str} {sub_10 : List Value} {ab_10 : Bool} {col_10 : Option Bool} {dd_10 : Option Addr} {w0_10 w1_10 w2_10 w3_10 w5_10 : Option Value}
    (g_10 : PySem.W.nsIn K mainGlobals "InvalidFilling" = some (some (.ref C_10))) (x_10 : K.lookup C_10 = some (excClassObj nm_10 q_10 C_10 N_10 bs_10 (.ref C_0 :: errTail) true sn_10 sub_10 ab_10 col_10 dd_10 w0_10 w1_10 w2_10 w3_10 w5_10 "ValueError.__new__"))
    (k_10 : PySem.W.keepIn K (.ref C_10) = true) (t_10 : PySem.W.typeIn K (.ref C_10) = some (.type "type"))
    (hg_10 : PySem.W.findIn K (.ref C_10) "__getattribute__" = some (some (.builtin "BaseException.__getattribute__"))) (hk_10 : PySem.W.findIn K (.ref C_10) "__getattr__" = some none) (ha_10 : PySem.W.findIn K (.ref C_10) "__class__" = some (some (.builtin "object.__class__")))
    (e_10 : PySem.W.excIn K C_10 [.type "ValueError", .type "Exception", .type "BaseException", .type "object"] "ValueError.__new__" = true)
    {C_11 : Addr} {nm_11 q_11 : Str} {N_11 : Addr} {bs_11 : List Value} {sn_11 : List Str} {sub_11 : List Value} {ab_11 : Bool} {col_11 : Option Bool} {dd_11 : Option Addr} {w0_11 w1_11 w2_11 w3_11 w5_11 : Option Value}
    (g_11 : PySem.W.nsIn K mainGlobals "InvalidState" = some (some (.ref C_11))) (x_11 : K.lookup C_11 = some (excClassObj nm_11 q_11 C_11 N_11 bs_11 (.ref C_0 :: errTail) true sn_11 sub_11 ab_11 col_11 dd_11 w0_11 w1_11 w2_11 w3_11 w5_11 "ValueError.__new__"))
    (k_11 : PySem.W.keepIn K (.ref C_11) = true) (t_11 : PySem.W.typeIn K (.ref C_11) = some (.type "type"))
    (hg_11 : PySem.W.findIn K (.ref C_11) "__getattribute__" = some (some (.builtin "BaseException.__getattribute__"))) (hk_11 : PySem.W.findIn K (.ref C_11) "__getattr__" = some none) (ha_11 : PySem.W.findIn K (.ref C_11) "__class__" = some (some (.builtin "object.__class__")))
    (e_11 : PySem.W.excIn K C_11 [.type "ValueError", .type "Exception", .type "BaseException", .type "object"] "ValueError.__new__" = true)
    {C_12 : Addr} {nm_12 q_12 : Str} {N_12 : Addr} {bs_12 : List Value} {sn_12 : List Str} {sub_12 : List Value} {ab_12 : Bool} {col_12 : Option Bool} {dd_12 : Option Addr} {w0_12 w1_12 w2_12 w3_12 w5_12 : Option Value}
    (g_12 : PySem.W.nsIn K mainGlobals "InvalidGiven" = some (some (.ref C_12))) (x_12 : K.lookup C_12 = some (excClassObj nm_12 q_12 C_12 N_12 bs_12 (.ref C_0 :: errTail) true sn_12 sub_12 ab_12 col_12 dd_12 w0_12 w1_12 w2_12 w3_12 w5_12 "ValueError.__new__"))
    (k_12 : PySem.W.keepIn K (.ref C_12) = true) (t_12 : PySem.W.typeIn K (.ref C_12) = some (.type "type"))
    (hg_12 : PySem.W.findIn K (.ref C_12) "__getattribute__" = some (some (.builtin "BaseException.__getattribute__"))) (hk_12 : PySem.W.findIn K (.ref C_12) "__getattr__" = some none) (ha_12 : PySem.W.findIn K (.ref C_12) "__class__" = some (some (.builtin "object.__class__")))
    (e_12 : PySem.W.excIn K C_12 [.type "ValueError", .type "Exception", .type "BaseException", .type "object"] "ValueError.__new__" = true)
    {C_13 : Addr} {nm_13 q_13 : Str} {N_13 : Addr} {bs_13 : List Value} {sn_13 : List Str} {sub_13 : List Value} {ab_13 : Bool} {col_13 : Option Bool} {dd_13 : Option Addr} {w0_13 w1_13 w2_13 w3_13 w5_13 : Option Value}
    (g_13 : PySem.W.nsIn K mainGlobals "InvalidHill" = some (some (.ref C_13))) (x_13 : K.lookup C_13 = some (excClassObj nm_13 q_13 C_13 N_13 bs_13 (.ref C_0 :: errTail) true sn_13 sub_13 ab_13 col_13 dd_13 w0_13 w1_13 w2_13 w3_13 w5_13 "ValueError.__new__"))
    (k_13 : PySem.W.keepIn K (.ref C_13) = true) (t_13 : PySem.W.typeIn K (.ref C_13) = some (.type "type"))
    (hg_13 : PySem.W.findIn K (.ref C_13) "__getattribute__" = some (some (.builtin "BaseException.__getattribute__"))) (hk_13 : PySem.W.findIn K (.ref C_13) "__getattr__" = some none) (ha_13 : PySem.W.findIn K (.ref C_13) "__class__" = some (some (.builtin "object.__class__")))
    (e_13 : PySem.W.excIn K C_13 [.type "ValueError", .type "Exception", .type "BaseException", .type "object"] "ValueError.__new__" = true)
    {C_14 : Addr} {nm_14 q_14 : Str} {N_14 : Addr} {bs_14 : List Value} {sn_14 : List Str} {sub_14 : List Value} {ab_14 : Bool} {col_14 : Option Bool} {dd_14 : Option Addr} {w0_14 w1_14 w2_14 w3_14 w5_14 : Option Value}
    (g_14 : PySem.W.nsIn K mainGlobals "InvalidNumber" = some (some (.ref C_14))) (x_14 : K.lookup C_14 = some (excClassObj nm_14 q_14 C_14 N_14 bs_14 (.ref C_0 :: errTail) true sn_14 sub_14 ab_14 col_14 dd_14 w0_14 w1_14 w2_14 w3_14 w5_14 "ValueError.__new__"))
    (k_14 : PySem.W.keepIn K (.ref C_14) = true) (t_14 : PySem.W.typeIn K (.ref C_14) = some (.type "type"))
    (hg_14 : PySem.W.findIn K (.ref C_14) "__getattribute__" = some (some (.builtin "BaseException.__getattribute__"))) (hk_14 : PySem.W.findIn K (.ref C_14) "__getattr__" = some none) (ha_14 : PySem.W.findIn K (.ref C_14) "__class__" = some (some (.builtin "object.__class__")))
    (e_14 : PySem.W.excIn K C_14 [.type "ValueError", .type "Exception", .type "BaseException", .type "object"] "ValueError.__new__" = true)
    {C_15 : Addr} {nm_15 q_15 : Str} {N_15 : Addr} {bs_15 : List Value} {sn_15 : List Str} {sub_15 : List Value} {ab_15 : Bool} {col_15 : Option Bool} {dd_15 : Option Addr} {w0_15 w1_15 w2_15 w3_15 w5_15 : Option Value}
    (g_15 : PySem.W.nsIn K mainGlobals "InvalidChange" = some (some (.ref C_15))) (x_15 : K.lookup C_15 = some (excClassObj nm_15 q_15 C_15 N_15 bs_15 (.ref C_0 :: errTail) true sn_15 sub_15 ab_15 col_15 dd_15 w0_15 w1_15 w2_15 w3_15 w5_15 "ValueError.__new__"))
    (k_15 : PySem.W.keepIn K (.ref C_15) = true) (t_15 : PySem.W.typeIn K (.ref C_15) = some (.type "type"))
    (hg_15 : PySem.W.findIn K (.ref C_15) "__getattribute__" = some (some (.builtin "BaseException.__getattribute__"))) (hk_15 : PySem.W.findIn K (.ref C_15) "__getattr__" = some none) (ha_15 : PySem.W.findIn K (.ref C_15) "__class__" = some (some (.builtin "object.__class__")))
    (e_15 : PySem.W.excIn K C_15 [.type "ValueError", .type "Exception", .type "BaseException", .type "object"] "ValueError.__new__" = true)
    {C_16 : Addr} {nm_16 q_16 : Str} {N_16 : Addr} {bs_16 : List Value} {sn_16 : List Str} {sub_16 : List Value} {ab_16 : Bool} {col_16 : Option Bool} {dd_16 : Option Addr} {w0_16 w1_16 w2_16 w3_16 w5_16 : Option Value}
    (g_16 : PySem.W.nsIn K mainGlobals "InvalidCommand" = some (some (.ref C_16))) (x_16 : K.lookup C_16 = some (excClassObj nm_16 q_16 C_16 N_16 bs_16 (.ref C_0 :: errTail) true sn_16 sub_16 ab_16 col_16 dd_16 w0_16 w1_16 w2_16 w3_16 w5_16 "ValueError.__new__"))
    (k_16 : PySem.W.keepIn K (.ref C_16) = true) (t_16 : PySem.W.typeIn K (.ref C_16) = some (.type "type"))
    (hg_16 : PySem.W.findIn K (.ref C_16) "__getattribute__" = some (some (.builtin "BaseException.__getattribute__"))) (hk_16 : PySem.W.findIn K (.ref C_16) "__getattr__" = some none) (ha_16 : PySem.W.findIn K (.ref C_16) "__class__" = some (some (.builtin "object.__class__")))
    (e_16 : PySem.W.excIn K C_16 [.type "ValueError", .type "Exception", .type "BaseException", .type "object"] "ValueError.__new__" = true)
    {C_17 : Addr} {nm_17 q_17 : Str} {N_17 : Addr} {bs_17 : List Value} {sn_17 : List Str} {sub_17 : List Value} {ab_17 : Bool} {col_17 : Option Bool} {dd_17 : Option Addr} {w0_17 w1_17 w2_17 w3_17 w5_17 : Option Value}
    (g_17 : PySem.W.nsIn K mainGlobals "NoLine" = some (some (.ref C_17))) (x_17 : K.lookup C_17 = some (excClassObj nm_17 q_17 C_17 N_17 bs_17 (.ref C_0 :: errTail) true sn_17 sub_17 ab_17 col_17 dd_17 w0_17 w1_17 w2_17 w3_17 w5_17 "ValueError.__new__"))
    (k_17 : PySem.W.keepIn K (.ref C_17) = true) (t_17 : PySem.W.typeIn K (.ref C_17) = some (.type "type"))
    (hg_17 : PySem.W.findIn K (.ref C_17) "__getattribute__" = some (some (.builtin "BaseException.__getattribute__"))) (hk_17 : PySem.W.findIn K (.ref C_17) "__getattr__" = some none) (ha_17 : PySem.W.findIn K (.ref C_17) "__class__" = some (some (.builtin "object.__class__")))
    (e_17 : PySem.W.excIn K C_17 [.type "ValueError", .type "Exception", .type "BaseException", .type "object"] "ValueError.__new__" = true)
    {C_18 : Addr} {nm_18 q_18 : Str} {N_18 : Addr} {bs_18 : List Value} {sn_18 : List Str} {sub_18 : List Value} {ab_18 : Bool} {col_18 : Option Bool} {dd_18 : Option Addr} {w0_18 w1_18 w2_18 w3_18 w5_18 : Option Value}
    (g_18 : PySem.W.nsIn K mainGlobals "LineThere" = some (some (.ref C_18))) (x_18 : K.lookup C_18 = some (excClassObj nm_18 q_18 C_18 N_18 bs_18 (.ref C_0 :: errTail) true sn_18 sub_18 ab_18 col_18 dd_18 w0_18 w1_18 w2_18 w3_18 w5_18 "ValueError.__new__"))
    (k_18 : PySem.W.keepIn K (.ref C_18) = true) (t_18 : PySem.W.typeIn K (.ref C_18) = some (.type "type"))
    (hg_18 : PySem.W.findIn K (.ref C_18) "__getattribute__" = some (some (.builtin "BaseException.__getattribute__"))) (hk_18 : PySem.W.findIn K (.ref C_18) "__getattr__" = some none) (ha_18 : PySem.W.findIn K (.ref C_18) "__class__" = some (some (.builtin "object.__class__")))
    (e_18 : PySem.W.excIn K C_18 [.type "ValueError", .type "Exception", .type "BaseException", .type "object"] "ValueError.__new__" = true)
    {C_19 : Addr} {nm_19 q_19 : Str} {N_19 : Addr} {bs_19 : List Value} {sn_19 : List Str} {sub_19 : List Value} {ab_19 : Bool} {col_19 : Option Bool} {dd_19 : Option Addr} {w0_19 w1_19 w2_19 w3_19 w5_19 : Option Value}
    (g_19 : PySem.W.nsIn K mainGlobals "NothingToUndo" = some (some (.ref C_19))) (x_19 : K.lookup C_19 = some (excClassObj nm_19 q_19 C_19 N_19 bs_19 (.ref C_0 :: errTail) true sn_19 sub_19 ab_19 col_19 dd_19 w0_19 w1_19 w2_19 w3_19 w5_19 "ValueError.__new__"))
    (k_19 : PySem.W.keepIn K (.ref C_19) = true) (t_19 : PySem.W.typeIn K (.ref C_19) = some (.type "type"))
    (hg_19 : PySem.W.findIn K (.ref C_19) "__getattribute__" = some (some (.builtin "BaseException.__getattribute__"))) (hk_19 : PySem.W.findIn K (.ref C_19) "__getattr__" = some none) (ha_19 : PySem.W.findIn K (.ref C_19) "__class__" = some (some (.builtin "object.__class__")))
    (e_19 : PySem.W.excIn K C_19 [.type "ValueError", .type "Exception", .type "BaseException", .type "object"] "ValueError.__new__" = true)
    {C_20 : Addr} {nm_20 q_20 : Str} {N_20 : Addr} {bs_20 : List Value} {sn_20 : List Str} {sub_20 : List Value} {ab_20 : Bool} {col_20 : Option Bool} {dd_20 : Option Addr} {w0_20 w1_20 w2_20 w3_20 w5_20 : Option Value}
    (g_20 : PySem.W.nsIn K mainGlobals "TooLarge" = some (some (.ref C_20))) (x_20 : K.lookup C_20 = some (excClassObj nm_20 q_20 C_20 N_20 bs_20 (.ref C_0 :: errTail) true sn_20 sub_20 ab_20 col_20 dd_20 w0_20 w1_20 w2_20 w3_20 w5_20 "ValueError.__new__"))
    (k_20 : PySem.W.keepIn K (.ref C_20) = true) (t_20 : PySem.W.typeIn K (.ref C_20) = some (.type "type"))
    (hg_20 : PySem.W.findIn K (.ref C_20) "__getattribute__" = some (some (.builtin "BaseException.__getattribute__"))) (hk_20 : PySem.W.findIn K (.ref C_20) "__getattr__" = some none) (ha_20 : PySem.W.findIn K (.ref C_20) "__class__" = some (some (.builtin "object.__class__")))
    {C_21 : Addr} {nm_21 q_21 : Str} {N_21 : Addr} {bs_21 : List Value} {sn_21 : List Str} {sub_21 : List Value} {ab_21 : Bool} {col_21 : Option Bool} {dd_21 : Option Addr} {w0_21 w1_21 w2_21 w3_21 w5_21 : Option Value}
    (g_21 : PySem.W.nsIn K mainGlobals "InvalidText" = some (some (.ref C_21))) (x_21 : K.lookup C_21 = some (excClassObj nm_21 q_21 C_21 N_21 bs_21 (.ref C_0 :: errTail) true sn_21 sub_21 ab_21 col_21 dd_21 w0_21 w1_21 w2_21 w3_21 w5_21 "ValueError.__new__"))
    (k_21 : PySem.W.keepIn K (.ref C_21) = true) (t_21 : PySem.W.typeIn K (.ref C_21) = some (.type "type"))
    (hg_21 : PySem.W.findIn K (.ref C_21) "__getattribute__" = some (some (.builtin "BaseException.__getattribute__"))) (hk_21 : PySem.W.findIn K (.ref C_21) "__getattr__" = some none) (ha_21 : PySem.W.findIn K (.ref C_21) "__class__" = some (some (.builtin "object.__class__")))
    (hn_ : PySem.W.specialIn K (.builtin "object.__class__") "__get__" = some (some (.builtin "getset_descriptor.__get__"))) (ht_ : PySem.W.takesIn K (.builtin "object.__class__") = some true)
    {fI_20 : Addr} {odI_20 anI_20 : Option Addr} {slI_20 : Array (Option Value)} {ocI_20 dcI_20 pmI_20 cdI_20 ctI_20 : Value} {p1_20 p2_20 q1_20 q2_20 q3_20 q4_20 : Pos}
    (sa_20 : PySem.W.findIn K (.ref C_20) "__setattr__" = some (some (.builtin "object.__setattr__"))) (nb_20 : PySem.W.findIn K (.ref C_20) "limit" = some none) (aI_20 : PySem.W.findIn K (.ref C_20) "__init__" = some (some (.ref fI_20)))
    (tI_20 : PySem.W.typeIn K (.ref fI_20) = some (.type "function")) (lI_20 : K.lookup fI_20 = some ⟨ocI_20, odI_20, .func (PySem.W.fnOf "__init__" "TooLarge.__init__" (PySem.BigX.iA p1_20 p2_20) (PySem.BigX.iB q1_20 q2_20 q3_20 q4_20) PySem.BigX.iS .none .none dcI_20 pmI_20 anI_20 cdI_20 ctI_20), slI_20⟩) (cI_20 : PySem.W.codeIn K cdI_20 "TooLarge.__init__" = true)
    {fI_21 : Addr} {odI_21 anI_21 : Option Addr} {slI_21 : Array (Option Value)} {ocI_21 dcI_21 pmI_21 cdI_21 ctI_21 : Value} {p1_21 p2_21 q1_21 q2_21 q3_21 q4_21 : Pos}
    (sa_21 : PySem.W.findIn K (.ref C_21) "__setattr__" = some (some (.builtin "object.__setattr__"))) (nb_21 : PySem.W.findIn K (.ref C_21) "place" = some none) (aI_21 : PySem.W.findIn K (.ref C_21) "__init__" = some (some (.ref fI_21)))
    (tI_21 : PySem.W.typeIn K (.ref fI_21) = some (.type "function")) (lI_21 : K.lookup fI_21 = some ⟨ocI_21, odI_21, .func (PySem.W.fnOf "__init__" "InvalidText.__init__" (PySem.PlcX.iA p1_21 p2_21) (PySem.PlcX.iB q1_21 q2_21 q3_21 q4_21) PySem.PlcX.iS .none .none dcI_21 pmI_21 anI_21 cdI_21 ctI_21), slI_21⟩) (cI_21 : PySem.W.codeIn K cdI_21 "InvalidText.__init__" = true)
    (nd_ : [C_0, C_1, C_2, C_3, C_4, C_5, C_6, C_7, C_8, C_9, C_10, C_11, C_12, C_13, C_14, C_15, C_16, C_17, C_18, C_19, C_20, C_21].Nodup)
    : ∃ fd : FuncData, (∀ (s : Shared) (v : Value), BindsTo s fd ⟨[v], []⟩ [("_law_script", v)]) ∧ ∀ base : Heap, K.In base → base.Ns mainGlobals mg → FnG l.prog w K mg base CX0 3 fa fd ["_law_script"] (sp_law K) := by
  have e := hfa.symm.trans (PySem.W.mg_of X G a3)
  cases e
  have ap : ∀ i j, i < 22 → j < 22 → ([C_0, C_1, C_2, C_3, C_4, C_5, C_6, C_7, C_8, C_9, C_10, C_11, C_12, C_13, C_14, C_15, C_16, C_17, C_18, C_19, C_20, C_21].getD i 0 = [C_0, C_1, C_2, C_3, C_4, C_5, C_6, C_7, C_8, C_9, C_10, C_11, C_12, C_13, C_14, C_15, C_16, C_17, C_18, C_19, C_20, C_21].getD j 0 ↔ i = j) := fun i j hi hj => apart_at nd_ hi hj
  have M_0 : MroAt K C_0 C_0 := mroAt_base x_0
  have M_1 : MroAt K C_0 C_1 := mroAt_of x_1 fun z => absurd ((ap 1 0 (by decide) (by decide)).mp z) (by decide)
  have M_2 : MroAt K C_0 C_2 := mroAt_of x_2 fun z => absurd ((ap 2 0 (by decide) (by decide)).mp z) (by decide)
  have M_3 : MroAt K C_0 C_3 := mroAt_of x_3 fun z => absurd ((ap 3 0 (by decide) (by decide)).mp z) (by decide)
  have M_4 : MroAt K C_0 C_4 := mroAt_of x_4 fun z => absurd ((ap 4 0 (by decide) (by decide)).mp z) (by decide)
  have M_5 : MroAt K C_0 C_5 := mroAt_of x_5 fun z => absurd ((ap 5 0 (by decide) (by decide)).mp z) (by decide)
  have M_6 : MroAt K C_0 C_6 := mroAt_of x_6 fun z => absurd ((ap 6 0 (by decide) (by decide)).mp z) (by decide)
  have M_7 : MroAt K C_0 C_7 := mroAt_of x_7 fun z => absurd ((ap 7 0 (by decide) (by decide)).mp z) (by decide)
  have M_8 : MroAt K C_0 C_8 := mroAt_of x_8 fun z => absurd ((ap 8 0 (by decide) (by decide)).mp z) (by decide)
  have M_9 : MroAt K C_0 C_9 := mroAt_of x_9 fun z => absurd ((ap 9 0 (by decide) (by decide)).mp z) (by decide)
  have M_10 : MroAt K C_0 C_10 := mroAt_of x_10 fun z => absurd ((ap 10 0 (by decide) (by decide)).mp z) (by decide)
  have M_11 : MroAt K C_0 C_11 := mroAt_of x_11 fun z => absurd ((ap 11 0 (by decide) (by decide)).mp z) (by decide)
  have M_12 : MroAt K C_0 C_12 := mroAt_of x_12 fun z => absurd ((ap 12 0 (by decide) (by decide)).mp z) (by decide)
  have M_13 : MroAt K C_0 C_13 := mroAt_of x_13 fun z => absurd ((ap 13 0 (by decide) (by decide)).mp z) (by decide)
  have M_14 : MroAt K C_0 C_14 := mroAt_of x_14 fun z => absurd ((ap 14 0 (by decide) (by decide)).mp z) (by decide)
  have M_15 : MroAt K C_0 C_15 := mroAt_of x_15 fun z => absurd ((ap 15 0 (by decide) (by decide)).mp z) (by decide)
  have M_16 : MroAt K C_0 C_16 := mroAt_of x_16 fun z => absurd ((ap 16 0 (by decide) (by decide)).mp z) (by decide)
  have M_17 : MroAt K C_0 C_17 := mroAt_of x_17 fun z => absurd ((ap 17 0 (by decide) (by decide)).mp z) (by decide)
  have M_18 : MroAt K C_0 C_18 := mroAt_of x_18 fun z => absurd ((ap 18 0 (by decide) (by decide)).mp z) (by decide)
  have M_19 : MroAt K C_0 C_19 := mroAt_of x_19 fun z => absurd ((ap 19 0 (by decide) (by decide)).mp z) (by decide)
  have M_20 : MroAt K C_0 C_20 := mroAt_of x_20 fun z => absurd ((ap 20 0 (by decide) (by decide)).mp z) (by decide)
  have M_21 : MroAt K C_0 C_21 := mroAt_of x_21 fun z => absurd ((ap 21 0 (by decide) (by decide)).mp z) (by decide)
  have M : ∀ i, i < 22 → MroAt K C_0 ([C_0, C_1, C_2, C_3, C_4, C_5, C_6, C_7, C_8, C_9, C_10, C_11, C_12, C_13, C_14, C_15, C_16, C_17, C_18, C_19, C_20, C_21].getD i 0) := fun i hi => match i, hi with | 0, _ => M_0 | 1, _ => M_1 | 2, _ => M_2 | 3, _ => M_3 | 4, _ => M_4 | 5, _ => M_5 | 6, _ => M_6 | 7, _ => M_7 | 8, _ => M_8 | 9, _ => M_9 | 10, _ => M_10 | 11, _ => M_11 | 12, _ => M_12 | 13, _ => M_13 | 14, _ => M_14 | 15, _ => M_15 | 16, _ => M_16 | 17, _ => M_17 | 18, _ => M_18 | 19, _ => M_19 | 20, _ => M_20 | 21, _ => M_21 | (k + 22), h => absurd h (Nat.not_lt.mpr (Nat.le_add_left _ _))
  have Y : ∀ i, i < 22 → PySem.W.typeIn K (.ref ([C_0, C_1, C_2, C_3, C_4, C_5, C_6, C_7, C_8, C_9, C_10, C_11, C_12, C_13, C_14, C_15, C_16, C_17, C_18, C_19, C_20, C_21].getD i 0)) = some (.type "type") := fun i hi => match i, hi with | 0, _ => t_0 | 1, _ => t_1 | 2, _ => t_2 | 3, _ => t_3 | 4, _ => t_4 | 5, _ => t_5 | 6, _ => t_6 | 7, _ => t_7 | 8, _ => t_8 | 9, _ => t_9 | 10, _ => t_10 | 11, _ => t_11 | 12, _ => t_12 | 13, _ => t_13 | 14, _ => t_14 | 15, _ => t_15 | 16, _ => t_16 | 17, _ => t_17 | 18, _ => t_18 | 19, _ => t_19 | 20, _ => t_20 | 21, _ => t_21 | (k + 22), h => absurd h (Nat.not_lt.mpr (Nat.le_add_left _ _))
  have Q : ∀ i, i < 22 → L2.ExcC K ([C_0, C_1, C_2, C_3, C_4, C_5, C_6, C_7, C_8, C_9, C_10, C_11, C_12, C_13, C_14, C_15, C_16, C_17, C_18, C_19, C_20, C_21].getD i 0) := fun i hi => match i, hi with | 0, _ => excC_of M_0 hg_0 hk_0 ha_0 hn_ ht_ | 1, _ => excC_of M_1 hg_1 hk_1 ha_1 hn_ ht_ | 2, _ => excC_of M_2 hg_2 hk_2 ha_2 hn_ ht_ | 3, _ => excC_of M_3 hg_3 hk_3 ha_3 hn_ ht_ | 4, _ => excC_of M_4 hg_4 hk_4 ha_4 hn_ ht_ | 5, _ => excC_of M_5 hg_5 hk_5 ha_5 hn_ ht_ | 6, _ => excC_of M_6 hg_6 hk_6 ha_6 hn_ ht_ | 7, _ => excC_of M_7 hg_7 hk_7 ha_7 hn_ ht_ | 8, _ => excC_of M_8 hg_8 hk_8 ha_8 hn_ ht_ | 9, _ => excC_of M_9 hg_9 hk_9 ha_9 hn_ ht_ | 10, _ => excC_of M_10 hg_10 hk_10 ha_10 hn_ ht_ | 11, _ => excC_of M_11 hg_11 hk_11 ha_11 hn_ ht_ | 12, _ => excC_of M_12 hg_12 hk_12 ha_12 hn_ ht_ | 13, _ => excC_of M_13 hg_13 hk_13 ha_13 hn_ ht_ | 14, _ => excC_of M_14 hg_14 hk_14 ha_14 hn_ ht_ | 15, _ => excC_of M_15 hg_15 hk_15 ha_15 hn_ ht_ | 16, _ => excC_of M_16 hg_16 hk_16 ha_16 hn_ ht_ | 17, _ => excC_of M_17 hg_17 hk_17 ha_17 hn_ ht_ | 18, _ => excC_of M_18 hg_18 hk_18 ha_18 hn_ ht_ | 19, _ => excC_of M_19 hg_19 hk_19 ha_19 hn_ ht_ | 20, _ => excC_of M_20 hg_20 hk_20 ha_20 hn_ ht_ | 21, _ => excC_of M_21 hg_21 hk_21 ha_21 hn_ ht_ | (k + 22), h => absurd h (Nat.not_lt.mpr (Nat.le_add_left _ _))
  have big : PySem.BigX.BigTxt K mg C_20 fI_20 :=
    { gC := PySem.W.mg_of X G g_20, cls := ⟨_, _, _, _, _, _, _, _, _, _, _, _, _, _, _, x_20, by rfl⟩, sa := sa_20, ga := hg_20, gg := hk_20, noN := nb_20, iC := aI_20, tC := tI_20, kC := k_20, exC := (Q 20 (by decide)).hs, tyC := t_20, hdC := (Q 20 (by decide)).hd, te := exm_of (Q 20 (by decide)).hs (by obtain ⟨cd, h1, _⟩ := M_20; unfold PySem.W.isClsIn; rw [h1]; rfl) t_20 ((mro_ref M_20).trans (congrArg some (decide_eq_true (.inl rfl)))), fn := ⟨_, _, _, _, _, _, _, _, _, _, _, _, _, _, lI_20, cI_20⟩ }
  have plc : PySem.PlcX.PlcTxt K mg C_21 fI_21 :=
    { gC := PySem.W.mg_of X G g_21, cls := ⟨_, _, _, _, _, _, _, _, _, _, _, _, _, _, _, x_21, by rfl⟩, sa := sa_21, ga := hg_21, gg := hk_21, noN := nb_21, iC := aI_21, tC := tI_21, kC := k_21, exC := (Q 21 (by decide)).hs, tyC := t_21, hdC := (Q 21 (by decide)).hd, te := exm_of (Q 21 (by decide)).hs (by obtain ⟨cd, h1, _⟩ := M_21; unfold PySem.W.isClsIn; rw [h1]; rfl) t_21 ((mro_ref M_21).trans (congrArg some (decide_eq_true (.inl rfl)))), fn := ⟨_, _, _, _, _, _, _, _, _, _, _, _, _, _, lI_21, cI_21⟩ }
  have FM : Fam K mg (fun i => [C_0, C_1, C_2, C_3, C_4, C_5, C_6, C_7, C_8, C_9, C_10, C_11, C_12, C_13, C_14, C_15, C_16, C_17, C_18, C_19, C_20, C_21].getD i 0) fI_20 fI_21 :=
    ⟨PySem.W.mg_of X G g_0, PySem.W.mg_of X G g_1, PySem.W.mg_of X G g_2, PySem.W.mg_of X G g_3, PySem.W.mg_of X G g_4, PySem.W.mg_of X G g_5, PySem.W.mg_of X G g_6, PySem.W.mg_of X G g_7, PySem.W.mg_of X G g_8, PySem.W.mg_of X G g_9, PySem.W.mg_of X G g_10, PySem.W.mg_of X G g_11, PySem.W.mg_of X G g_12, PySem.W.mg_of X G g_13, PySem.W.mg_of X G g_14, PySem.W.mg_of X G g_15, PySem.W.mg_of X G g_16, PySem.W.mg_of X G g_17, PySem.W.mg_of X G g_18, PySem.W.mg_of X G g_19, PySem.W.mg_of X G g_20, PySem.W.mg_of X G g_21,
      fun i hi => match i, hi with | 0, _ => g_0 | 1, _ => g_1 | 2, _ => g_2 | 3, _ => g_3 | 4, _ => g_4 | 5, _ => g_5 | 6, _ => g_6 | 7, _ => g_7 | 8, _ => g_8 | 9, _ => g_9 | 10, _ => g_10 | 11, _ => g_11 | 12, _ => g_12 | 13, _ => g_13 | 14, _ => g_14 | 15, _ => g_15 | 16, _ => g_16 | 17, _ => g_17 | 18, _ => g_18 | 19, _ => g_19 | 20, _ => g_20 | 21, _ => g_21 | (k + 22), h => absurd h (Nat.not_lt.mpr (Nat.le_add_left _ _)),
      fun i hi => match i, hi with | 0, _ => k_0 | 1, _ => k_1 | 2, _ => k_2 | 3, _ => k_3 | 4, _ => k_4 | 5, _ => k_5 | 6, _ => k_6 | 7, _ => k_7 | 8, _ => k_8 | 9, _ => k_9 | 10, _ => k_10 | 11, _ => k_11 | 12, _ => k_12 | 13, _ => k_13 | 14, _ => k_14 | 15, _ => k_15 | 16, _ => k_16 | 17, _ => k_17 | 18, _ => k_18 | 19, _ => k_19 | 20, _ => k_20 | 21, _ => k_21 | (k + 22), h => absurd h (Nat.not_lt.mpr (Nat.le_add_left _ _)),
      fun i hi => match i, hi with | 0, _ => e_0 | 1, _ => e_1 | 2, _ => e_2 | 3, _ => e_3 | 4, _ => e_4 | 5, _ => e_5 | 6, _ => e_6 | 7, _ => e_7 | 8, _ => e_8 | 9, _ => e_9 | 10, _ => e_10 | 11, _ => e_11 | 12, _ => e_12 | 13, _ => e_13 | 14, _ => e_14 | 15, _ => e_15 | 16, _ => e_16 | 17, _ => e_17 | 18, _ => e_18 | 19, _ => e_19 | (k + 20), h => absurd h (Nat.not_lt.mpr (Nat.le_add_left _ _)),
      Q,
      fun i j hi hj => (kit_ref (M i hi) (M j hj) (Y j hj)).trans (congrArg some (decide_eq_decide.mpr (or_congr (ap i j hi hj) (ap j 0 hj (by decide))))),
      fun i hi => kit_val (M i hi), big, plc⟩
  have T : Txt K mg := ⟨PySem.W.mg_none_of X G z_isinstance, PySem.W.mg_none_of X G z_len, PySem.W.mg_none_of X G z_repr, PySem.W.mg_none_of X G z_abs, PySem.W.mg_none_of X G z_max, PySem.W.mg_none_of X G z_min, PySem.W.mg_none_of X G z_int, PySem.W.mg_none_of X G z_range, PySem.W.mg_none_of X G z_enumerate, PySem.W.mg_none_of X G z_ValueError, ⟨_, _, _, FM⟩⟩
  refine ⟨PySem.W.fnOf "law" "law" (defArgs s_law) (defBody s_law) (defScope s_law) .none kV3 dc3 pm3 an3 cd3 ct3, fun s v => .of_eq rfl, fun base _ _ => ?_⟩
  have F0 := fun_mk (st := s_kinds) l0 c0 k0
  have G0 := ok_kinds (P := l.prog) (w := w) (base := base) T F0 
  have B0 := F0.binds (ps := P_kinds) fun _ _ _ _ _ _ us hl => match us, hl with | [_], _ => rfl
  have D_kinds : DefOk l.prog w K mg base CX0 1 "_law_kinds" P_kinds (sp_kinds K) := ⟨f0, _, G0, PySem.W.mg_of X G a0, k0, B0⟩
  have F1 := fun_mk (st := s_made) l1 c1 k1
  have G1 := ok_made (P := l.prog) (w := w) (base := base) T F1 
  have B1 := F1.binds (ps := P_made) fun _ _ _ _ _ _ us hl => match us, hl with | [_, _], _ => rfl
  have D_made : DefOk l.prog w K mg base CX0 1 "_law_made" P_made (sp_made K) := ⟨f1, _, G1, PySem.W.mg_of X G a1, k1, B1⟩
  have F2 := fun_mk (st := s_right) l2 c2 k2
  have G2 := ok_right (P := l.prog) (w := w) (base := base) T F2 D_kinds D_made
  have B2 := F2.binds (ps := P_right) fun _ _ _ _ _ _ us hl => match us, hl with | [_, _], _ => rfl
  have D_right : DefOk l.prog w K mg base CX0 2 "_law_right" P_right (sp_right K) := ⟨f2, _, G2, PySem.W.mg_of X G a2, k2, B2⟩
  have F3 := fun_mk (st := s_law) l3 c3 k3
  have G3 := ok_law (P := l.prog) (w := w) (base := base) T F3 D_kinds D_right
  exact G3
theorem walk {l : PySem.W.OpenLaw} {q : Program} {loose : List Str} {XP : (Str → Option Value) → Heap → Prop} {YP : World → Heap → Prop} {d : DefRec} {K : Params → PySem.W.Frag} (hn : l.most = some 63) (hdf : d.params.defaults = [])
    (hY : ∀ (w : World) (h : Heap), YP w h → (K w.params).In h)
    (F : ∀ (w : World) (mg : Str → Option Value) (fa : Addr) (h : Heap), (K w.params).In h → h.Ns mainGlobals mg → mg d.name = some (.ref fa) →
      ∃ fd : FuncData, (∀ (s : Shared) (u : Value), BindsTo s fd ⟨[u], []⟩ [("_law_script", u)]) ∧ ∀ base : Heap, (K w.params).In base → base.Ns mainGlobals mg → FnG l.prog w (K w.params) mg base CX0 3 fa fd ["_law_script"] (sp_law (K w.params))) :
    PySem.W.WalkO q loose XP YP l.row.toRowW d [] (fun f vs => PySem.call f vs) :=
  walkG (n := 63) (k := 3) (x := "_law_script") (CX := fun _ => CX0) (sp := fun w => sp_law (K w.params)) hn (by decide) hdf ⟨rfl, by decide, by decide⟩ hY F (fun _ H a ns hl _ hS => sp_law_start hl hS) fun _ _ _ _ _ z => z
end K49
open PySem PySem.W PyProof.Rows in
set_option maxRecDepth 100000 in
set_option maxHeartbeats 0 in
theorem PySem.Challenge.cw_nudgewebs_k49_errors_made_holds : PySem.Challenge.rw_nudgewebs_k49_errors_made.Holds := by
  w_on; o_law; k_head; (case hw => w_witness2)
  k_fill
  refine K49.walk (l := PySem.Challenge.rw_nudgewebs_k49_errors_made) rfl rfl (fun w h Y => PySem.W.kIn_of Y) ?F
  case F =>
    intro w mg fa h KX G hmg
    refine' K49.all_mk KX G hmg ?a0 ?l0 ?c0 ?k0 ?a1 ?l1 ?c1 ?k1 ?a2 ?l2 ?c2 ?k2 ?a3 ?l3 ?c3 ?k3 ?z_isinstance ?z_len ?z_repr ?z_abs ?z_max ?z_min ?z_int ?z_range ?z_enumerate ?z_ValueError ?g_0 ?x_0 ?k_0 ?t_0 ?hg_0 ?hk_0 ?ha_0 ?e_0 ?g_1 ?x_1 ?k_1 ?t_1 ?hg_1 ?hk_1 ?ha_1 ?e_1 ?g_2 ?x_2 ?k_2 ?t_2 ?hg_2 ?hk_2 ?ha_2 ?e_2 ?g_3 ?x_3 ?k_3 ?t_3 ?hg_3 ?hk_3 ?ha_3 ?e_3 ?g_4 ?x_4 ?k_4 ?t_4 ?hg_4 ?hk_4 ?ha_4 ?e_4 ?g_5 ?x_5 ?k_5 ?t_5 ?hg_5 ?hk_5 ?ha_5 ?e_5 ?g_6 ?x_6 ?k_6 ?t_6 ?hg_6 ?hk_6 ?ha_6 ?e_6 ?g_7 ?x_7 ?k_7 ?t_7 ?hg_7 ?hk_7 ?ha_7 ?e_7 ?g_8 ?x_8 ?k_8 ?t_8 ?hg_8 ?hk_8 ?ha_8 ?e_8 ?g_9 ?x_9 ?k_9 ?t_9 ?hg_9 ?hk_9 ?ha_9 ?e_9 ?g_10 ?x_10 ?k_10 ?t_10 ?hg_10 ?hk_10 ?ha_10 ?e_10 ?g_11 ?x_11 ?k_11 ?t_11 ?hg_11 ?hk_11 ?ha_11 ?e_11 ?g_12 ?x_12 ?k_12 ?t_12 ?hg_12 ?hk_12 ?ha_12 ?e_12 ?g_13 ?x_13 ?k_13 ?t_13 ?hg_13 ?hk_13 ?ha_13 ?e_13 ?g_14 ?x_14 ?k_14 ?t_14 ?hg_14 ?hk_14 ?ha_14 ?e_14 ?g_15 ?x_15 ?k_15 ?t_15 ?hg_15 ?hk_15 ?ha_15 ?e_15 ?g_16 ?x_16 ?k_16 ?t_16 ?hg_16 ?hk_16 ?ha_16 ?e_16 ?g_17 ?x_17 ?k_17 ?t_17 ?hg_17 ?hk_17 ?ha_17 ?e_17 ?g_18 ?x_18 ?k_18 ?t_18 ?hg_18 ?hk_18 ?ha_18 ?e_18 ?g_19 ?x_19 ?k_19 ?t_19 ?hg_19 ?hk_19 ?ha_19 ?e_19 ?g_20 ?x_20 ?k_20 ?t_20 ?hg_20 ?hk_20 ?ha_20 ?g_21 ?x_21 ?k_21 ?t_21 ?hg_21 ?hk_21 ?ha_21 ?hn_ ?ht_ ?sa_20 ?nb_20 ?aI_20 ?tI_20 ?lI_20 ?cI_20 ?sa_21 ?nb_21 ?aI_21 ?tI_21 ?lI_21 ?cI_21 ?nd_
    (case a0 => k_is)
    (case l0 => k_is)
    (case c0 => k_is)
    (case k0 => k_is)
    (case a1 => k_is)
    (case l1 => k_is)
    (case c1 => k_is)
    (case k1 => k_is)
    (case a2 => k_is)
    (case l2 => k_is)
    (case c2 => k_is)
    (case k2 => k_is)
    (case a3 => k_is)
    (case l3 => k_is)
    (case c3 => k_is)
    (case k3 => k_is)
    (case z_isinstance => k_is)
    (case z_len => k_is)
    (case z_repr => k_is)
    (case z_abs => k_is)
    (case z_max => k_is)
    (case z_min => k_is)
    (case z_int => k_is)
    (case z_range => k_is)
    (case z_enumerate => k_is)
    (case z_ValueError => k_is)
    (case g_0 => k_is)
    (case x_0 => k_is)
    (case k_0 => k_is)
    (case t_0 => k_is)
    (case hg_0 => k_is)
    (case hk_0 => k_is)
    (case ha_0 => k_is)
    (case e_0 => k_exc)
    (case g_1 => k_is)
    (case x_1 => k_is)
    (case k_1 => k_is)
    (case t_1 => k_is)
    (case hg_1 => k_is)
    (case hk_1 => k_is)
    (case ha_1 => k_is)
    (case e_1 => k_exc)
    (case g_2 => k_is)
    (case x_2 => k_is)
    (case k_2 => k_is)
    (case t_2 => k_is)
    (case hg_2 => k_is)
    (case hk_2 => k_is)
    (case ha_2 => k_is)
    (case e_2 => k_exc)
    (case g_3 => k_is)
    (case x_3 => k_is)
    (case k_3 => k_is)
    (case t_3 => k_is)
    (case hg_3 => k_is)
    (case hk_3 => k_is)
    (case ha_3 => k_is)
    (case e_3 => k_exc)
    (case g_4 => k_is)
    (case x_4 => k_is)
    (case k_4 => k_is)
    (case t_4 => k_is)
    (case hg_4 => k_is)
    (case hk_4 => k_is)
    (case ha_4 => k_is)
    (case e_4 => k_exc)
    (case g_5 => k_is)
    (case x_5 => k_is)
    (case k_5 => k_is)
    (case t_5 => k_is)
    (case hg_5 => k_is)
    (case hk_5 => k_is)
    (case ha_5 => k_is)
    (case e_5 => k_exc)
    (case g_6 => k_is)
    (case x_6 => k_is)
    (case k_6 => k_is)
    (case t_6 => k_is)
    (case hg_6 => k_is)
    (case hk_6 => k_is)
    (case ha_6 => k_is)
    (case e_6 => k_exc)
    (case g_7 => k_is)
    (case x_7 => k_is)
    (case k_7 => k_is)
    (case t_7 => k_is)
    (case hg_7 => k_is)
    (case hk_7 => k_is)
    (case ha_7 => k_is)
    (case e_7 => k_exc)
    (case g_8 => k_is)
    (case x_8 => k_is)
    (case k_8 => k_is)
    (case t_8 => k_is)
    (case hg_8 => k_is)
    (case hk_8 => k_is)
    (case ha_8 => k_is)
    (case e_8 => k_exc)
    (case g_9 => k_is)
    (case x_9 => k_is)
    (case k_9 => k_is)
    (case t_9 => k_is)
    (case hg_9 => k_is)
    (case hk_9 => k_is)
    (case ha_9 => k_is)
    (case e_9 => k_exc)
    (case g_10 => k_is)
    (case x_10 => k_is)
    (case k_10 => k_is)
    (case t_10 => k_is)
    (case hg_10 => k_is)
    (case hk_10 => k_is)
    (case ha_10 => k_is)
    (case e_10 => k_exc)
    (case g_11 => k_is)
    (case x_11 => k_is)
    (case k_11 => k_is)
    (case t_11 => k_is)
    (case hg_11 => k_is)
    (case hk_11 => k_is)
    (case ha_11 => k_is)
    (case e_11 => k_exc)
    (case g_12 => k_is)
    (case x_12 => k_is)
    (case k_12 => k_is)
    (case t_12 => k_is)
    (case hg_12 => k_is)
    (case hk_12 => k_is)
    (case ha_12 => k_is)
    (case e_12 => k_exc)
    (case g_13 => k_is)
    (case x_13 => k_is)
    (case k_13 => k_is)
    (case t_13 => k_is)
    (case hg_13 => k_is)
    (case hk_13 => k_is)
    (case ha_13 => k_is)
    (case e_13 => k_exc)
    (case g_14 => k_is)
    (case x_14 => k_is)
    (case k_14 => k_is)
    (case t_14 => k_is)
    (case hg_14 => k_is)
    (case hk_14 => k_is)
    (case ha_14 => k_is)
    (case e_14 => k_exc)
    (case g_15 => k_is)
    (case x_15 => k_is)
    (case k_15 => k_is)
    (case t_15 => k_is)
    (case hg_15 => k_is)
    (case hk_15 => k_is)
    (case ha_15 => k_is)
    (case e_15 => k_exc)
    (case g_16 => k_is)
    (case x_16 => k_is)
    (case k_16 => k_is)
    (case t_16 => k_is)
    (case hg_16 => k_is)
    (case hk_16 => k_is)
    (case ha_16 => k_is)
    (case e_16 => k_exc)
    (case g_17 => k_is)
    (case x_17 => k_is)
    (case k_17 => k_is)
    (case t_17 => k_is)
    (case hg_17 => k_is)
    (case hk_17 => k_is)
    (case ha_17 => k_is)
    (case e_17 => k_exc)
    (case g_18 => k_is)
    (case x_18 => k_is)
    (case k_18 => k_is)
    (case t_18 => k_is)
    (case hg_18 => k_is)
    (case hk_18 => k_is)
    (case ha_18 => k_is)
    (case e_18 => k_exc)
    (case g_19 => k_is)
    (case x_19 => k_is)
    (case k_19 => k_is)
    (case t_19 => k_is)
    (case hg_19 => k_is)
    (case hk_19 => k_is)
    (case ha_19 => k_is)
    (case e_19 => k_exc)
    (case g_20 => k_is)
    (case x_20 => k_is)
    (case k_20 => k_is)
    (case t_20 => k_is)
    (case hg_20 => k_is)
    (case hk_20 => k_is)
    (case ha_20 => k_is)
    (case g_21 => k_is)
    (case x_21 => k_is)
    (case k_21 => k_is)
    (case t_21 => k_is)
    (case hg_21 => k_is)
    (case hk_21 => k_is)
    (case ha_21 => k_is)
    (case hn_ => k_is)
    (case ht_ => k_is)
    (case sa_20 => k_is)
    (case nb_20 => k_is)
    (case aI_20 => k_is)
    (case tI_20 => k_is)
    (case lI_20 => k_is)
    (case cI_20 => k_is)
    (case sa_21 => k_is)
    (case nb_21 => k_is)
    (case aI_21 => k_is)
    (case tI_21 => k_is)
    (case lI_21 => k_is)
    (case cI_21 => k_is)
    (case nd_ => decide +kernel)
