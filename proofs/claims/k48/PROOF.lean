import PyProof.Rows.All
import Wide.All
import OpenK.AllK
import Wide.FinOn
import PyProof.EqAt
import PyProof.EqKinds
import PyProof.TupleCall
import PyProof.ReprReads
import HandS.ForMost
import HandS.Exc
import HandS.TryOnly
import HandS.ExcOwn
import HandS.WordsExc
import HandS.Wide
import HandS.IsInst
import HandS.Deep
import HandS.Style
import HandS.Conv
import HandS.Zip
import HandS.SortRule
import HandS.SortInts
import HandS.DictComp
import HandS.FStr
import HandS.RaiseMore
import HandS.TryMany
import HandS.ExcIs
import HandS.ExcValue
import KE.KExcIs
import HandS.Text
import HandS.StrMore
import HandS.Flow
import KE.DataCmp
import HandS.Codes
import PyProof.NeKinds
import PyProof.StrBlock2
import PySem.Challenge.RW_nudgewebs_k48_texts_of_no_webs
set_option Elab.async false
set_option linter.all false
set_option maxRecDepth 100000
set_option maxHeartbeats 4000000
/-! The ground: defs that run where nothing is being shown (so that repr may be asked), calls by name, repr of data, powers. -/
namespace Nw
open PySem PySem.Spec PyProof.Rows L2

/-! ### defs that run where no repr is under way -/
abbrev Quiet (A : Around) : Prop := A.guards = some []
structure FnG (P : Program) (w : World) (K : PySem.W.Frag) (mg : Str → Option Value)
    (base : Heap) (CX : CXT) (k : Nat) (f : Addr) (fd : FuncData) (ps : List Str) (sp : Sp) : Prop where
  len : ∀ vs H Q E, sp vs H Q E → vs.length = ps.length
  run : ∀ (A : Around) (outer : List Env) (s : Shared) (H : Hp) (args : Args) (us : List Value) (vs : List V)
    (Q : VK) (E : XK), Room k A → Quiet A → Env0 P w K mg base A outer s H →
    BindsTo s fd args (ps.zip us) → Vals vs us → sp vs H Q E →
    codeAny (model P w) A (.call (.ref f) args) (CR CX outer P w H s Q E) s

section
variable {P : Program} {w : World} {K : PySem.W.Frag} {mg : Str → Option Value} {base : Heap} {CX : CXT}
theorem FnG.mono {j k : Nat} {f : Addr} {fd : FuncData} {ps : List Str} {sp : Sp}
    (F : FnG P w K mg base CX j f fd ps sp) (h : j ≤ k) : FnG P w K mg base CX k f fd ps sp :=
  ⟨F.len, fun A outer s H args us vs Q E hr =>
    F.run A outer s H args us vs Q E (hr.mono h)⟩

theorem fng_of {k : Nat} {f : Addr} {name qual : Str} {params : Arguments} {body : List Stmt} {scope : Scope}
    {dV kV doc pm cdv ct oc : Value} {an od : Option Addr} {osl : Array (Option Value)} {N ps : List Str} {sp : Sp}
    (lk : K.lookup f = some ⟨oc, od, .func (PySem.W.fnOf name qual params body scope dV kV doc pm an cdv ct), osl⟩)
    (hcd : PySem.W.codeIn K cdv qual = true) (S : FnScope N ps scope)
    (len : ∀ vs H Q E, sp vs H Q E → vs.length = ps.length)
    (hbody : ∀ (A : Around) (outer : List Env) (s : Shared) (H : Hp) (vs : List V) (Q : VK) (E : XK),
      Room k (A.deeper (envOfC qual scope s.heap.objs.size f cdv)) → Quiet A → sp vs H Q E →
      ∃ t, PSs (cxOf CX P w K mg base N qual scope f cdv A outer s H E) body t ∧
        t { nx := fun _ H' => Q .non H', rt := Q } (start N vs) H) :
    FnG P w K mg base CX (k + 1) f (PySem.W.fnOf name qual params body scope dV kV doc pm an cdv ct) ps sp := by
  refine ⟨len, ?_⟩
  intro A outer s H args us vs Q E hr hgd e0 hb r hsp
  have hl := len _ _ _ _ hsp
  have old := fun b o (e : base.get? b = some o) => (e0.bs b o e).1
  have kinds : ∀ y ∈ ps.zip us, scope.names.lookup y.1 = some .local ∨
      (scope.names.lookup y.1 = some .cell ∧ ((cellsFrom (s.heap.objs.size + 1) scope.names []).lookup y.1).isSome = true) := by
    rintro ⟨n, v⟩ hy
    rcases S.par n (List.of_mem_zip hy).1 with q | q
    · exact Or.inl q
    · exact Or.inr ⟨q, PySem.W.cellsFrom_some _ _ _ (Or.inl q)⟩
  refine codeAny_call_function hr.depth ((e0.mod.kin.keeps old) _ _ lk) rfl S.co S.gen rfl
    (PySem.W.codeRec_of (e0.mod.kin.keeps old) hcd) (hb _ _ _ _ ?_)
  refine wpAny_newFunctionEnv_cells S.kind kinds fun env he s1 x => ?_
  subst he
  refine ⟨(e0.mod.nolimit.keeps old).keeps x.toInCall.keep, codeAny_func ?_⟩
  obtain ⟨t, ht, hq⟩ := hbody A outer s H vs Q E (hr.deeper _) hgd hsp
  have I0 : Inv (cxOf CX P w K mg base N qual scope f cdv A outer s H E) [] (start N vs) H s1 :=
    inv_start S hr.hd e0 hl r x
  refine wpAny_mono (ht.run [] s1 (start N vs) H _ I0 hq) ?_ (fun e s' hs => hs)
  intro fl s' hs
  cases fl with
  | ret u =>
    obtain ⟨v, σ', H', J, rv, q⟩ := hs
    exact (show CE outer P w H s Q u s' from ⟨v, H', J.os, J.bare, J.base, J.hok, rv, q⟩)
  | next =>
    obtain ⟨σ', H', J, q⟩ := hs
    exact (show CE outer P w H s Q Value.none s' from ⟨V.non, H', J.os, J.bare, J.base, J.hok, rfl, q⟩)
  | brk =>
    obtain ⟨_, _, _, q⟩ := hs
    exact q.elim
  | cont =>
    obtain ⟨_, _, _, q⟩ := hs
    exact q.elim

/-- a def of the text, by its body -/
theorem okG {x qual : Str} {st : Stmt} {f : Addr} {fd : FuncData} {N ps : List Str} {k : Nat} {sp : Sp}
    (F : Fun K x qual st f fd) (S : FnScope N ps (defScope st)) (len : ∀ vs H Q E, sp vs H Q E → vs.length = ps.length)
    (hbody : ∀ (cdv : Value) (A : Around) (outer : List Env) (s : Shared) (H : Hp) (vs : List V) (Q : VK) (E : XK),
      Room k (A.deeper (envOfC qual (defScope st) s.heap.objs.size f cdv)) →
      Quiet (A.deeper (envOfC qual (defScope st) s.heap.objs.size f cdv)) → sp vs H Q E →
      ∃ t, PSs (cxOf CX P w K mg base N qual (defScope st) f cdv A outer s H E) (defBody st) t ∧
        t { nx := fun _ H' => Q .non H', rt := Q } (start N vs) H) : FnG P w K mg base CX (k + 1) f fd ps sp := by
  obtain ⟨oc, od, kV, doc, pm, an, cdv, ct, osl, rfl, lk, hcd⟩ := F.ex
  exact fng_of lk hcd S len fun A outer s H vs Q E hr hq hsp => hbody cdv A outer s H vs Q E hr hq hsp

/-- a def as its callers see it -/
structure DefOk (P : Program) (w : World) (K : PySem.W.Frag) (mg : Str → Option Value) (base : Heap) (CX : CXT)
    (k : Nat) (x : Str) (ps : List Str) (sp : Sp) : Prop where
  ex : ∃ f fd, FnG P w K mg base CX k f fd ps sp ∧ mg x = some (.ref f) ∧
    PySem.W.keepIn K (.ref f) = true ∧ Binds K fd ps []
theorem DefOk.mono {j k : Nat} {x : Str} {ps : List Str} {sp : Sp} (D : DefOk P w K mg base CX j x ps sp) (h : j ≤ k) :
    DefOk P w K mg base CX k x ps sp := by
  obtain ⟨f, fd, F, r⟩ := D.ex
  exact ⟨f, fd, F.mono h, r⟩
end

/-- f(e, ..) -/
def tCallD (sp : Sp) (E : XK) (t : TA) : TE := fun σ H Q => t σ H fun vs H1 => sp vs H1 Q E
section
variable {X : Cx} {CX : CXT} {k : Nat} {ps : List Str} {sp : Sp} {E : XK} {x : Str} {p pos : Pos} {e : Expr} {es : List Expr} {t : TA}
theorem run_fng {f : Addr} {fd : FuncData} {pins : List (Addr × Obj)} {σ : L2.St} {H : Hp} {s : Shared} {Q : VK} {us : List Value} {vs : List V}
    (F : FnG X.prog X.w X.K X.mg X.base CX k f fd ps sp) (hr : Room k X.A) (hgd : Quiet X.A) (hb : Binds X.K fd ps [])
    (hx : Passes CX X E) (I : Inv X pins σ H s) (r : Vals vs us) (h : sp vs H Q E) :
    wpAny (model X.prog X.w) X.A (call (.ref f) us) (EP X pins σ Q) X.xe s := by
  have hl : (us ++ ([] : List Value)).length = ps.length := by
    rw [List.append_nil, ← r.length]
    exact F.len _ _ _ _ h
  have hb2 := hb s us I.kIn hl
  rw [List.append_nil] at hb2
  refine wpAny_call (codeAny_mono (F.run X.A X.stack s H ⟨us, []⟩ us vs Q E hr hgd I.env0 hb2 r h) ?_)
  intro r s' hq
  cases r with
  | error e => exact hx pins σ H s e s' I hq
  | ok fl =>
    cases fl with
    | ret u => exact I.after hq
    | next => exact (show False from hq).elim
    | brk => exact (show False from hq).elim
    | cont => exact (show False from hq).elim

theorem pe_callD (D : DefOk X.prog X.w X.K X.mg X.base CX k x ps sp) (hr : Room k X.A) (hgd : Quiet X.A) (hx : Passes CX X E)
    (ha : PA X (e :: es) t) (hg : Gl X x := by rfl) (hdb : (x == ("__debug__" : Str)) = false := by decide)
    (he : starEach (e :: es) X.env = (false, eval e X.env) :: starEach es X.env := by rfl)
    (hpl : (backTo pos (starEach es X.env)).any (·.1) = false := by rfl) :
    PE X (.Call (.Name x p) (e :: es) [] pos) (tCallD sp E t) := by
  obtain ⟨f, fd, F, hm, hk, hb⟩ := D.ex
  refine ⟨fun pins s σ H Q I h => ?_⟩
  refine wpAny_Call_Name_kw (ld_glob I hg hm ?_ hdb)
  refine PySem.W.callWith_K (h₀ := X.base) I.ok.mod.kin hk (thn (ha.run pos pins s σ H _ I h) ?_) he hpl
  rintro us s1 ⟨vs, H1, I1, r, q⟩
  exact ⟨I1.kIn, run_fng F hr hgd hb hx I1 r q⟩
end

/-! ### the law's end -/
section
variable {P : Program} {w : World} {K : PySem.W.Frag}
theorem law_callG {mg mb : Str → Option Value} {CX : CXT} {k : Nat} {fa a : Addr} {fd : FuncData} {x : Str} {sp : Sp}
    {s1 : Shared} {vs : List Value} {ns : List Int}
    (KX : K.In s1.heap) (hns : s1.heap.Ns mainGlobals mg) (hb : s1.heap.Ns builtinsNs mb)
    (hbb : ∀ x : Str, x ≠ "__name__" → mb x = bootBuiltins x) (hlim : s1.heap.NoLimit) (hg : s1.gens = #[])
    (ha : s1.heap.get? a = some { cls := .type "list", data := .seq vs.toArray }) (hi : IntsAre vs ns)
    (hl : ns.length ≤ sizeLine) (hr : Room k callerA)
    (F : ∀ base : Heap, K.In base → base.Ns mainGlobals mg → FnG P w K mg base CX k fa fd [x] sp)
    (hbind : ∀ (s : Shared) (u : Value), BindsTo s fd ⟨[u], []⟩ [(x, u)])
    (hsp : ∀ H : Hp, Only H → SqL K H a (ns.map V.int) → sp [.ref a] H (fun v _ => v = .bl true) fun _ _ _ => False)
    (hCX : ∀ H e s', CX [] H s1 (fun _ _ _ => False) e s' → False) :
    codeAny (model P w) callerA (.call (.ref fa) ⟨[.ref a], []⟩)
      (fun r s' => r = .ok (.ret (.bool true)) ∧ OldK s1.heap s'.heap ∧ s'.os = s1.os ∧ AllBare s'.gens) s1 := by
  have rv := vals_ints hi
  have lenV := hi.length
  have core : ∀ H : Hp, Only H → SqL K H a (ns.map V.int) → HOk P w H s1.heap →
      (∀ b, H b ≠ none → b = a) → (H a ≠ none → K.lookup a = none) →
      codeAny (model P w) callerA (.call (.ref fa) ⟨[.ref a], []⟩)
        (fun r s' => r = .ok (.ret (.bool true)) ∧ OldK s1.heap s'.heap ∧ s'.os = s1.os ∧ AllBare s'.gens) s1 := by
    intro H hO hS hok hA hK
    have fromH : ∀ {b : Addr} {o : Obj}, s1.heap.get? b = some o → H b = none →
        (hidT s1.heap H).get? b = some o := fun e n => hidT_get e n
    have free : ∀ {b : Addr} {o : Obj} {es : Array DictEntry} {ep : Nat},
        s1.heap.get? b = some o → o.data = .dict es ep → H b = none := by
      intro b o es ep e d
      cases q : H b with
      | none => rfl
      | some u =>
        have e' : b = a := hA b (by rw [q]; exact fun z => nomatch z)
        subst e'
        rw [ha] at e
        cases e
        exact nomatch d
    have nsK : ∀ {b : Addr} {m : Str → Option Value}, s1.heap.Ns b m → (hidT s1.heap H).Ns b m := by
      rintro b m ⟨o, es, ep, e, d, r⟩
      exact ⟨o, es, ep, fromH e (free e d), d, r⟩
    have hKb : K.In (hidT s1.heap H) := by
      intro b o e
      refine fromH (KX b o e) ?_
      cases q : H b with
      | none => rfl
      | some u =>
        have e' : b = a := hA b (by rw [q]; exact fun z => nomatch z)
        subst e'
        rw [hK (by rw [q]; exact fun z => nomatch z)] at e
        cases e
    have hM : Mod K mg (hidT s1.heap H) := by
      obtain ⟨mc, h1, h2⟩ := hlim
      exact ⟨hKb, nsK hns, ⟨mb, nsK hb, hbb⟩, ⟨mc, nsK h1, h2⟩⟩
    have e0 : Env0 P w K mg (hidT s1.heap H) callerA [] s1 H :=
      ⟨rfl, hM, fun b o e => of_hidT e, Nat.le_of_eq (hidT_size _ _), trivial,
        fun b hb => (List.not_mem_nil hb).elim, hok, .of_eq hg⟩
    refine codeAny_mono ((F _ hKb (nsK hns)).run callerA [] s1 H ⟨[.ref a], []⟩ [.ref a] [.ref a] _ _ hr rfl e0
      (hbind s1 (.ref a)) (.cons rfl .nil) (hsp H hO hS)) ?_
    intro r s' h
    cases r with
    | error e => exact (hCX H e s' h).elim
    | ok fl =>
      cases fl with
      | next => exact (show False from h).elim
      | brk => exact (show False from h).elim
      | cont => exact (show False from h).elim
      | ret u =>
        obtain ⟨v, H', os, bare, un, hok', r', q⟩ := h
        have q' : v = .bl true := q
        subst q'
        obtain rfl : u = Value.bool true := r'
        refine ⟨rfl, OldK.of_keep ?_, os, bare⟩
        intro b o e
        cases q : H b with
        | none => exact un.keep b o e q (fun z => (List.not_mem_nil z).elim) (fun z => (List.not_mem_nil z).elim)
        | some u =>
          rcases hO b with z | ⟨ob, xs, z⟩
          · rw [q] at z
            cases z
          · obtain ⟨e1, _⟩ := hok b _ z
            obtain ⟨e2, _⟩ := hok' b _ (un.frzs b ob _ z)
            rw [e] at e1
            cases e1
            exact e2
  cases hk : K.lookup a with
  | some o =>
    have e := KX a o hk
    rw [ha] at e
    cases e
    exact core (fun _ => none) (fun _ => .inl rfl)
      (.inr ⟨_, vs.toArray, _, hk, rfl, rfl, rfl, by rw [List.size_toArray, lenV]; exact hl, by simpa using rv⟩)
      (fun b u z => nomatch z) (fun b z => (z rfl).elim) (fun z => (z rfl).elim)
  | none =>
    refine core (fun b => if b = a then some (.frz { cls := .type "list", data := .seq vs.toArray } (.lst (ns.map V.int))) else none)
      ?_ (.inl (.inr ⟨{ cls := .type "list", data := .seq vs.toArray }, if_pos rfl⟩)) ?_ ?_ (fun _ => hk)
    · intro b
      by_cases hb : b = a
      · exact .inr ⟨_, _, if_pos hb⟩
      · exact .inl (if_neg hb)
    · intro b u z
      by_cases hb : b = a
      · have z' := (if_pos hb).symm.trans z
        cases z'
        subst hb
        exact ⟨ha, by rw [List.length_map]; exact hl, vs, _, rv, ha⟩
      · have z' := (if_neg hb).symm.trans z
        cases z'
    · intro b z
      by_cases hb : b = a
      · exact hb
      · exact (z (if_neg hb)).elim
end

theorem walkG {l : PySem.W.OpenLaw} {n k : Nat} {q : Program} {loose : List Str} {XP : (Str → Option Value) → Heap → Prop}
    {YP : World → Heap → Prop} {d : DefRec} {K : Params → PySem.W.Frag} {CX : World → CXT} {sp : World → Sp} {x : Str}
    (hn : l.most = some n) (hn2 : n ≤ sizeLine) (hdf : d.params.defaults = []) (hr : Room k callerA)
    (hY : ∀ (w : World) (h : Heap), YP w h → (K w.params).In h)
    (F : ∀ (w : World) (mg : Str → Option Value) (fa : Addr) (h : Heap), (K w.params).In h → h.Ns mainGlobals mg →
      mg d.name = some (.ref fa) → ∃ fd : FuncData, (∀ (s : Shared) (u : Value), BindsTo s fd ⟨[u], []⟩ [(x, u)]) ∧
        ∀ base : Heap, (K w.params).In base → base.Ns mainGlobals mg →
          FnG l.prog w (K w.params) mg base (CX w) k fa fd [x] (sp w))
    (hsp : ∀ (w : World) (H : Hp) (a : Addr) (ns : List Int), ns.length ≤ n → Only H →
      SqL (K w.params) H a (ns.map V.int) → sp w [.ref a] H (fun v _ => v = .bl true) fun _ _ _ => False)
    (hCX : ∀ (w : World) (H : Hp) (s : Shared) (e : Value) (s' : Shared), CX w [] H s (fun _ _ _ => False) e s' → False) :
    PySem.W.WalkO q loose XP YP l.row.toRowW d [] (fun f vs => PySem.call f vs) := by
  refine Att.attach_call hn hdf ?_
  intro w s0 s1 mg mb fa o pm cd doc a vs ns G Y ho hd hcd hmg hobj hints hlen hg
  obtain ⟨fd, hb, hF⟩ := F w mg fa _ (hY w _ Y) G.T.g hmg
  exact law_callG (hY w _ Y) G.T.g G.T.b G.T.builtins G.T.nolimit hg hobj hints (Nat.le_trans hlen hn2) hr hF hb
    (fun H hO hS => hsp w H a ns hlen hO hS) (fun H e s' => hCX w H s1 e s')

/-! ### repr of data -/
section
variable {X : Cx}
mutual
theorem dp_noDict {K : PySem.W.Frag} {H : Hp} : ∀ (d : PyData) (v : V), Dp K H v d → d.hasDict = false
  | .none, _, _ => by simp only [PyData.hasDict]
  | .bool _, _, _ => by simp only [PyData.hasDict]
  | .int _, _, _ => by simp only [PyData.hasDict]
  | .str _, _, _ => by simp only [PyData.hasDict]
  | .list ds, _, h => by
    cases h with
    | lst _ ha =>
      simp only [PyData.hasDict]
      exact dp_noDictAll ds _ ha
  | .tuple ds, _, h => by
    cases h with
    | tup _ ha =>
      simp only [PyData.hasDict]
      exact dp_noDictAll ds _ ha
  | .dict _, _, h => by cases h
theorem dp_noDictAll {K : PySem.W.Frag} {H : Hp} : ∀ (ds : List PyData) (vs : List V), DpAll K H vs ds → PyData.hasDictAll ds = false
  | [], _, _ => by simp only [PyData.hasDictAll]
  | d :: ds, _, h => by
    cases h with
    | cons h1 h2 => simp only [PyData.hasDictAll, dp_noDict d _ h1, dp_noDictAll ds _ h2, Bool.or_self]
end
/-- repr(x), x any data without dicts -/
def rReprD (K : PySem.W.Frag) : List V → Hp → VK → Prop := fun xs H Q =>
  ∃ x d, xs = [x] ∧ Dp K H x d ∧ d.showable = true ∧ d.shown.length ≤ sizeLine ∧ d.depth ≤ 60 ∧ Q (.str d.shown) H
end
end Nw
/-! Data as trees over the abstract heap; what is asked of them. -/
namespace Nw
open PySem PySem.Spec PyProof.Rows L2

/-- what is known stays known -/
abbrev Ex (H H' : Hp) : Prop := ∀ b o, H b = some o → H' b = some o
theorem Ex.rfl {H : Hp} : Ex H H := fun _ _ h => h
theorem Ex.tr {H H1 H2 : Hp} (a : Ex H H1) (b : Ex H1 H2) : Ex H H2 := fun c o h => b c o (a c o h)
theorem Ex.nw {H : Hp} {p : Addr} {o : HO} (h : H p = none) : Ex H (upd H p o) := fun b u e => by
  rw [upd_ne (ne_of_none e h)]
  exact e
theorem Ex.nw2 {H H' : Hp} {p : Addr} {o : HO} (e : Ex H H') (h : H' p = none) : Ex H (upd H' p o) := e.tr (Ex.nw h)
theorem Ex.fr {H H' : Hp} (e : Ex H H') {l : Addr} (h : H' l = none) : H l = none := by
  cases q : H l with
  | none => exact Eq.refl _
  | some o =>
    rw [e l o q] at h
    cases h
/-- an object that H does not know may change -/
theorem Ex.wr {H H' : Hp} {p : Addr} {o : HO} (e : Ex H H') (h : H p = none) : Ex H (upd H' p o) := fun a u ha => by
  rw [upd_ne (ne_of_none ha h)]
  exact e a u ha
section
variable {K : PySem.W.Frag} {H H' : Hp}
theorem Ex.rd {a : Addr} {u : HO} (e : Ex H H') (h : Rd H a u) : Rd H' a u := by
  rcases h with h | ⟨o, h⟩
  · exact Or.inl (e a _ h)
  · exact Or.inr ⟨o, e a _ h⟩
theorem Ex.l {a : Addr} {xs : List V} (e : Ex H H') (h : SqL K H a xs) : SqL K H' a xs := by
  rcases h with h | h
  · exact Or.inl (e.rd h)
  · exact Or.inr h
theorem Ex.t {a : Addr} {xs : List V} (e : Ex H H') (h : SqT K H a xs) : SqT K H' a xs := by
  rcases h with h | h
  · exact Or.inl (e.rd h)
  · exact Or.inr h
end

/-! ### data -/
/-- a dict of ints and texts with plain values -/
def keyD : Key → PyData
  | .inl i => .int i
  | .inr x => .str x
mutual
def Da (K : PySem.W.Frag) (H : Hp) : PyData → V → Prop
  | .none, v => v = .non
  | .bool b, v => v = .bl b
  | .int i, v => v = .int i
  | .str x, v => v = .str x
  | .list ds, v => ∃ a xs, v = .ref a ∧ H a = some (.lst xs) ∧ DaAll K H ds xs ∧ ds.length ≤ 100000
  | .tuple ds, v => ∃ a xs, v = .ref a ∧ H a = some (.tup xs) ∧ DaAll K H ds xs
  | .dict kd, v => ∃ a kvs, v = .ref a ∧ H a = some (.dK kvs) ∧ (kvs.map fun kv => keyD kv.1) = kd.map (·.1) ∧ DaKv K H kd (kvs.map (·.2))
def DaAll (K : PySem.W.Frag) (H : Hp) : List PyData → List V → Prop
  | [], vs => vs = []
  | d :: ds, vs => ∃ x xs, vs = x :: xs ∧ Da K H d x ∧ DaAll K H ds xs
def DaKv (K : PySem.W.Frag) (H : Hp) : List (PyData × PyData) → List V → Prop
  | [], vs => vs = []
  | (_, d) :: ds, vs => ∃ x xs, vs = x :: xs ∧ Da K H d x ∧ DaKv K H ds xs
end
section
variable {K : PySem.W.Frag} {H H' : Hp}
mutual
theorem Da.mono (e : Ex H H') : ∀ (d : PyData) (v : V), Da K H d v → Da K H' d v
  | .none, _, h => h
  | .bool _, _, h => h
  | .int _, _, h => h
  | .str _, _, h => h
  | .list ds, v, h => by
    obtain ⟨a, xs, ev, hs, ha, hz⟩ := h
    exact ⟨a, xs, ev, e _ _ hs, DaAll.mono e ds xs ha, hz⟩
  | .tuple ds, v, h => by
    obtain ⟨a, xs, ev, hs, ha⟩ := h
    exact ⟨a, xs, ev, e _ _ hs, DaAll.mono e ds xs ha⟩
  | .dict kd, v, h => by
    obtain ⟨a, kvs, ev, hs, hk, hv⟩ := h
    exact ⟨a, kvs, ev, e _ _ hs, hk, DaKv.mono e kd _ hv⟩
theorem DaAll.mono (e : Ex H H') : ∀ (ds : List PyData) (vs : List V), DaAll K H ds vs → DaAll K H' ds vs
  | [], _, h => h
  | d :: ds, vs, h => by
    obtain ⟨x, xs, ev, h1, h2⟩ := h
    exact ⟨x, xs, ev, Da.mono e d x h1, DaAll.mono e ds xs h2⟩
theorem DaKv.mono (e : Ex H H') : ∀ (ds : List (PyData × PyData)) (vs : List V), DaKv K H ds vs → DaKv K H' ds vs
  | [], _, h => h
  | (_, d) :: ds, vs, h => by
    obtain ⟨x, xs, ev, h1, h2⟩ := h
    exact ⟨x, xs, ev, Da.mono e d x h1, DaKv.mono e ds xs h2⟩
end
theorem Da.up {d : PyData} {v : V} (h : Da K H d v) (e : Ex H H') : Da K H' d v := Da.mono e d v h
theorem DaAll.up {ds : List PyData} {vs : List V} (h : DaAll K H ds vs) (e : Ex H H') : DaAll K H' ds vs := DaAll.mono e ds vs h
mutual
theorem Da.dp : ∀ (d : PyData) (v : V), Da K H d v → d.hasDict = false → Dp K H v d
  | .none, _, h, _ => by
    obtain rfl := h
    exact .non
  | .bool b, _, h, _ => by
    obtain rfl := h
    exact .bl b
  | .int i, _, h, _ => by
    obtain rfl := h
    exact .int i
  | .str x, _, h, _ => by
    obtain rfl := h
    exact .str x
  | .list ds, v, h, hd => by
    obtain ⟨a, xs, rfl, hs, ha, _⟩ := h
    exact .lst (.inl (.inl hs)) (DaAll.dp ds xs ha (by simpa only [PyData.hasDict] using hd))
  | .tuple ds, v, h, hd => by
    obtain ⟨a, xs, rfl, hs, ha⟩ := h
    exact .tup (.inl (.inl hs)) (DaAll.dp ds xs ha (by simpa only [PyData.hasDict] using hd))
  | .dict kd, v, h, hd => by
    simp only [PyData.hasDict] at hd
    cases hd
theorem DaAll.dp : ∀ (ds : List PyData) (vs : List V), DaAll K H ds vs → PyData.hasDictAll ds = false → DpAll K H vs ds
  | [], _, h, _ => by
    obtain rfl := h
    exact .nil
  | d :: ds, vs, h, hd => by
    obtain ⟨x, xs, rfl, h1, h2⟩ := h
    simp only [PyData.hasDictAll, Bool.or_eq_false_iff] at hd
    exact .cons (Da.dp d x h1 hd.1) (DaAll.dp ds xs h2 hd.2)
end
theorem DaAll.len : ∀ {ds : List PyData} {vs : List V}, DaAll K H ds vs → ds.length = vs.length
  | [], _, h => by
    obtain rfl := h
    exact Eq.refl _
  | d :: ds, vs, h => by
    obtain ⟨x, xs, rfl, _, h2⟩ := h
    rw [List.length_cons, List.length_cons, DaAll.len h2]
theorem DaAll.at : ∀ {ds : List PyData} {vs : List V} {i : Nat} {d : PyData}, DaAll K H ds vs → ds[i]? = some d → ∃ x, vs[i]? = some x ∧ Da K H d x
  | [], _, _, _, _, e => by simp at e
  | d :: ds, vs, 0, _, h, e => by
    obtain ⟨x, xs, rfl, h1, _⟩ := h
    cases e
    exact ⟨x, Eq.refl _, h1⟩
  | d :: ds, vs, i + 1, _, h, e => by
    obtain ⟨x, xs, rfl, _, h2⟩ := h
    simp only [List.getElem?_cons_succ] at e ⊢
    exact DaAll.at h2 e
theorem DaAll.at' : ∀ {ds : List PyData} {vs : List V} {i : Nat} {x : V}, DaAll K H ds vs → vs[i]? = some x → ∃ d, ds[i]? = some d ∧ Da K H d x
  | [], _, _, _, h, e => by
    obtain rfl := h
    simp at e
  | d :: ds, vs, 0, _, h, e => by
    obtain ⟨x, xs, rfl, h1, _⟩ := h
    cases e
    exact ⟨d, Eq.refl _, h1⟩
  | d :: ds, vs, i + 1, _, h, e => by
    obtain ⟨x, xs, rfl, _, h2⟩ := h
    simp only [List.getElem?_cons_succ] at e ⊢
    exact DaAll.at' h2 e
theorem DaAll.app : ∀ {ds es : List PyData} {vs ws : List V}, DaAll K H ds vs → DaAll K H es ws → DaAll K H (ds ++ es) (vs ++ ws)
  | [], _, _, _, h, g => by
    obtain rfl := h
    exact g
  | d :: ds, es, vs, ws, h, g => by
    obtain ⟨x, xs, rfl, h1, h2⟩ := h
    exact ⟨x, xs ++ ws, Eq.refl _, h1, DaAll.app h2 g⟩
theorem DaAll.ints : ∀ {ns : List Int} {vs : List V}, DaAll K H (ns.map PyData.int) vs ↔ vs = ns.map V.int
  | [], vs => Iff.rfl
  | n :: ns, vs => by
    constructor
    · rintro ⟨x, xs, rfl, rfl, h2⟩
      rw [List.map_cons, DaAll.ints.mp h2]
    · rintro rfl
      exact ⟨_, _, Eq.refl _, Eq.refl _, DaAll.ints.mpr (Eq.refl _)⟩
theorem DaAll.mem : ∀ {ds : List PyData} {vs : List V}, DaAll K H ds vs → ∀ x ∈ vs, ∃ d ∈ ds, Da K H d x
  | [], _, h, x, hx => by
    obtain rfl := h
    cases hx
  | d :: ds, vs, h, x, hx => by
    obtain ⟨y, ys, rfl, h1, h2⟩ := h
    rcases List.mem_cons.mp hx with rfl | hx
    · exact ⟨d, List.mem_cons_self, h1⟩
    · obtain ⟨e, he, hd⟩ := DaAll.mem h2 x hx
      exact ⟨e, List.mem_cons_of_mem _ he, hd⟩

/-! ### types -/
theorem tyx_l {a : Addr} {xs : List V} (h : SqL K H a xs) : TyX K H (.ref a) (.type "list") := by
  rcases h with (h | ⟨o, h⟩) | ⟨o, its, n, e, c, _⟩
  · exact .base (.lst h)
  · exact .base (.frz h)
  · exact .kList e c
theorem tyx_t {a : Addr} {xs : List V} (h : SqT K H a xs) : TyX K H (.ref a) (.type "tuple") := by
  rcases h with (h | ⟨o, h⟩) | ⟨o, its, n, e, c, _⟩
  · exact .base (.tup h)
  · exact .fTuple h
  · exact .kTuple e c
/-- the name of a datum's type -/
def tyName : PyData → String
  | .none => "NoneType"
  | .bool _ => "bool"
  | .int _ => "int"
  | .str _ => "str"
  | .list _ => "list"
  | .tuple _ => "tuple"
  | .dict _ => "dict"
theorem Da.ty : ∀ {d : PyData} {v : V}, Da K H d v → TyX K H v (.type (tyName d))
  | .none, _, h => by
    obtain rfl := h
    exact .base .non
  | .bool b, _, h => by
    obtain rfl := h
    exact .base (.bl b)
  | .int i, _, h => by
    obtain rfl := h
    exact .base (.int i)
  | .str x, _, h => by
    obtain rfl := h
    exact .base (.str x)
  | .list ds, v, h => by
    obtain ⟨a, xs, rfl, hs, _⟩ := h
    exact tyx_l (.inl (.inl hs))
  | .tuple ds, v, h => by
    obtain ⟨a, xs, rfl, hs, _⟩ := h
    exact tyx_t (.inl (.inl hs))
  | .dict kd, v, h => by
    obtain ⟨a, kvs, rfl, hs, _⟩ := h
    exact .base (.dK hs)
/-- isinstance by the types' names -/
def isN (T n : String) : Bool := T == n || (T == "int" && n == "bool")
/-- isinstance of data: int, bool, list, tuple, str -/
def isA (T : String) (d : PyData) : Bool := isN T (tyName d)
theorem isN_ok (T : String) (hT : T = "int" ∨ T = "bool" ∨ T = "list" ∨ T = "tuple" ∨ T = "str") (n : String)
    (hn : n = "NoneType" ∨ n = "bool" ∨ n = "int" ∨ n = "str" ∨ n = "list" ∨ n = "tuple" ∨ n = "dict") :
    PySem.W.kitOne K (.type n) (.type T) = some (isN T n) := by
  rcases hT with rfl | rfl | rfl | rfl | rfl <;> rcases hn with rfl | rfl | rfl | rfl | rfl | rfl | rfl <;> exact kit_ty (by decide +kernel)
theorem isA_ok (T : String) (hT : T = "int" ∨ T = "bool" ∨ T = "list" ∨ T = "tuple" ∨ T = "str") (d : PyData) :
    PySem.W.kitOne K (.type (tyName d)) (.type T) = some (isA T d) := isN_ok T hT _ (by cases d <;> simp [tyName])
end

/-! ### rules -/
section
variable {X : Cx}
theorem call_reprD {k : Nat} (hq : Quiet X.A) (hr : Room k X.A) : CallR X (.builtin "repr") (rReprD X.K) := by
  intro pins s σ H xs us Q I r h
  obtain ⟨x, d, rfl, hd, hs, hz, hdp, q⟩ := h
  obtain ⟨u, rfl, rx⟩ := Vals.one r
  obtain ⟨as, rd⟩ := Dp.reads I d x u hd rx
  have nd := dp_noDict d x hd
  have hu : X.A.units + 200 < cLine := by have := hr.un; omega
  have fin : ∀ h' u' tk, (∀ b o, s.heap.get? b = some o → h'.get? b = some o) →
      EP X pins σ Q (.str d.shown u') { s with heap := h', toks := tk } :=
    fun h' u' tk hk => ⟨.str d.shown, H, I.kept hk, ⟨_, rfl⟩, q⟩
  cases d with
  | none =>
    cases hd
    obtain rfl : u = Value.none := rx
    exact PySem.P.repr_of_none (fin s.heap _ _ fun _ _ e => e)
  | bool b =>
    cases hd
    obtain rfl : u = Value.bool b := rx
    exact PySem.P.repr_of_bool (fin s.heap _ _ fun _ _ e => e)
  | int i =>
    cases hd
    obtain ⟨t, rfl⟩ := rx
    exact PySem.P.repr_of_int (by simpa only [PyData.showable, decide_eq_true_eq] using hs) (fin s.heap _ _ fun _ _ e => e)
  | str z =>
    cases hd
    obtain ⟨t, rfl⟩ := rx
    exact PySem.P.repr_of_str (fin s.heap _ _ fun _ _ e => e) (by simpa only [PyData.shown] using hz)
  | list ds =>
    cases hd with
    | lst h1 h2 =>
      cases rx
      exact repr_of_reads' rd hs (PyData.noDict_hsm nd) hq (by omega) (fun _ _ e => e) fin hz
  | tuple ds =>
    cases hd with
    | tup h1 h2 =>
      cases rx
      exact repr_of_reads' rd hs (PyData.noDict_hsm nd) hq (by omega) (fun _ _ e => e) fin hz
  | dict kd => cases hd

/-- a ** b of great numbers -/
def CPowW (i j : Int) : Prop := 0 ≤ j ∧ j ≤ 100 ∧ i.natAbs < 2 ^ 10000
theorem op_powW : OpR X (binaryOp .Pow) (rI CPowW fun i j => .int (i ^ j.toNat)) := opI fun i j t u s A E hc q => by
  obtain ⟨h0, h8, hi⟩ := hc
  refine pow_int h0 ?_ q
  have hb : Builtin.Int.intBits i ≤ 10000 := by
    unfold Builtin.Int.intBits
    split
    · omega
    · rename_i hn
      have hne : i.natAbs ≠ 0 := by
        intro e
        exact hn (by simpa using e)
      have := (Nat.log2_lt hne).mpr hi
      omega
  have h1 : (Builtin.Int.intBits i : Int) * j ≤ 10000 * 100 := Int.mul_le_mul (by omega) h8 h0 (by omega)
  omega
end
end Nw
namespace Nw
open PySem PySem.Spec PyProof.Rows L2
section
variable {P : Program} {w : World} {K : PySem.W.Frag} {mg : Str → Option Value} {base : Heap}
/-- a def that lets no exception out -/
theorem okG0 {x qual : Str} {st : Stmt} {f : Addr} {fd : FuncData} {N ps : List Str} {k : Nat} {sp : Sp}
    (F : Fun K x qual st f fd) (S : FnScope N ps (defScope st)) (len : ∀ vs H Q E, sp vs H Q E → vs.length = ps.length)
    (hbody : ∀ (cdv : Value) (A : Around) (outer : List Env) (s : Shared) (H : Hp) (vs : List V) (Q : VK) (E : XK),
      Room k (A.deeper (envOfC qual (defScope st) s.heap.objs.size f cdv)) →
      Quiet (A.deeper (envOfC qual (defScope st) s.heap.objs.size f cdv)) → sp vs H Q E →
      ∃ t, PSs (cxOf CX0 P w K mg base N qual (defScope st) f cdv A outer s H E).nox (defBody st) t ∧
        t { nx := fun _ H' => Q .non H', rt := Q } (start N vs) H) : FnG P w K mg base CX0 (k + 1) f fd ps sp :=
  okG F S len fun cdv A outer s H vs Q E hr hq hsp => by
    obtain ⟨t, h, q⟩ := hbody cdv A outer s H vs Q E hr hq hsp
    exact ⟨t, h.nox, q⟩
end
theorem pe_globI {X : Cx} {x : Str} {n : Int} {pos : Pos} (hm : ∃ t, X.mg x = some (.int n t)) (hg : Gl X x := by rfl)
    (hd : (x == ("__debug__" : Str)) = false := by decide) : PE X (.Name x pos) (tC (.int n)) := by
  obtain ⟨t, h⟩ := hm
  exact pe_glob hg h ⟨t, rfl⟩ hd
theorem pe_bty {X : Cx} {x : Str} {n : String} {pos : Pos} (hm : X.mg x = none) (hv : bootBuiltins x = some (.type n)) (hg : Gl X x := by rfl)
    (hn : x ≠ "__name__" := by decide) (hd : (x == ("__debug__" : Str)) = false := by decide) : PE X (.Name x pos) (tC (.ty n)) :=
  pe_bltn hg hm hv rfl hn hd
theorem bt_isinstance : bootBuiltins "isinstance" = some (.builtin "isinstance") := by decide +kernel
theorem bt_len : bootBuiltins "len" = some (.builtin "len") := by decide +kernel
theorem bt_all : bootBuiltins "all" = some (.builtin "all") := by decide +kernel
theorem bt_any : bootBuiltins "any" = some (.builtin "any") := by decide +kernel
theorem bt_sum : bootBuiltins "sum" = some (.builtin "sum") := by decide +kernel
theorem bt_repr : bootBuiltins "repr" = some (.builtin "repr") := by decide +kernel
theorem bt_abs : bootBuiltins "abs" = some (.builtin "abs") := by decide +kernel
theorem bt_max : bootBuiltins "max" = some (.builtin "max") := by decide +kernel
theorem bt_min : bootBuiltins "min" = some (.builtin "min") := by decide +kernel
theorem bt_sorted : bootBuiltins "sorted" = some (.builtin "sorted") := by decide +kernel
theorem bt_int : bootBuiltins "int" = some (.type "int") := by decide +kernel
theorem bt_bool : bootBuiltins "bool" = some (.type "bool") := by decide +kernel
theorem bt_str : bootBuiltins "str" = some (.type "str") := by decide +kernel
theorem bt_list : bootBuiltins "list" = some (.type "list") := by decide +kernel
theorem bt_tuple : bootBuiltins "tuple" = some (.type "tuple") := by decide +kernel
theorem bt_set : bootBuiltins "set" = some (.type "set") := by decide +kernel
/-- isinstance(x, T) of data -/
theorem isi_da {K : PySem.W.Frag} {H : Hp} {d : PyData} {v : V} {T : String} {Q : VK} (h : Da K H d v)
    (hT : T = "int" ∨ T = "bool" ∨ T = "list" ∨ T = "tuple" ∨ T = "str") (q : Q (.bl (isA T d)) H) : rIsi K [v, .ty T] H Q :=
  ⟨v, .ty T, _, _, _, rfl, .ty T, h.ty, isA_ok T hT d, q⟩
theorem start_eq {N : List Str} {vs : List V} : start N vs = vs.map some ++ List.replicate (N.length - vs.length) none := rfl
end Nw
/-! repr of data with dicts: sys.modules has to be told apart, which the top knows. -/
namespace Nw
open PySem PySem.Spec PyProof.Rows L2
abbrev SysAt (base : Heap) : Prop := ∃ mm, base.Ns sysModules mm
section
variable {X : Cx} {pins : List (Addr × Obj)} {σ : L2.St} {H : Hp} {s : Shared}
theorem sys_no_list (I : Inv X pins σ H s) (SM : SysAt X.base) {a : Addr} {o : Obj} {vs : Array Value} {n : Nat} (h : s.heap.get? a = some o) (hd : o.data = .seq vs n) : a ≠ sysModules := by
  rintro rfl
  obtain ⟨mm, o2, es, ep, e, d, _⟩ := SM
  have h2 := I.bk _ _ e
  rw [h] at h2
  cases h2
  rw [hd] at d
  cases d
theorem reads_keys : ∀ {kd : List PyData} {kvs : List (Key × V)} {vs : List (Key × Value)} {es : List DictEntry} {h : Heap} {P : Program} {w : World}, (kvs.map fun kv => keyD kv.1) = kd → KV kvs vs → Pairs (mixKind P w) es vs →
    ReadsAll h (es.map (·.key)) kd [] ∧ Vals (kvs.map (·.2)) (es.map (·.val))
  | [], [], _, _, _, _, _, _, .nil, .nil => ⟨.nil, .nil⟩
  | [], _ :: _, _, _, _, _, _, hk, _, _ => by simp at hk
  | _ :: _, [], _, _, _, _, _, hk, _, _ => by simp at hk
  | k :: kd, (k', v') :: kvs, _, _, h, P, w, hk, .cons (a := _) (b := q) ⟨e1, r1⟩ t, .cons (e := en) hk2 hv t2 => by
    simp only [List.map_cons, List.cons.injEq] at hk
    obtain ⟨rfl, hk3⟩ := hk
    obtain ⟨ih1, ih2⟩ := reads_keys (h := h) (P := P) (w := w) hk3 t t2
    simp only at e1 r1
    subst e1
    have hkey : Reads h en.key (keyD q.1) [] := by
      rcases keyIs_shape (show keyIs q.1 en.key = true from hk2) with ⟨i, t, e, e'⟩ | ⟨x, t, e, e'⟩
      · rw [e', e]
        exact .int i t
      · rw [e', e]
        exact .str x t
    simp only [List.map_cons]
    rw [hv]
    exact ⟨.cons (as := []) (bs := []) hkey ih1, .cons r1 ih2⟩
mutual
theorem Da.reads (I : Inv X pins σ H s) (SM : SysAt X.base) : ∀ (d : PyData) (v : V) (u : Value), Da X.K H d v → RelV v u → ∃ as, Reads s.heap u d as ∧ sysModules ∉ as
  | .none, _, _, h, r => by
    obtain rfl := h
    cases r
    exact ⟨_, .none, by simp⟩
  | .bool b, _, _, h, r => by
    obtain rfl := h
    cases r
    exact ⟨_, .bool b, by simp⟩
  | .int i, _, _, h, r => by
    obtain rfl := h
    obtain ⟨t, rfl⟩ := r
    exact ⟨_, .int i t, by simp⟩
  | .str x, _, _, h, r => by
    obtain rfl := h
    obtain ⟨t, rfl⟩ := r
    exact ⟨_, .str x t, by simp⟩
  | .list ds, _, _, h, r => by
    obtain ⟨a, xs, rfl, hs, ha, _⟩ := h
    cases r
    obtain ⟨its, rv, ⟨o, n, ho, hc, _, hd⟩, _⟩ := I.list (.inl (.inl hs))
    obtain ⟨as, hr, hn⟩ := Da.readsAll I SM ds _ its ha rv
    refine ⟨_, Reads.list ho hc hd hr, fun hm => ?_⟩
    rcases List.mem_cons.mp hm with e | hm
    · exact sys_no_list I SM ho hd e.symm
    · exact hn hm
  | .tuple ds, _, _, h, r => by
    obtain ⟨a, xs, rfl, hs, ha⟩ := h
    cases r
    obtain ⟨its, rv, ⟨o, ho, hc, n, hd⟩, _⟩ := I.tuple (.inl (.inl hs))
    obtain ⟨as, hr, hn⟩ := Da.readsAll I SM ds _ its ha rv
    exact ⟨_, Reads.tuple ho hc hd hr, hn⟩
  | .dict kd, _, _, h, r => by
    obtain ⟨a, kvs, rfl, hs, hk, hv⟩ := h
    cases r
    obtain ⟨_, lo, vs, rk, o, es, ep, h1, h2, h3, _, h5, _⟩ := dk_of I.hok hs
    obtain ⟨g1, g2⟩ := reads_keys (h := s.heap) hk rk h5
    obtain ⟨as, g3, g4⟩ := Da.readsKv I SM kd _ _ hv g2
    refine ⟨_, Reads.dict h1 h2.1 h3 g1 g3, fun hm => ?_⟩
    rcases List.mem_cons.mp hm with hm | hm
    · rw [← hm] at lo
      simp at lo
    · exact g4 hm
theorem Da.readsAll (I : Inv X pins σ H s) (SM : SysAt X.base) : ∀ (ds : List PyData) (vs : List V) (us : List Value), DaAll X.K H ds vs → Vals vs us → ∃ as, ReadsAll s.heap us ds as ∧ sysModules ∉ as
  | [], _, _, h, r => by
    obtain rfl := h
    cases r
    exact ⟨_, .nil, by simp⟩
  | d :: ds, _, _, h, r => by
    obtain ⟨x, xs, rfl, h1, h2⟩ := h
    cases r with
    | cons r1 r2 =>
      obtain ⟨as, q1, n1⟩ := Da.reads I SM d _ _ h1 r1
      obtain ⟨bs, q2, n2⟩ := Da.readsAll I SM ds _ _ h2 r2
      refine ⟨_, .cons q1 q2, fun hm => ?_⟩
      rcases List.mem_append.mp hm with hm | hm
      · exact n1 hm
      · exact n2 hm
theorem Da.readsKv (I : Inv X pins σ H s) (SM : SysAt X.base) : ∀ (ds : List (PyData × PyData)) (vs : List V) (us : List Value), DaKv X.K H ds vs → Vals vs us → ∃ as, ReadsAll s.heap us (ds.map (·.2)) as ∧ sysModules ∉ as
  | [], _, _, h, r => by
    obtain rfl := h
    cases r
    exact ⟨_, .nil, by simp⟩
  | (_, d) :: ds, _, _, h, r => by
    obtain ⟨x, xs, rfl, h1, h2⟩ := h
    cases r with
    | cons r1 r2 =>
      obtain ⟨as, q1, n1⟩ := Da.reads I SM d _ _ h1 r1
      obtain ⟨bs, q2, n2⟩ := Da.readsKv I SM ds _ _ h2 r2
      refine ⟨_, .cons q1 q2, fun hm => ?_⟩
      rcases List.mem_append.mp hm with hm | hm
      · exact n1 hm
      · exact n2 hm
end
end
/-- repr(x), x any data -/
def rReprS (K : PySem.W.Frag) : List V → Hp → VK → Prop := fun xs H Q =>
  ∃ x d, xs = [x] ∧ Da K H d x ∧ d.showable = true ∧ d.shown.length ≤ sizeLine ∧ d.depth ≤ 60 ∧ Q (.str d.shown) H
section
variable {X : Cx}
theorem call_reprS (K : PySem.W.Frag) {k : Nat} (hq : Quiet X.A) (hr : Room k X.A) (SM : SysAt X.base) (hK : X.K = K := by rfl) : CallR X (.builtin "repr") (rReprS K) := by
  subst hK
  intro pins s σ H xs us Q I r h
  obtain ⟨x, d, rfl, hd, hs, hz, hdp, q⟩ := h
  obtain ⟨u, rfl, rx⟩ := Vals.one r
  obtain ⟨as, rd, hn⟩ := Da.reads I SM d x u hd rx
  have hu : X.A.units + 200 < cLine := by have := hr.un; omega
  have fin : ∀ h' u' tk, (∀ b o, s.heap.get? b = some o → h'.get? b = some o) →
      EP X pins σ Q (.str d.shown u') { s with heap := h', toks := tk } :=
    fun h' u' tk hk => ⟨.str d.shown, H, I.kept hk, ⟨_, rfl⟩, q⟩
  cases d with
  | none =>
    obtain rfl := hd
    obtain rfl : u = Value.none := rx
    exact PySem.P.repr_of_none (fin s.heap _ _ fun _ _ e => e)
  | bool b =>
    obtain rfl := hd
    obtain rfl : u = Value.bool b := rx
    exact PySem.P.repr_of_bool (fin s.heap _ _ fun _ _ e => e)
  | int i =>
    obtain rfl := hd
    obtain ⟨t, rfl⟩ := rx
    exact PySem.P.repr_of_int (by simpa only [PyData.showable, decide_eq_true_eq] using hs) (fin s.heap _ _ fun _ _ e => e)
  | str z =>
    obtain rfl := hd
    obtain ⟨t, rfl⟩ := rx
    exact PySem.P.repr_of_str (fin s.heap _ _ fun _ _ e => e) (by simpa only [PyData.shown] using hz)
  | list ds =>
    obtain ⟨a, xs, rfl, _⟩ := hd
    cases rx
    exact repr_of_reads' rd hs (fun _ => hn) hq (by omega) (fun _ _ e => e) fin hz
  | tuple ds =>
    obtain ⟨a, xs, rfl, _⟩ := hd
    cases rx
    exact repr_of_reads' rd hs (fun _ => hn) hq (by omega) (fun _ _ e => e) fin hz
  | dict kd =>
    obtain ⟨a, xs, rfl, _⟩ := hd
    cases rx
    exact repr_of_reads' rd hs (fun _ => hn) hq (by omega) (fun _ _ e => e) fin hz
end
section
variable {P : Program} {w : World} {K : PySem.W.Frag}
theorem law_callS {mg mb : Str → Option Value} {CX : CXT} {k : Nat} {fa a : Addr} {fd : FuncData} {x : Str} {sp : Sp}
    {s1 : Shared} {vs : List Value} {ns : List Int}
    (KX : K.In s1.heap) (hns : s1.heap.Ns mainGlobals mg) (hb : s1.heap.Ns builtinsNs mb)
    (hbb : ∀ x : Str, x ≠ "__name__" → mb x = bootBuiltins x) (hlim : s1.heap.NoLimit) (hg : s1.gens = #[])
    (ha : s1.heap.get? a = some { cls := .type "list", data := .seq vs.toArray }) (hi : IntsAre vs ns)
    (hl : ns.length ≤ sizeLine) (hr : Room k callerA)
    (hsys : ∃ mm, s1.heap.Ns sysModules mm)
    (F : ∀ base : Heap, K.In base → base.Ns mainGlobals mg → SysAt base → FnG P w K mg base CX k fa fd [x] sp)
    (hbind : ∀ (s : Shared) (u : Value), BindsTo s fd ⟨[u], []⟩ [(x, u)])
    (hsp : ∀ H : Hp, Only H → SqL K H a (ns.map V.int) → sp [.ref a] H (fun v _ => v = .bl true) fun _ _ _ => False)
    (hCX : ∀ H e s', CX [] H s1 (fun _ _ _ => False) e s' → False) :
    codeAny (model P w) callerA (.call (.ref fa) ⟨[.ref a], []⟩)
      (fun r s' => r = .ok (.ret (.bool true)) ∧ OldK s1.heap s'.heap ∧ s'.os = s1.os ∧ AllBare s'.gens) s1 := by
  have rv := vals_ints hi
  have lenV := hi.length
  have core : ∀ H : Hp, Only H → SqL K H a (ns.map V.int) → HOk P w H s1.heap →
      (∀ b, H b ≠ none → b = a) → (H a ≠ none → K.lookup a = none) →
      codeAny (model P w) callerA (.call (.ref fa) ⟨[.ref a], []⟩)
        (fun r s' => r = .ok (.ret (.bool true)) ∧ OldK s1.heap s'.heap ∧ s'.os = s1.os ∧ AllBare s'.gens) s1 := by
    intro H hO hS hok hA hK
    have fromH : ∀ {b : Addr} {o : Obj}, s1.heap.get? b = some o → H b = none →
        (hidT s1.heap H).get? b = some o := fun e n => hidT_get e n
    have free : ∀ {b : Addr} {o : Obj} {es : Array DictEntry} {ep : Nat},
        s1.heap.get? b = some o → o.data = .dict es ep → H b = none := by
      intro b o es ep e d
      cases q : H b with
      | none => rfl
      | some u =>
        have e' : b = a := hA b (by rw [q]; exact fun z => nomatch z)
        subst e'
        rw [ha] at e
        cases e
        exact nomatch d
    have nsK : ∀ {b : Addr} {m : Str → Option Value}, s1.heap.Ns b m → (hidT s1.heap H).Ns b m := by
      rintro b m ⟨o, es, ep, e, d, r⟩
      exact ⟨o, es, ep, fromH e (free e d), d, r⟩
    have hKb : K.In (hidT s1.heap H) := by
      intro b o e
      refine fromH (KX b o e) ?_
      cases q : H b with
      | none => rfl
      | some u =>
        have e' : b = a := hA b (by rw [q]; exact fun z => nomatch z)
        subst e'
        rw [hK (by rw [q]; exact fun z => nomatch z)] at e
        cases e
    have hM : Mod K mg (hidT s1.heap H) := by
      obtain ⟨mc, h1, h2⟩ := hlim
      exact ⟨hKb, nsK hns, ⟨mb, nsK hb, hbb⟩, ⟨mc, nsK h1, h2⟩⟩
    have e0 : Env0 P w K mg (hidT s1.heap H) callerA [] s1 H :=
      ⟨rfl, hM, fun b o e => of_hidT e, Nat.le_of_eq (hidT_size _ _), trivial,
        fun b hb => (List.not_mem_nil hb).elim, hok, .of_eq hg⟩
    refine codeAny_mono ((F _ hKb (nsK hns) (by obtain ⟨mm, hm⟩ := hsys; exact ⟨mm, nsK hm⟩)).run callerA [] s1 H ⟨[.ref a], []⟩ [.ref a] [.ref a] _ _ hr rfl e0
      (hbind s1 (.ref a)) (.cons rfl .nil) (hsp H hO hS)) ?_
    intro r s' h
    cases r with
    | error e => exact (hCX H e s' h).elim
    | ok fl =>
      cases fl with
      | next => exact (show False from h).elim
      | brk => exact (show False from h).elim
      | cont => exact (show False from h).elim
      | ret u =>
        obtain ⟨v, H', os, bare, un, hok', r', q⟩ := h
        have q' : v = .bl true := q
        subst q'
        obtain rfl : u = Value.bool true := r'
        refine ⟨rfl, OldK.of_keep ?_, os, bare⟩
        intro b o e
        cases q : H b with
        | none => exact un.keep b o e q (fun z => (List.not_mem_nil z).elim) (fun z => (List.not_mem_nil z).elim)
        | some u =>
          rcases hO b with z | ⟨ob, xs, z⟩
          · rw [q] at z
            cases z
          · obtain ⟨e1, _⟩ := hok b _ z
            obtain ⟨e2, _⟩ := hok' b _ (un.frzs b ob _ z)
            rw [e] at e1
            cases e1
            exact e2
  cases hk : K.lookup a with
  | some o =>
    have e := KX a o hk
    rw [ha] at e
    cases e
    exact core (fun _ => none) (fun _ => .inl rfl)
      (.inr ⟨_, vs.toArray, _, hk, rfl, rfl, rfl, by rw [List.size_toArray, lenV]; exact hl, by simpa using rv⟩)
      (fun b u z => nomatch z) (fun b z => (z rfl).elim) (fun z => (z rfl).elim)
  | none =>
    refine core (fun b => if b = a then some (.frz { cls := .type "list", data := .seq vs.toArray } (.lst (ns.map V.int))) else none)
      ?_ (.inl (.inr ⟨{ cls := .type "list", data := .seq vs.toArray }, if_pos rfl⟩)) ?_ ?_ (fun _ => hk)
    · intro b
      by_cases hb : b = a
      · exact .inr ⟨_, _, if_pos hb⟩
      · exact .inl (if_neg hb)
    · intro b u z
      by_cases hb : b = a
      · have z' := (if_pos hb).symm.trans z
        cases z'
        subst hb
        exact ⟨ha, by rw [List.length_map]; exact hl, vs, _, rv, ha⟩
      · have z' := (if_neg hb).symm.trans z
        cases z'
    · intro b z
      by_cases hb : b = a
      · exact hb
      · exact (z (if_neg hb)).elim
end

theorem walkS {l : PySem.W.OpenLaw} {n k : Nat} {q : Program} {loose : List Str} {XP : (Str → Option Value) → Heap → Prop}
    {YP : World → Heap → Prop} {d : DefRec} {K : Params → PySem.W.Frag} {CX : World → CXT} {sp : World → Sp} {x : Str}
    (hi : PyProof.Rows.importsNone q = true) (hn : l.most = some n) (hn2 : n ≤ sizeLine) (hdf : d.params.defaults = []) (hr : Room k callerA)
    (hY : ∀ (w : World) (h : Heap), YP w h → (K w.params).In h)
    (F : ∀ (w : World) (mg : Str → Option Value) (fa : Addr) (h : Heap), (K w.params).In h → h.Ns mainGlobals mg →
      mg d.name = some (.ref fa) → ∃ fd : FuncData, (∀ (s : Shared) (u : Value), BindsTo s fd ⟨[u], []⟩ [(x, u)]) ∧
        ∀ base : Heap, (K w.params).In base → base.Ns mainGlobals mg → SysAt base →
          FnG l.prog w (K w.params) mg base (CX w) k fa fd [x] (sp w))
    (hsp : ∀ (w : World) (H : Hp) (a : Addr) (ns : List Int), ns.length ≤ n → Only H →
      SqL (K w.params) H a (ns.map V.int) → sp w [.ref a] H (fun v _ => v = .bl true) fun _ _ _ => False)
    (hCX : ∀ (w : World) (H : Hp) (s : Shared) (e : Value) (s' : Shared), CX w [] H s (fun _ _ _ => False) e s' → False) :
    PySem.W.WalkO q loose XP YP l.row.toRowW d [] (fun f vs => PySem.call f vs) := by
  refine Att.attach_call hn hdf ?_
  intro w s0 s1 mg mb fa o pm cd doc a vs ns G Y ho hd hcd hmg hobj hints hlen hg
  obtain ⟨fd, hb, hF⟩ := F w mg fa _ (hY w _ Y) G.T.g hmg
  exact law_callS (hY w _ Y) G.T.g G.T.b G.T.builtins G.T.nolimit hg hobj hints (Nat.le_trans hlen hn2) hr (by obtain ⟨mm, hm, _⟩ := (G.T.seer hi).mods; exact ⟨mm, hm⟩) hF hb
    (fun H hO hS => hsp w H a ns hlen hO hS) (fun H e s' => hCX w H s1 e s')

end Nw
/-! Walks of anything by one word. -/
namespace Nw
open PySem PySem.Spec PyProof.Rows L2

/-- what a comprehension's reading asks, D its new list -/
abbrev LcW (J : It) (g : TG) (tt : TT) (te : TE) (vs : List Nat) (σ : L2.St) (D : Addr) (H1 : Hp) (Qd : Hp → Prop) : Prop :=
  ∃ W : Nat → Nat → Hp → Prop, (∃ m, W 0 m (upd H1 D (.lst []))) ∧ ∀ i m H, W i m H →
    (J.stop i H ∧ Qd H) ∨ (J.go i H ∧ ∃ Nx : Hp → Prop, (∀ H', Nx H' → ∃ m', m' < m ∧ W (i + 1) m' H') ∧
      ∀ x H', J.yld i H x H' → g x (wipe σ vs) H' fun σ2 H2 => wipe σ2 vs = wipe σ vs ∧ tt σ2 H2 fun b H3 =>
        if b = true then te σ2 H3 fun y H4 => ∃ acc, H4 D = some (.lst acc) ∧ acc.length < sizeLine ∧
          Nx (upd H4 D (.lst (acc ++ [y]))) else Nx H3)
theorem lc_by {J : It} {g : TG} {tt : TT} {te : TE} {vs : List Nat} {σ : L2.St} {D : Addr} {H1 : Hp} {Qd : Hp → Prop}
    (n : Nat) (Pv : Nat → Hp → Prop) (h0 : Pv 0 (upd H1 D (.lst [])))
    (hgo : ∀ i H, i < n → Pv i H → J.go i H) (hst : ∀ H, Pv n H → J.stop n H)
    (hs : ∀ i H x H', i < n → Pv i H → J.yld i H x H' → g x (wipe σ vs) H' fun σ2 H2 => wipe σ2 vs = wipe σ vs ∧
      tt σ2 H2 fun b H3 => if b = true then te σ2 H3 fun y H4 => ∃ acc, H4 D = some (.lst acc) ∧ acc.length < sizeLine ∧
        Pv (i + 1) (upd H4 D (.lst (acc ++ [y]))) else Pv (i + 1) H3)
    (hd : ∀ H, Pv n H → Qd H) : LcW J g tt te vs σ D H1 Qd := by
  refine ⟨fun i m H => m = n - i ∧ i ≤ n ∧ Pv i H, ⟨n, by omega, Nat.zero_le _, h0⟩, ?_⟩
  rintro i m H ⟨rfl, hi, p⟩
  by_cases hlt : i < n
  · refine .inr ⟨hgo i H hlt p, Pv (i + 1), fun H' p' => ⟨n - (i + 1), by omega, rfl, hlt, p'⟩, ?_⟩
    intro x H' y
    exact hs i H x H' hlt p y
  · have e : i = n := by omega
    subst e
    exact .inl ⟨hst H p, hd H p⟩
theorem for_by {J : It} {g : TG} {tb : TS} {D : Ends} {σ : L2.St} {H1 : Hp} (n : Nat) (Pv : Nat → L2.St → Hp → Prop) (h0 : Pv 0 σ H1)
    (hgo : ∀ i σ H, i < n → Pv i σ H → J.go i H) (hst : ∀ σ H, Pv n σ H → J.stop n H)
    (hs : ∀ i σ H x H', i < n → Pv i σ H → J.yld i H x H' →
      g x σ H' fun σ2 H2 => tb { D with nx := Pv (i + 1), ct := Pv (i + 1), bk := D.nx } σ2 H2)
    (hd : ∀ σ H, Pv n σ H → D.nx σ H) :
    ∃ W : Nat → Nat → L2.St → Hp → Prop, (∃ m, W 0 m σ H1) ∧ ∀ i m σ H, W i m σ H →
      (J.stop i H ∧ D.nx σ H) ∨ (J.go i H ∧ ∃ N : L2.St → Hp → Prop, (∀ σ' H', N σ' H' → ∃ m', m' < m ∧ W (i + 1) m' σ' H') ∧
        ∀ x H', J.yld i H x H' → g x σ H' fun σ2 H2 => tb { D with nx := N, ct := N, bk := D.nx } σ2 H2) := by
  refine ⟨fun i m σ H => m = n - i ∧ i ≤ n ∧ Pv i σ H, ⟨n, by omega, Nat.zero_le _, h0⟩, ?_⟩
  rintro i m σ H ⟨rfl, hi, p⟩
  by_cases hlt : i < n
  · refine .inr ⟨hgo i σ H hlt p, Pv (i + 1), fun σ' H' p' => ⟨n - (i + 1), by omega, rfl, hlt, p'⟩, ?_⟩
    intro x H' y
    exact hs i σ H x H' hlt p y
  · have e : i = n := by omega
    subst e
    exact .inl ⟨hst σ H p, hd σ H p⟩

/-- what is known but at D stays known -/
abbrev ExD (D : Addr) (H H' : Hp) : Prop := ∀ b o, b ≠ D → H b = some o → H' b = some o
theorem Ex.d {D : Addr} {H H' : Hp} (e : Ex H H') : ExD D H H' := fun b o _ h => e b o h
theorem ExD.put {D : Addr} {H : Hp} {o : HO} : ExD D H (upd H D o) := fun b u n h => by
  rw [upd_ne n]
  exact h
theorem ExD.tr {D : Addr} {H H1 H2 : Hp} (a : ExD D H H1) (b : ExD D H1 H2) : ExD D H H2 := fun c o n h => b c o n (a c o n h)
/-- item by item over the turns that give -/
def Given (n : Nat) (f : Nat → Bool) (R : Nat → V → Prop) (ys : List V) : Prop := Paired R ((List.range n).filter f) ys
theorem Given.nil {f : Nat → Bool} {R : Nat → V → Prop} : Given 0 f R [] := Paired.nil
theorem paired_app {α β : Type} {F : α → β → Prop} : ∀ {as : List α} {bs : List β} {as' : List α} {bs' : List β}, Paired F as bs → Paired F as' bs' → Paired F (as ++ as') (bs ++ bs')
  | _, _, _, _, .nil, h => h
  | _, _, _, _, .cons r t, h => .cons r (paired_app t h)
theorem Given.yes {n : Nat} {f : Nat → Bool} {R : Nat → V → Prop} {ys : List V} {y : V} (h : Given n f R ys) (hf : f n = true) (r : R n y) : Given (n + 1) f R (ys ++ [y]) := by
  unfold Given
  rw [List.range_succ, List.filter_append, List.filter_cons, if_pos hf]
  exact paired_app h (Paired.cons r Paired.nil)
theorem Given.no {n : Nat} {f : Nat → Bool} {R : Nat → V → Prop} {ys : List V} (h : Given n f R ys) (hf : f n = false) : Given (n + 1) f R ys := by
  unfold Given
  rw [List.range_succ, List.filter_append, List.filter_cons, if_neg (by rw [hf]; decide)]
  rw [List.filter_nil, List.append_nil]
  exact h
theorem paired_imp {α β : Type} {F G : α → β → Prop} (h : ∀ a b, F a b → G a b) : ∀ {as : List α} {bs : List β}, Paired F as bs → Paired G as bs
  | _, _, .nil => .nil
  | _, _, .cons r t => .cons (h _ _ r) (paired_imp h t)
theorem Given.imp {n : Nat} {f : Nat → Bool} {R S : Nat → V → Prop} {ys : List V} (g : Given n f R ys) (h : ∀ i y, R i y → S i y) : Given n f S ys := paired_imp h g
theorem Given.len {n : Nat} {f : Nat → Bool} {R : Nat → V → Prop} {ys : List V} (g : Given n f R ys) : ys.length ≤ n := by
  have h := Paired.length g
  have h2 := List.length_filter_le f (List.range n)
  rw [List.length_range] at h2
  omega
theorem paired_eq {α β : Type} {v : α → β} : ∀ {as : List α} {bs : List β}, Paired (fun a b => b = v a) as bs → bs = as.map v
  | _, _, .nil => rfl
  | _, _, .cons r t => by
    rw [List.map_cons, ← r, ← paired_eq t]
/-- what each turn gives is told outright -/
theorem Given.eq {n : Nat} {f : Nat → Bool} {v : Nat → V} {ys : List V} (g : Given n f (fun i y => y = v i) ys) : ys = ((List.range n).filter f).map v := paired_eq g
theorem filter_true {α : Type} (l : List α) : l.filter (fun _ => true) = l := List.filter_eq_self.mpr fun _ _ => rfl
theorem Given.all {n : Nat} {v : Nat → V} {ys : List V} (g : Given n (fun _ => true) (fun i y => y = v i) ys) : ys = (List.range n).map v := by
  have h := g.eq
  rw [filter_true] at h
  exact h

/-- a comprehension that changes nothing that was there: f which turns give, R what (not hanging on D) -/
theorem lc_ev {J : It} {g : TG} {tt : TT} {te : TE} {vs : List Nat} {σ : L2.St} {D : Addr} {H1 : Hp} {Qd : Hp → Prop}
    (n : Nat) (f : Nat → Bool) (R : Nat → V → Hp → Prop) (hz : n ≤ 100000) (hD : H1 D = none)
    (mono : ∀ i y H H', ExD D H H' → R i y H → R i y H')
    (hgo : ∀ i H, i < n → Ex H1 H → J.go i H) (hst : ∀ H, Ex H1 H → J.stop n H)
    (hs : ∀ i H x H', i < n → Ex H1 H → (∃ acc, H D = some (.lst acc)) → J.yld i H x H' → ∀ (Q : V → Hp → Prop) (N : Hp → Prop),
      (f i = true → ∀ y H4, Ex H H4 → R i y H4 → Q y H4) → (f i = false → ∀ H4, Ex H H4 → N H4) →
      g x (wipe σ vs) H' fun σ2 H2 => wipe σ2 vs = wipe σ vs ∧ tt σ2 H2 fun b H3 => if b = true then te σ2 H3 Q else N H3)
    (hd : ∀ ys H, Ex H1 H → H D = some (.lst ys) → Given n f (fun i y => R i y H) ys → Qd H) : LcW J g tt te vs σ D H1 Qd := by
  refine lc_by n (fun i H => Ex H1 H ∧ ∃ ys, H D = some (.lst ys) ∧ Given i f (fun i y => R i y H) ys)
    ⟨Ex.nw hD, [], upd_same, .nil⟩ (fun i H hi p => hgo i H hi p.1) (fun H p => hst H p.1) ?_ ?_
  · rintro i H x H' hi ⟨e, ys, hy, gv⟩ y
    refine hs i H x H' hi e ⟨_, hy⟩ y _ _ ?_ ?_
    · intro hf z H4 e4 r
      refine ⟨ys, e4 D _ hy, by have := gv.len; have e1 : sizeLine = 16777216 := sizeLine_eq; omega, (e.tr e4).wr hD, _, upd_same, ?_⟩
      exact (gv.imp fun j y r' => mono j y _ _ (e4.d.tr ExD.put) r').yes hf (mono i z _ _ ExD.put r)
    · intro hf H4 e4
      exact ⟨e.tr e4, ys, e4 D _ hy, (gv.imp fun j y r' => mono j y _ _ e4.d r').no hf⟩
  · rintro H ⟨e, ys, hy, gv⟩
    exact hd ys H e hy gv
/-- turns over a list that stands -/
theorem itl_go {K : PySem.W.Frag} {H H' : Hp} {a : Addr} {xs : List V} (h : SqL K H a xs) (e : Ex H H') {i : Nat} (hi : i < xs.length) : (Itl K a).go i H' :=
  ⟨xs, xs[i], e.l h, List.getElem?_eq_getElem hi⟩
theorem itl_stop {K : PySem.W.Frag} {H H' : Hp} {a : Addr} {xs : List V} (h : SqL K H a xs) (e : Ex H H') : (Itl K a).stop xs.length H' :=
  ⟨xs, e.l h, Nat.le_refl _⟩
theorem itl_yld {K : PySem.W.Frag} {H H' H'' : Hp} {a : Addr} {xs : List V} {i : Nat} {x : V} (y : (Itl K a).yld i H' x H'') (h : SqL K H a xs) (e : Ex H H') : H'' = H' ∧ xs[i]? = some x :=
  ⟨y.1, y.2 xs (e.l h)⟩
theorem itz_go {K : PySem.W.Frag} {H H' : Hp} {a b : Addr} {xs ys : List V} (h : SqL K H a xs) (g : SqL K H b ys) (e : Ex H H') {i : Nat} (hi : i < min xs.length ys.length) : (Itz K a b).go i H' :=
  ⟨xs, ys, xs[i]'(by omega), ys[i]'(by omega), e.l h, e.l g, List.getElem?_eq_getElem _, List.getElem?_eq_getElem _⟩
theorem itz_stop {K : PySem.W.Frag} {H H' : Hp} {a b : Addr} {xs ys : List V} (h : SqL K H a xs) (g : SqL K H b ys) (e : Ex H H') : (Itz K a b).stop (min xs.length ys.length) H' :=
  ⟨xs, ys, e.l h, e.l g, by omega⟩
theorem ite_go {K : PySem.W.Frag} {H H' : Hp} {a : Addr} {xs : List V} (h : SqL K H a xs) (e : Ex H H') {i : Nat} (hi : i < xs.length) : (Ite K a).go i H' :=
  ⟨xs, xs[i], e.l h, List.getElem?_eq_getElem hi⟩
theorem ite_stop {K : PySem.W.Frag} {H H' : Hp} {a : Addr} {xs : List V} (h : SqL K H a xs) (e : Ex H H') : (Ite K a).stop xs.length H' :=
  ⟨xs, e.l h, Nat.le_refl _⟩
theorem cut1 (xs : List V) : cutV xs (some 1) none = xs.drop 1 := by
  unfold cutV
  rw [show HT.sIx xs.length 0 (some 1) = min 1 xs.length from HT.sIx_nat xs.length 0 1, HT.sIx_none]
  cases xs with
  | nil => rfl
  | cons x r =>
    have e : min 1 (x :: r).length = 1 := by
      rw [List.length_cons]
      omega
    rw [e]
    show List.take ((x :: r).length - 1) r = r
    rw [List.length_cons, Nat.add_sub_cancel]
    exact List.take_length
end Nw
namespace Nw
open PySem PySem.Spec PyProof.Rows L2
/-- the inner loop of a comprehension of two clauses -/
abbrev LcI (J1 : It) (g1 : TG) (tt1 : TT) (te : TE) (vs1 : List Nat) (σ2 : L2.St) (D : Addr) (H4 : Hp) (Nx : Hp → Prop) : Prop :=
  ∃ W1 : Nat → Nat → Hp → Prop, (∃ m, W1 0 m H4) ∧ ∀ j k H, W1 j k H →
    (J1.stop j H ∧ Nx H) ∨ (J1.go j H ∧ ∃ Nx1 : Hp → Prop, (∀ H', Nx1 H' → ∃ k', k' < k ∧ W1 (j + 1) k' H') ∧
      ∀ x H', J1.yld j H x H' → g1 x (wipe σ2 vs1) H' fun σ3 H5 => wipe σ3 vs1 = wipe σ2 vs1 ∧ tt1 σ3 H5 fun b H6 =>
        if b = true then te σ3 H6 fun y H7 => ∃ acc, H7 D = some (.lst acc) ∧ acc.length < sizeLine ∧
          Nx1 (upd H7 D (.lst (acc ++ [y]))) else Nx1 H6)
theorem lci_by {J1 : It} {g1 : TG} {tt1 : TT} {te : TE} {vs1 : List Nat} {σ2 : L2.St} {D : Addr} {H4 : Hp} {Nx : Hp → Prop}
    (n : Nat) (Pv : Nat → Hp → Prop) (h0 : Pv 0 H4) (hgo : ∀ i H, i < n → Pv i H → J1.go i H) (hst : ∀ H, Pv n H → J1.stop n H)
    (hs : ∀ i H x H', i < n → Pv i H → J1.yld i H x H' → g1 x (wipe σ2 vs1) H' fun σ3 H5 => wipe σ3 vs1 = wipe σ2 vs1 ∧
      tt1 σ3 H5 fun b H6 => if b = true then te σ3 H6 fun y H7 => ∃ acc, H7 D = some (.lst acc) ∧ acc.length < sizeLine ∧
        Pv (i + 1) (upd H7 D (.lst (acc ++ [y]))) else Pv (i + 1) H6)
    (hd : ∀ H, Pv n H → Nx H) : LcI J1 g1 tt1 te vs1 σ2 D H4 Nx := by
  refine ⟨fun i m H => m = n - i ∧ i ≤ n ∧ Pv i H, ⟨n, by omega, Nat.zero_le _, h0⟩, ?_⟩
  rintro i m H ⟨rfl, hi, p⟩
  by_cases hlt : i < n
  · refine .inr ⟨hgo i H hlt p, Pv (i + 1), fun H' p' => ⟨n - (i + 1), by omega, rfl, hlt, p'⟩, ?_⟩
    intro x H' y
    exact hs i H x H' hlt p y
  · have e : i = n := by omega
    subst e
    exact .inl ⟨hst H p, hd H p⟩
theorem lc2_by {J : It} {g : TG} {tt : TT} {wi1 : TI} {g1 : TG} {tt1 : TT} {te : TE} {vs vs1 : List Nat} {σ : L2.St} {D : Addr} {H1 : Hp} {Qd : Hp → Prop}
    (n : Nat) (Pv : Nat → Hp → Prop) (h0 : Pv 0 (upd H1 D (.lst [])))
    (hgo : ∀ i H, i < n → Pv i H → J.go i H) (hst : ∀ H, Pv n H → J.stop n H)
    (hs : ∀ i H x H', i < n → Pv i H → J.yld i H x H' → g x (wipe σ vs) H' fun σ2 H2 => wipe σ2 vs = wipe σ vs ∧
      tt σ2 H2 fun b H3 => if b = true then wi1 σ2 H3 fun J1 H4 => LcI J1 g1 tt1 te vs1 σ2 D H4 (Pv (i + 1)) else Pv (i + 1) H3)
    (hd : ∀ H, Pv n H → Qd H) :
    ∃ W : Nat → Nat → Hp → Prop, (∃ m, W 0 m (upd H1 D (.lst []))) ∧ ∀ i m H, W i m H →
      (J.stop i H ∧ Qd H) ∨ (J.go i H ∧ ∃ Nx : Hp → Prop, (∀ H', Nx H' → ∃ m', m' < m ∧ W (i + 1) m' H') ∧ ∀ x H', J.yld i H x H' →
        g x (wipe σ vs) H' fun σ2 H2 => wipe σ2 vs = wipe σ vs ∧ tt σ2 H2 fun b H3 =>
          if b = true then wi1 σ2 H3 fun J1 H4 => LcI J1 g1 tt1 te vs1 σ2 D H4 Nx else Nx H3) := by
  refine ⟨fun i m H => m = n - i ∧ i ≤ n ∧ Pv i H, ⟨n, by omega, Nat.zero_le _, h0⟩, ?_⟩
  rintro i m H ⟨rfl, hi, p⟩
  by_cases hlt : i < n
  · refine .inr ⟨hgo i H hlt p, Pv (i + 1), fun H' p' => ⟨n - (i + 1), by omega, rfl, hlt, p'⟩, ?_⟩
    intro x H' y
    exact hs i H x H' hlt p y
  · have e : i = n := by omega
    subst e
    exact .inl ⟨hst H p, hd H p⟩
end Nw
/-! Rules told over the written part by its own name, so that a comprehension's block may use them. -/
namespace Nw
open PySem PySem.Spec PyProof.Rows L2
section
variable {X : Cx} {K : PySem.W.Frag}
theorem op_eqDk (K : PySem.W.Frag) (hu : X.A.units + 64 < cLine) (hK : X.K = K := by rfl) : OpR X (compareOp .Eq) (rEqD K) := by
  subst hK
  exact op_eqD hu
theorem op_neDk (K : PySem.W.Frag) (hu : X.A.units + 64 < cLine) (hK : X.K = K := by rfl) : OpR X (compareOp .NotEq) (rNeD K) := by
  subst hK
  exact op_neD hu
theorem op_inK (K : PySem.W.Frag) (hK : X.K = K := by rfl) : OpR X (compareOp .In) (rIn K false) := by
  subst hK
  exact op_in_seq
theorem op_notInK (K : PySem.W.Frag) (hK : X.K = K := by rfl) : OpR X (compareOp .NotIn) (rIn K true) := by
  subst hK
  exact op_notIn_seq
theorem op_inDk (K : PySem.W.Frag) {k : Nat} (hr : Room k X.A) (hK : X.K = K := by rfl) : OpR X (compareOp .In) (rInD K) := by
  subst hK
  exact op_inD (by have := hr.un; omega)
theorem op_notInDk (K : PySem.W.Frag) {k : Nat} (hr : Room k X.A) (hK : X.K = K := by rfl) : OpR X (compareOp .NotIn) (rNotInD K) := by
  subst hK
  exact op_notInD (by have := hr.un; omega)
/-- < of ints, of tuples of ints -/
def rLtA (K : PySem.W.Frag) : R2 := fun x y H Q => (∃ i j, x = .int i ∧ y = .int j ∧ Q (.bl (decide (i < j))) H) ∨ rLtT K x y H Q
theorem op_ltA (K : PySem.W.Frag) (hu : X.A.units < cLine) (hK : X.K = K := by rfl) : OpR X (compareOp .Lt) (rLtA K) := by
  subst hK
  intro pins s σ H x y v u Q I rx ry q
  rcases q with q | q
  · exact op_lt pins s σ H x y v u Q I rx ry q
  · exact op_ltT hu pins s σ H x y v u Q I rx ry q
theorem op_catTk (K : PySem.W.Frag) (hK : X.K = K := by rfl) : OpR X (binaryOp .Add) (rCatT K) := by
  subst hK
  exact op_catT
theorem ix_listK (K : PySem.W.Frag) (hK : X.K = K := by rfl) : IxR X (rIxL K) := by
  subst hK
  exact ix_list
theorem ix_tupK (K : PySem.W.Frag) (hK : X.K = K := by rfl) : IxR X (rIxT K) := by
  subst hK
  exact ix_tup
theorem ix_seqK (K : PySem.W.Frag) (hK : X.K = K := by rfl) : IxR X (rIx K) := by
  subst hK
  exact ix_seq
theorem sl_listK (K : PySem.W.Frag) (hK : X.K = K := by rfl) : SlR X (rSlL K) := by
  subst hK
  exact sl_list
theorem sl_tupK (K : PySem.W.Frag) (hK : X.K = K := by rfl) : SlR X (rSlT K) := by
  subst hK
  exact sl_tup
def rLenQ (K : PySem.W.Frag) : List V → Hp → VK → Prop := fun xs H Q => ∃ p ys, xs = [.ref p] ∧ (SqL K H p ys ∨ SqT K H p ys) ∧ Q (.int ys.length) H
theorem call_lenK (K : PySem.W.Frag) (hK : X.K = K := by rfl) : CallR X (.builtin "len") (rLenQ K) := by
  subst hK
  exact call_len_seq
def rListQ (K : PySem.W.Frag) : List V → Hp → VK → Prop := fun xs H Q => ∃ p ys, xs = [.ref p] ∧ (SqL K H p ys ∨ SqT K H p ys) ∧ ∀ l, H l = none → Q (.ref l) (upd H l (.lst ys))
theorem call_listK (K : PySem.W.Frag) (hK : X.K = K := by rfl) : CallR X (.type "list") (rListQ K) := by
  subst hK
  exact call_list_of
theorem call_reprK (K : PySem.W.Frag) {k : Nat} (hq : Quiet X.A) (hr : Room k X.A) (hK : X.K = K := by rfl) : CallR X (.builtin "repr") (rReprD K) := by
  subst hK
  exact call_reprD hq hr
theorem call_isiK (K : PySem.W.Frag) (hK : X.K = K := by rfl) : CallR X (.builtin "isinstance") (rIsi K) := by
  subst hK
  exact call_isi
theorem cr_allK (K : PySem.W.Frag) (hc : X.calm = true) (hK : X.K = K := by rfl) : CallR X (.builtin "all") (rAll K) := by
  subst hK
  exact cr_all hc
theorem cr_anyK (K : PySem.W.Frag) (hc : X.calm = true) (hK : X.K = K := by rfl) : CallR X (.builtin "any") (rAny K) := by
  subst hK
  exact cr_any hc
theorem cr_sumK (K : PySem.W.Frag) (hc : X.calm = true) (hK : X.K = K := by rfl) : CallR X (.builtin "sum") (rSum K) := by
  subst hK
  exact cr_sum hc
theorem cr_maxK (K : PySem.W.Frag) (hc : X.calm = true) (hK : X.K = K := by rfl) : CallR X (.builtin "max") (rMax K) := by
  subst hK
  exact cr_max hc
theorem cr_minK' (K : PySem.W.Frag) (hc : X.calm = true) (hK : X.K = K := by rfl) : CallR X (.builtin "min") (rMin K) := by
  subst hK
  exact cr_min hc
theorem cr_sortedIk (K : PySem.W.Frag) (hK : X.K = K := by rfl) : CallR X (.builtin "sorted") (rSortedI K) := by
  subst hK
  exact cr_sortedI
theorem cr_sortedPOk (K : PySem.W.Frag) (hK : X.K = K := by rfl) : CallR X (.builtin "sorted") (rSortedPO K) := by
  subst hK
  exact cr_sortedPO
theorem pi_listK (K : PySem.W.Frag) {tg l : Expr} {tl : TE} (hl : PE X l tl) (hK : X.K = K := by rfl) : PI X tg l (iList K tl) := by
  subst hK
  exact pi_list hl
theorem pi_tupK (K : PySem.W.Frag) {tg l : Expr} {tl : TE} (hl : PE X l tl) (hK : X.K = K := by rfl) : PI X tg l (iTup K tl) := by
  subst hK
  exact pi_tup hl
theorem pg_tupK (K : PySem.W.Frag) {es : List Expr} {k : Nat} {pos : Pos} {t : TGs} {n : Nat} (hc : X.calm = true) (h : PGs X es t)
    (hn : (assignEach es X.env).length = n := by rfl)
    (hst : (assignEach es X.env).findIdx? (·.1) = none := by rfl) (hK : X.K = K := by rfl) : PG X (.Tuple es k pos) (gTup K n t) := by
  subst hK
  exact pg_tup hc h hn hst
end
end Nw
namespace Nw
open PySem PySem.Spec PyProof.Rows L2
theorem mil {n : Nat} (h : n ≤ 1000000) : n ≤ sizeLine := by
  rw [sizeLine_eq]
  omega
theorem mil' {n : Nat} (h : n < 1000000) : n < sizeLine := by
  rw [sizeLine_eq]
  omega
/-- xs + ys, lists that are read -/
def rCatS (K : PySem.W.Frag) : R2 := fun x y H Q => ∃ l b xs zs, x = .ref l ∧ y = .ref b ∧ SqL K H l xs ∧ SqL K H b zs ∧
  xs.length + zs.length ≤ 1000000 ∧ ∀ p, H p = none → Q (.ref p) (upd H p (.lst (xs ++ zs)))
theorem op_catS {X : Cx} (K : PySem.W.Frag) (hK : X.K = K := by rfl) : OpR X (binaryOp .Add) (rCatS K) := by
  subst hK
  intro pins s σ H x y v u Q I rx ry h
  obtain ⟨l, b, xs, zs, rfl, rfl, hH, hB, hz, q⟩ := h
  cases rx
  cases ry
  obtain ⟨its, r, ⟨⟨cls, dd, data, sl⟩, n, e, hc, hd0, hd⟩, _⟩ := I.list hH
  obtain ⟨its2, r2, ⟨⟨cls2, dd2, data2, sl2⟩, n2, e2, hc2, hd02, hd2⟩, _⟩ := I.list hB
  simp only at hc hd hc2 hd2
  subst hc hd hc2 hd2
  have l1 := r.length
  have l2 := r2.length
  have z : xs.length + zs.length ≤ sizeLine := mil hz
  refine concat_meets ⟨_, e, rfl⟩ ⟨_, e2, rfl⟩ noFill_list_add seq_list_add PySem.F.slot_list_add PySem.F.entry_list_add
    (PySem.F.args_list_add_2 _ _) (list_addW l b its.toArray its2.toArray n n2 dd dd2 sl sl2 (by simp only [List.size_toArray]; omega)) ⟨e, e2, ?_⟩
  have ea : its.toArray ++ its2.toArray = (its ++ its2).toArray := by simp
  rw [ea]
  exact ⟨.ref _, _, I.lnew (t' := s.toks) (r.append r2) (by rw [List.length_append]; omega), rfl, q _ I.fresh⟩
end Nw
/-! What the package's looks at values answer, on data. -/
namespace Nw
open PySem PySem.Spec PyProof.Rows L2

def isInt : PyData → Bool
  | .int _ => true
  | _ => false
theorem isInt_eq (d : PyData) : (isA "int" d && !isA "bool" d) = isInt d := by
  cases d <;> first | rfl | decide +kernel
/-- an int from 0 to m - 1 -/
def numB : PyData → Int → Bool
  | .int i, m => decide (0 ≤ i) && decide (i < m)
  | _, _ => false
def tupB : PyData → Int → Int → Bool
  | .tuple [a, b], m, n => numB a m && numB b n
  | _, _, _ => false
def listB : PyData → Int → Bool
  | .list ds, m => ds.all fun d => numB d m
  | _, _ => false
/-- ascending, by an order on the items -/
def ascB {α : Type} (lt : α → α → Bool) : List α → Bool
  | x :: y :: r => lt x y && ascB lt (y :: r)
  | _ => true
def ltIn (x y : Int) : Bool := decide (x < y)
def ltPr (x y : Int × Int) : Bool := HT.lexLt [x.1, x.2] [y.1, y.2]
def dPair (p : Int × Int) : PyData := .tuple [.int p.1, .int p.2]
/-- the ints of a list of ints, the pairs of a list of pairs -/
def intsOf : List PyData → Option (List Int)
  | [] => some []
  | .int i :: r => (intsOf r).map (i :: ·)
  | _ => none
def pairsOf : List PyData → Option (List (Int × Int))
  | [] => some []
  | .tuple [.int i, .int j] :: r => (pairsOf r).map ((i, j) :: ·)
  | _ => none
theorem intsOf_map : ∀ ns : List Int, intsOf (ns.map PyData.int) = some ns
  | [] => rfl
  | n :: ns => by
    simp only [List.map_cons, intsOf, intsOf_map ns, Option.map_some]
theorem pairsOf_map : ∀ ps : List (Int × Int), pairsOf (ps.map dPair) = some ps
  | [] => rfl
  | (a, b) :: ps => by
    simp only [List.map_cons, dPair, pairsOf, pairsOf_map ps, Option.map_some]
theorem ints_of_all {m : Int} : ∀ {ds : List PyData}, (ds.all fun d => numB d m) = true → ∃ ns : List Int, ds = ns.map PyData.int ∧ ∀ n ∈ ns, 0 ≤ n ∧ n < m
  | [], _ => ⟨[], rfl, fun _ h => nomatch h⟩
  | d :: ds, h => by
    simp only [List.all_cons, Bool.and_eq_true] at h
    obtain ⟨ns, rfl, hn⟩ := ints_of_all h.2
    cases d with
    | int i =>
      have h1 := h.1
      simp only [numB, Bool.and_eq_true, decide_eq_true_eq] at h1
      refine ⟨i :: ns, rfl, ?_⟩
      intro n hm
      rcases List.mem_cons.mp hm with rfl | hm
      · exact h1
      · exact hn n hm
    | _ =>
      have h1 := h.1
      simp [numB] at h1
theorem numB_inv {d : PyData} {m : Int} (h : numB d m = true) : ∃ i, d = .int i ∧ 0 ≤ i ∧ i < m := by
  cases d with
  | int i =>
    simp only [numB, Bool.and_eq_true, decide_eq_true_eq] at h
    exact ⟨i, rfl, h⟩
  | _ => simp [numB] at h
theorem tupB_inv {d : PyData} {m k : Int} (h : tupB d m k = true) : ∃ i j, d = dPair (i, j) ∧ (0 ≤ i ∧ i < m) ∧ (0 ≤ j ∧ j < k) := by
  match d, h with
  | .tuple [a, b], h =>
    simp only [tupB, Bool.and_eq_true] at h
    obtain ⟨i, rfl, hi⟩ := numB_inv h.1
    obtain ⟨j, rfl, hj⟩ := numB_inv h.2
    exact ⟨i, j, rfl, hi, hj⟩
theorem pairs_of_all {m k : Int} : ∀ {ds : List PyData}, (ds.all fun d => tupB d m k) = true →
    ∃ ps : List (Int × Int), ds = ps.map dPair ∧ ∀ p ∈ ps, (0 ≤ p.1 ∧ p.1 < m) ∧ (0 ≤ p.2 ∧ p.2 < k)
  | [], _ => ⟨[], rfl, fun _ h => nomatch h⟩
  | d :: ds, h => by
    simp only [List.all_cons, Bool.and_eq_true] at h
    obtain ⟨ps, rfl, hn⟩ := pairs_of_all h.2
    obtain ⟨i, j, rfl, hi, hj⟩ := tupB_inv h.1
    refine ⟨(i, j) :: ps, rfl, ?_⟩
    intro p hp
    rcases List.mem_cons.mp hp with rfl | hp
    · exact ⟨hi, hj⟩
    · exact hn p hp
def tuplesB : PyData → Int → Int → Bool
  | .list ds, m, n => (ds.all fun d => tupB d m n) && (match pairsOf ds with | some ps => ascB ltPr ps | none => false)
  | _, _, _ => false
def targetsB : PyData → Int → Bool
  | .list ds, m => (ds.all fun d => numB d m) && (decide (0 < ds.length) && (match intsOf ds with | some ns => ascB ltIn ns | none => false))
  | _, _ => false
def nudgesB : PyData → Int → Bool
  | .list ds, m => decide (ds.length ≤ 8) && ds.all fun d => targetsB d m
  | _, _ => false
def webB : PyData → Bool
  | .tuple [.int n, ps, ns] => (decide (1 ≤ n) && decide (n ≤ 20)) && (tuplesB ps n n && nudgesB ns n)
  | _ => false
/-- ascending, turn by turn -/
def ascAt {α : Type} (lt : α → α → Bool) (xs : List α) (i : Nat) : Bool :=
  match xs[i]?, xs[i + 1]? with
  | some x, some y => lt x y
  | _, _ => true
theorem ascB_range {α : Type} (lt : α → α → Bool) : ∀ xs : List α, ((List.range (xs.length - 1)).map fun i => ascAt lt xs i).all id = ascB lt xs
  | [] => rfl
  | [x] => rfl
  | x :: y :: r => by
    have ih := ascB_range lt (y :: r)
    have e : (x :: y :: r).length - 1 = ((y :: r).length - 1) + 1 := by
      simp only [List.length_cons]
      omega
    rw [e, List.range_succ_eq_map, List.map_cons, List.all_cons, List.map_map]
    show (lt x y && _) = (lt x y && ascB lt (y :: r))
    rw [← ih]
    rfl
theorem all_range_get {α : Type} (p : α → Bool) (d : α) : ∀ xs : List α, ((List.range xs.length).map fun i => p (xs.getD i d)).all id = xs.all p
  | [] => rfl
  | x :: xs => by
    rw [List.length_cons, List.range_succ_eq_map, List.map_cons, List.all_cons, List.map_map, List.all_cons]
    show (p x && _) = (p x && xs.all p)
    rw [← all_range_get p d xs]
    rfl
theorem given_bl {n : Nat} {f : Nat → Bool} : ((List.range n).map fun i => V.bl (f i)) = ((List.range n).map f).map V.bl := by
  rw [List.map_map]
  rfl
end Nw
namespace Nw
section
variable {K : PySem.W.Frag}
theorem isa_int (d : PySem.PyData) : PySem.W.kitOne K (.type (tyName d)) (.type "int") = some (isA "int" d) := isA_ok "int" (by simp) d
theorem isa_bool (d : PySem.PyData) : PySem.W.kitOne K (.type (tyName d)) (.type "bool") = some (isA "bool" d) := isA_ok "bool" (by simp) d
theorem isa_list (d : PySem.PyData) : PySem.W.kitOne K (.type (tyName d)) (.type "list") = some (isA "list" d) := isA_ok "list" (by simp) d
theorem isa_tuple (d : PySem.PyData) : PySem.W.kitOne K (.type (tyName d)) (.type "tuple") = some (isA "tuple" d) := isA_ok "tuple" (by simp) d
theorem isa_str (d : PySem.PyData) : PySem.W.kitOne K (.type (tyName d)) (.type "str") = some (isA "str" d) := isA_ok "str" (by simp) d
end
end Nw
namespace Nw
open PySem PySem.Spec PyProof.Rows L2
theorem map_at {α β : Type} {f : α → β} {l : List α} {i : Nat} {y : β} (h : (l.map f)[i]? = some y) : ∃ x, l[i]? = some x ∧ y = f x := by
  rw [List.getElem?_map] at h
  cases e : l[i]? with
  | none =>
    rw [e] at h
    cases h
  | some x =>
    rw [e] at h
    exact ⟨x, rfl, (Option.some.inj h).symm⟩
theorem drop1_at {α : Type} {l : List α} {i : Nat} {y : α} (h : (l.drop 1)[i]? = some y) : l[i + 1]? = some y := by
  rw [List.getElem?_drop, Nat.add_comm] at h
  exact h
theorem min_drop1 {α : Type} (l : List α) : min l.length (l.drop 1).length = l.length - 1 := by
  rw [List.length_drop]
  omega
/-- the pairs that a list of tuples of two ints holds -/
theorem pairs_at {K : PySem.W.Frag} {H : Hp} {ps : List (Int × Int)} {xs : List V} {i : Nat} {x : V} (h : DaAll K H (ps.map dPair) xs) (hx : xs[i]? = some x) :
    ∃ p, ps[i]? = some p ∧ ∃ a, x = .ref a ∧ SqT K H a [.int p.1, .int p.2] := by
  obtain ⟨d, hd, hdx⟩ := h.at' hx
  obtain ⟨p, hp, rfl⟩ := map_at hd
  obtain ⟨a, ys, rfl, hS, z1, r1, rfl, e1, z2, r2, rfl, e2, rfl⟩ := hdx
  obtain rfl := e1
  obtain rfl := e2
  exact ⟨p, hp, a, rfl, .inl (.inl hS)⟩
end Nw
namespace Nw
open PySem PySem.Spec PyProof.Rows L2
end Nw
/-! Webs as numbers. -/
namespace Nw
open PySem PySem.Spec PyProof.Rows L2
structure Wb where
  n : Int
  ps : List (Int × Int)
  ns : List (List Int)
  deriving DecidableEq
def dInts (r : List Int) : PyData := .list (r.map PyData.int)
def dPairs (ps : List (Int × Int)) : PyData := .list (ps.map dPair)
def dRows (ns : List (List Int)) : PyData := .list (ns.map dInts)
def Wb.d (w : Wb) : PyData := .tuple [.int w.n, dPairs w.ps, dRows w.ns]
structure Wb.Ok (w : Wb) : Prop where
  lo : 1 ≤ w.n
  hi : w.n ≤ 20
  ps : ∀ p ∈ w.ps, (0 ≤ p.1 ∧ p.1 < w.n) ∧ (0 ≤ p.2 ∧ p.2 < w.n)
  asc : ascB ltPr w.ps = true
  few : w.ns.length ≤ 8
  ns : ∀ r ∈ w.ns, r ≠ [] ∧ (∀ t ∈ r, 0 ≤ t ∧ t < w.n) ∧ ascB ltIn r = true
theorem targetsB_of {r : List Int} {m : Int} (h0 : r ≠ []) (h1 : ∀ t ∈ r, 0 ≤ t ∧ t < m) (h2 : ascB ltIn r = true) : targetsB (dInts r) m = true := by
  unfold dInts targetsB
  simp only [intsOf_map, h2, Bool.and_true, Bool.and_eq_true, decide_eq_true_eq, List.length_map]
  refine ⟨?_, List.length_pos_iff.mpr h0⟩
  simp only [List.all_map, List.all_eq_true]
  intro t ht
  have := h1 t ht
  simp [numB, this.1, this.2]
theorem tuplesB_of {ps : List (Int × Int)} {m n : Int} (h1 : ∀ p ∈ ps, (0 ≤ p.1 ∧ p.1 < m) ∧ (0 ≤ p.2 ∧ p.2 < n)) (h2 : ascB ltPr ps = true) : tuplesB (dPairs ps) m n = true := by
  unfold dPairs tuplesB
  simp only [pairsOf_map, h2, Bool.and_true]
  simp only [List.all_map, List.all_eq_true]
  intro p hp
  obtain ⟨⟨a, b⟩, c, d⟩ := h1 p hp
  simp [dPair, tupB, numB, a, b, c, d]
theorem Wb.Ok.web {w : Wb} (h : w.Ok) : webB w.d = true := by
  unfold Wb.d webB
  have h1 := h.lo
  have h2 := h.hi
  have h3 := tuplesB_of h.ps h.asc
  have h4 : nudgesB (dRows w.ns) w.n = true := by
    unfold dRows nudgesB
    simp only [List.length_map, h.few, decide_true, Bool.true_and]
    simp only [List.all_map, List.all_eq_true]
    intro r hr
    obtain ⟨a, b, c⟩ := h.ns r hr
    exact targetsB_of a b c
  simp [h1, h2, h3, h4]
/-- how long ascending rows of small numbers may be -/
theorem asc_len {m : Int} : ∀ (r : List Int) (lo : Int), (∀ t ∈ r, lo ≤ t ∧ t < m) → ascB ltIn r = true → (r.length : Int) ≤ max 0 (m - lo)
  | [], lo, _, _ => by
    simp only [List.length_nil]
    omega
  | [x], lo, h, _ => by
    have := h x (by simp)
    simp only [List.length_singleton]
    omega
  | x :: y :: r, lo, h, ha => by
    simp only [ascB, Bool.and_eq_true, ltIn, decide_eq_true_eq] at ha
    have hx := h x (by simp)
    have hy := h y (by simp)
    have key : ∀ (l : List Int) (a : Int), ascB ltIn (a :: l) = true → ∀ t ∈ l, a + 1 ≤ t := by
      intro l
      induction l with
      | nil =>
        intro a _ t ht
        cases ht
      | cons b l ih =>
        intro a hab t ht
        simp only [ascB, Bool.and_eq_true, ltIn, decide_eq_true_eq] at hab
        rcases List.mem_cons.mp ht with rfl | ht
        · omega
        · have := ih b hab.2 t ht
          omega
    have h' : ∀ t ∈ y :: r, x + 1 ≤ t ∧ t < m := by
      intro t ht
      refine ⟨?_, (h t (List.mem_cons_of_mem _ ht)).2⟩
      exact key (y :: r) x (by simp only [ascB, Bool.and_eq_true, ltIn, decide_eq_true_eq]; exact ha) t ht
    have ih := asc_len (y :: r) (x + 1) h' ha.2
    simp only [List.length_cons] at ih ⊢
    omega
theorem Wb.Ok.row {w : Wb} (h : w.Ok) {r : List Int} (hr : r ∈ w.ns) : r.length ≤ 20 := by
  obtain ⟨_, b, c⟩ := h.ns r hr
  have := asc_len r 0 b c
  have := h.hi
  have := h.lo
  omega
/-- the lines of a web -/
def pushedAt (n : Int) (i : Nat) (r : List Int) : List (Int × Int) := r.map fun t => (n + (i : Int), t)
def pushedFrom (n : Int) : Nat → List (List Int) → List (Int × Int)
  | _, [] => []
  | i, r :: rs => pushedAt n i r ++ pushedFrom n (i + 1) rs
def Wb.lines (w : Wb) : List (Int × Int) := w.ps ++ pushedFrom w.n 0 w.ns
theorem pushedFrom_take (n : Int) : ∀ (rs : List (List Int)) (i k : Nat) (r : List Int), rs[k]? = some r →
    pushedFrom n i (rs.take (k + 1)) = pushedFrom n i (rs.take k) ++ pushedAt n (i + k) r
  | [], _, _, _, h => by simp at h
  | a :: rs, i, 0, r, h => by
    obtain rfl : a = r := by simpa using h
    simp [pushedFrom]
  | a :: rs, i, k + 1, r, h => by
    have ih := pushedFrom_take n rs (i + 1) k r (by simpa using h)
    simp only [List.take_succ_cons, pushedFrom]
    rw [ih, List.append_assoc, show i + 1 + k = i + (k + 1) by omega]
theorem take_all {α : Type} (l : List α) : l.take l.length = l := List.take_length
end Nw
namespace Nw
open PySem PySem.Spec PyProof.Rows L2
theorem ltPr_iff {p q : Int × Int} : ltPr p q = true ↔ p.1 < q.1 ∨ (p.1 = q.1 ∧ p.2 < q.2) := by
  unfold ltPr
  rw [HT.lexLt_cons]
  by_cases h : p.1 = q.1
  · rw [if_pos h, HT.lexLt_cons]
    by_cases h2 : p.2 = q.2
    · rw [if_pos h2, HT.lexLt_nil_nil]
      constructor
      · intro e
        cases e
      · intro e
        omega
    · rw [if_neg h2, decide_eq_true_eq]
      omega
  · rw [if_neg h, decide_eq_true_eq]
    omega
theorem asc_code : ∀ {ps : List (Int × Int)}, (∀ p ∈ ps, 0 ≤ p.2 ∧ p.2 < 64) → ascB ltPr ps = true → ascB ltIn (ps.map fun p => 64 * p.1 + p.2) = true
  | [], _, _ => rfl
  | [_], _, _ => rfl
  | p :: q :: r, h, ha => by
    simp only [ascB, Bool.and_eq_true] at ha
    have hp := h p (by simp)
    have hq := h q (by simp)
    have h1 := ltPr_iff.mp ha.1
    have ih := asc_code (ps := q :: r) (fun z hz => h z (List.mem_cons_of_mem _ hz)) ha.2
    simp only [List.map_cons, ascB, Bool.and_eq_true, ltIn, decide_eq_true_eq] at ih ⊢
    exact ⟨by omega, ih⟩
theorem Wb.Ok.len {w : Wb} (h : w.Ok) : w.ps.length ≤ 1300 := by
  have h1 := asc_code (ps := w.ps) (fun p hp => by have := h.ps p hp; have := h.hi; omega) h.asc
  have h2 := asc_len _ 0 (m := 1300) (by
    intro t ht
    obtain ⟨p, hp, rfl⟩ := List.mem_map.mp ht
    have := h.ps p hp
    have := h.hi
    omega) h1
  rw [List.length_map] at h2
  omega
theorem pushed_len (n : Int) : ∀ (rs : List (List Int)) (i : Nat), (∀ r ∈ rs, r.length ≤ 20) → (pushedFrom n i rs).length ≤ 20 * rs.length
  | [], _, _ => by simp [pushedFrom]
  | r :: rs, i, h => by
    have h1 := h r (by simp)
    have h2 := pushed_len n rs (i + 1) (fun z hz => h z (List.mem_cons_of_mem _ hz))
    simp only [pushedFrom, pushedAt, List.length_append, List.length_map, List.length_cons]
    omega
theorem Wb.Ok.lines_len {w : Wb} (h : w.Ok) : w.lines.length ≤ 1500 := by
  have h1 := h.len
  have h2 := pushed_len w.n w.ns 0 (fun r hr => h.row hr)
  have h3 := h.few
  unfold Wb.lines
  rw [List.length_append]
  omega
/-- a web as it stands -/
theorem Wb.at {K : PySem.W.Frag} {H : Hp} {w : Wb} {v : V} (h : Da K H w.d v) : ∃ t x2 x3, v = .ref t ∧ SqT K H t [.int w.n, x2, x3] ∧ Da K H (dPairs w.ps) x2 ∧ Da K H (dRows w.ns) x3 := by
  obtain ⟨t, xs, rfl, hS, x1, r1, rfl, g1, x2, r2, rfl, g2, x3, r3, rfl, g3, rfl⟩ := h
  obtain rfl := g1
  exact ⟨t, x2, x3, rfl, .inl (.inl hS), g2, g3⟩
theorem dInts_at {K : PySem.W.Frag} {H : Hp} {r : List Int} {v : V} (h : Da K H (dInts r) v) : ∃ a, v = .ref a ∧ SqL K H a (r.map V.int) := by
  obtain ⟨a, xs, rfl, hS, hA, _⟩ := h
  obtain rfl := DaAll.ints.mp hA
  exact ⟨a, rfl, .inl (.inl hS)⟩
theorem dInts_of {K : PySem.W.Frag} {H : Hp} {r : List Int} {a : Addr} (h : H a = some (.lst (r.map V.int))) (hz : r.length ≤ 100000) : Da K H (dInts r) (.ref a) :=
  ⟨a, _, rfl, h, DaAll.ints.mpr rfl, by rw [List.length_map]; exact hz⟩
theorem dPair_of {K : PySem.W.Frag} {H : Hp} {p : Int × Int} {a : Addr} (h : H a = some (.tup [.int p.1, .int p.2])) : Da K H (dPair p) (.ref a) :=
  ⟨a, _, rfl, h, _, _, rfl, rfl, _, _, rfl, rfl, rfl⟩
end Nw
namespace Nw
open PySem PySem.Spec PyProof.Rows L2
theorem ExD.t {K : PySem.W.Frag} {D : Addr} {H H' : Hp} {a : Addr} {xs : List V} (e : ExD D H H') (n : a ≠ D) (h : SqT K H a xs) : SqT K H' a xs := by
  rcases h with (h | ⟨o, h⟩) | h
  · exact .inl (.inl (e a _ n h))
  · exact .inl (.inr ⟨o, e a _ n h⟩)
  · exact .inr h
theorem ExD.l {K : PySem.W.Frag} {D : Addr} {H H' : Hp} {a : Addr} {xs : List V} (e : ExD D H H') (n : a ≠ D) (h : SqL K H a xs) : SqL K H' a xs := by
  rcases h with (h | ⟨o, h⟩) | h
  · exact .inl (.inl (e a _ n h))
  · exact .inl (.inr ⟨o, e a _ n h⟩)
  · exact .inr h
/-- items that do not stand at D -/
abbrev OffD (D : Addr) (xs : List V) : Prop := ∀ x ∈ xs, ∃ b, x = .ref b ∧ b ≠ D
theorem OffD.nil {D : Addr} : OffD D [] := fun x h => by cases h
theorem OffD.snoc {D : Addr} {xs : List V} {b : Addr} (h : OffD D xs) (n : b ≠ D) : OffD D (xs ++ [.ref b]) := by
  intro x hx
  rcases List.mem_append.mp hx with hx | hx
  · exact h x hx
  · obtain rfl := List.mem_singleton.mp hx
    exact ⟨b, rfl, n⟩
theorem pairs_keep {K : PySem.W.Frag} {D : Addr} {H H' : Hp} (e : ExD D H H') : ∀ {L : List (Int × Int)} {acc : List V}, DaAll K H (L.map dPair) acc → OffD D acc → DaAll K H' (L.map dPair) acc
  | [], _, h, _ => h
  | p :: L, acc, h, o => by
    obtain ⟨x, xs, rfl, ⟨a, ys, rfl, hS, z1, r1, rfl, e1, z2, r2, rfl, e2, rfl⟩, h2⟩ := h
    obtain rfl := e1
    obtain rfl := e2
    obtain ⟨b, eb, nb⟩ := o (.ref a) (by simp)
    cases eb
    exact ⟨_, _, rfl, dPair_of (e _ _ nb hS), pairs_keep e h2 fun x hx => o x (List.mem_cons_of_mem _ hx)⟩
end Nw
namespace Nw
open PySem PySem.Spec PyProof.Rows L2
theorem pushed_ok {n : Int} {m : Int} : ∀ {rs : List (List Int)} {i : Nat}, (∀ r ∈ rs, ∀ t ∈ r, 0 ≤ t ∧ t < m) → ∀ l ∈ pushedFrom n i rs,
    (n + (i : Int) ≤ l.1 ∧ l.1 < n + (i : Int) + (rs.length : Int)) ∧ (0 ≤ l.2 ∧ l.2 < m)
  | [], _, _, l, hl => by cases hl
  | r :: rs, i, h, l, hl => by
    simp only [pushedFrom, List.mem_append] at hl
    simp only [List.length_cons]
    rcases hl with hl | hl
    · obtain ⟨t, ht, rfl⟩ := List.mem_map.mp hl
      have := h r (by simp) t ht
      exact ⟨⟨by simp, by simp; omega⟩, this⟩
    · have := pushed_ok (i := i + 1) (fun z hz => h z (List.mem_cons_of_mem _ hz)) l hl
      refine ⟨⟨by omega, by omega⟩, this.2⟩
theorem Wb.Ok.line {w : Wb} (h : w.Ok) : ∀ l ∈ w.lines, (0 ≤ l.1 ∧ l.1 < w.n + (w.ns.length : Int)) ∧ (0 ≤ l.2 ∧ l.2 < w.n) := by
  intro l hl
  have h1 := h.lo
  rcases List.mem_append.mp hl with hl | hl
  · have := h.ps l hl
    refine ⟨⟨this.1.1, by omega⟩, this.2⟩
  · have := pushed_ok (fun r hr => (h.ns r hr).2.1) l hl
    refine ⟨⟨by omega, by omega⟩, this.2⟩
/-- the targets that a list of lines gives a source -/
def rowOf (ls : List (Int × Int)) (s : Int) : List Int := (ls.filter fun l => l.1 == s).map (·.2)
theorem rowOf_nil (s : Int) : rowOf [] s = [] := rfl
theorem rowOf_app (a b : List (Int × Int)) (s : Int) : rowOf (a ++ b) s = rowOf a s ++ rowOf b s := by
  unfold rowOf
  rw [List.filter_append, List.map_append]
theorem rowOf_one (p : Int × Int) (s : Int) : rowOf [p] s = if p.1 = s then [p.2] else [] := by
  unfold rowOf
  by_cases h : p.1 = s
  · rw [if_pos h, List.filter_cons, if_pos (by simpa using h)]
    rfl
  · rw [if_neg h, List.filter_cons, if_neg (by simpa using h)]
    rfl
theorem rowOf_len (ls : List (Int × Int)) (s : Int) : (rowOf ls s).length ≤ ls.length := by
  unfold rowOf
  rw [List.length_map]
  exact List.length_filter_le _ _
theorem nodup_snoc {α : Type} {l : List α} {b : α} (h : l.Nodup) (n : b ∉ l) : (l ++ [b]).Nodup := by
  rw [List.nodup_append]
  refine ⟨h, by simp, ?_⟩
  intro a ha c hc e
  obtain rfl := List.mem_singleton.mp hc
  subst e
  exact n ha
theorem nodup_at {α : Type} {l : List α} (h : l.Nodup) {i j : Nat} {a b : α} (hi : l[i]? = some a) (hj : l[j]? = some b) (n : i ≠ j) : a ≠ b := by
  intro e
  subst e
  obtain ⟨h1, e1⟩ := List.getElem?_eq_some_iff.mp hi
  obtain ⟨h2, e2⟩ := List.getElem?_eq_some_iff.mp hj
  exact n ((List.getElem_inj h).mp (e1.trans e2.symm))
theorem atI_int {α : Type} {xs : List α} {s : Int} {v : α} (h0 : 0 ≤ s) (h : xs[s.toNat]? = some v) : atI xs s = some v := by
  have e := atI_nat h
  rw [Int.toNat_of_nonneg h0] at e
  exact e
theorem take_snoc {α : Type} {l : List α} {i : Nat} {x : α} (h : l[i]? = some x) : l.take (i + 1) = l.take i ++ [x] := by
  rw [List.take_add_one, h]
  rfl
end Nw
namespace Nw
open PySem PySem.Spec PyProof.Rows L2
/-- a tuple outlasts what is done to a list -/
theorem SqT.wr {K : PySem.W.Frag} {H : Hp} {b c : Addr} {xs ys : List V} {o : HO} (h : SqT K H b xs) (hc : H c = some (.lst ys)) : SqT K (upd H c o) b xs := by
  rcases h with (h | ⟨z, h⟩) | h
  · refine .inl (.inl ?_)
    rw [upd_ne (fun e => by rw [e, hc] at h; cases h)]
    exact h
  · refine .inl (.inr ⟨z, ?_⟩)
    rw [upd_ne (fun e => by rw [e, hc] at h; cases h)]
    exact h
  · exact .inr h
end Nw
namespace Nw
open PySem PySem.Spec PyProof.Rows L2
/-- the sources that a list of lines gives a quantity -/
def srcsOf (ls : List (Int × Int)) (t : Int) : List Int := (ls.filter fun l => l.2 == t).map (·.1)
theorem filter_range {α β : Type} (d : α) (p : α → Bool) (g : α → β) : ∀ ls : List α, ((List.range ls.length).filter fun i => p (ls.getD i d)).map (fun i => g (ls.getD i d)) = (ls.filter p).map g
  | [] => rfl
  | x :: ls => by
    have ih := filter_range d p g ls
    rw [List.length_cons, List.range_succ_eq_map, List.filter_cons, List.filter_map, List.filter_cons]
    have e : (fun i => p ((x :: ls).getD i d)) ∘ Nat.succ = fun i => p (ls.getD i d) := rfl
    rw [e]
    have e0 : (x :: ls).getD 0 d = x := rfl
    rw [e0]
    by_cases h : p x = true
    · rw [if_pos h, if_pos h, List.map_cons, List.map_cons, List.map_map, ← ih]
      rfl
    · rw [if_neg h, if_neg h, List.map_map, ← ih]
      rfl
theorem srcs_range (ls : List (Int × Int)) (z : Int) : ((List.range ls.length).filter fun i => (ls.getD i (0, 0)).2 == z).map (fun i => V.int (ls.getD i (0, 0)).1) = (srcsOf ls z).map V.int := by
  have h := filter_range (0, 0) (fun l : Int × Int => l.2 == z) (fun l => V.int l.1) ls
  rw [h]
  unfold srcsOf
  rw [List.map_map]
  rfl
end Nw
namespace Nw
open PySem PySem.Spec PyProof.Rows L2
/-- new rows at new places, apart from one another -/
structure RowsAt (H H' : Hp) (p : Addr) (as : List Addr) (n : Nat) (row : Nat → List Int) : Prop where
  new : H p = none
  ex : Ex H H'
  at_ : H' p = some (.lst (as.map V.ref))
  nd : as.Nodup
  off : ∀ b ∈ as, H b = none ∧ b ≠ p
  len : as.length = n
  row : ∀ s b, as[s]? = some b → H' b = some (.lst ((row s).map V.int))
theorem srcsOf_nil (s : Int) : srcsOf [] s = [] := rfl
theorem srcsOf_app (a b : List (Int × Int)) (s : Int) : srcsOf (a ++ b) s = srcsOf a s ++ srcsOf b s := by
  unfold srcsOf
  rw [List.filter_append, List.map_append]
theorem srcsOf_one (p : Int × Int) (s : Int) : srcsOf [p] s = if p.2 = s then [p.1] else [] := by
  unfold srcsOf
  by_cases h : p.2 = s
  · rw [if_pos h, List.filter_cons, if_pos (by simpa using h)]
    rfl
  · rw [if_neg h, List.filter_cons, if_neg (by simpa using h)]
    rfl
theorem srcsOf_len (ls : List (Int × Int)) (s : Int) : (srcsOf ls s).length ≤ ls.length := by
  unfold srcsOf
  rw [List.length_map]
  exact List.length_filter_le _ _
end Nw
/-! What draws are made of: a list of three numbers that each draw changes. -/
namespace Nw
open PySem PySem.Spec PyProof.Rows L2
/-- the heap without what stands at p -/
def rm (H : Hp) (p : Addr) : Hp := fun b => if b = p then none else H b
theorem rm_ex {H : Hp} {p : Addr} : Ex (rm H p) H := fun b o h => by
  unfold rm at h
  split at h
  · cases h
  · exact h
theorem rm_at {H : Hp} {p : Addr} : rm H p p = none := if_pos rfl
theorem rm_ne {H : Hp} {p b : Addr} (h : b ≠ p) : rm H p b = H b := if_neg h
theorem ExD.rm {p : Addr} {H H' : Hp} (e : ExD p H H') : Ex (rm H p) (rm H' p) := fun b o h => by
  by_cases n : b = p
  · subst n
    rw [rm_at] at h
    cases h
  · rw [rm_ne n] at h ⊢
    exact e b o n h
theorem Ex.rm {p : Addr} {H H' : Hp} (e : Ex H H') : Ex (rm H p) (rm H' p) := ExD.rm (Ex.d e)
theorem ExD.rfl {p : Addr} {H : Hp} : ExD p H H := fun _ _ _ h => h
theorem ExD.nw {p q : Addr} {H : Hp} {o : HO} (h : H q = none) : ExD p H (upd H q o) := (Ex.nw h).d
theorem ExD.wr {p q : Addr} {H H' : Hp} {o : HO} (e : ExD p H H') (h : H q = none) : ExD p H (upd H' q o) := fun a u n ha => by
  rw [upd_ne (ne_of_none ha h)]
  exact e a u n ha
theorem ExD.put2 {p : Addr} {H H' : Hp} {o : HO} (e : ExD p H H') : ExD p H (upd H' p o) := e.tr ExD.put
/-- what is new stands elsewhere than the purse -/
theorem ExD.fr {p q : Addr} {H H' : Hp} {o : HO} (e : ExD p H H') (hp : H' p = some o) (h : H' q = none) : H q = none := by
  cases z : H q with
  | none => exact Eq.refl _
  | some u =>
    by_cases n : q = p
    · subst n
      rw [hp] at h
      cases h
    · rw [e q u n z] at h
      cases h
structure Purse (H : Hp) (p : Addr) (m : Nat) : Prop where
  ex : ∃ b c e : Int, H p = some (.lst [.int b, .int c, .int e]) ∧ 0 ≤ b ∧ (0 ≤ c ∧ c < 10 ^ 42) ∧ (0 ≤ e ∧ e ≤ (m : Int))
theorem Purse.mono {H : Hp} {p : Addr} {m n : Nat} (h : Purse H p m) (l : m ≤ n) : Purse H p n := by
  obtain ⟨b, c, e, h1, h2, h3, h4⟩ := h.ex
  exact ⟨b, c, e, h1, h2, h3, h4.1, by omega⟩
theorem Purse.up {H H' : Hp} {p : Addr} {m : Nat} (h : Purse H p m) (e : Ex H H') : Purse H' p m := by
  obtain ⟨b, c, d, h1, h2⟩ := h.ex
  exact ⟨b, c, d, e _ _ h1, h2⟩
theorem Purse.off {H : Hp} {p : Addr} {m : Nat} (h : Purse H p m) {q : Addr} (n : H q = none) : q ≠ p := by
  obtain ⟨b, c, d, h1, h2⟩ := h.ex
  intro e
  rw [e, h1] at n
  cases n
theorem Purse.put {H : Hp} {p q : Addr} {m : Nat} {o : HO} (h : Purse H p m) (n : p ≠ q) : Purse (upd H q o) p m := by
  obtain ⟨b, c, d, h1, h2⟩ := h.ex
  exact ⟨b, c, d, by rw [upd_ne n]; exact h1, h2⟩
theorem Purse.fr {p q : Addr} {H H' : Hp} {m : Nat} (e : ExD p H H') (hp : Purse H' p m) (h : H' q = none) : H q = none := by
  obtain ⟨b, c, d, h1, _⟩ := hp.ex
  exact e.fr h1 h
/-- a remainder by a positive number -/
theorem fmod_in {a m : Int} (h : 0 < m) : 0 ≤ a.fmod m ∧ a.fmod m < m := by
  rw [Int.fmod_eq_emod_of_nonneg a (by omega)]
  exact ⟨Int.emod_nonneg a (by omega), Int.emod_lt_of_pos a h⟩
theorem div_in {a m : Int} (h0 : 0 ≤ a) (h : 0 < m) : 0 ≤ a / m := Int.ediv_nonneg h0 (by omega)
theorem pow_lt_of {i : Int} (h0 : 0 ≤ i) (h : i < 10 ^ 60) : i.natAbs < 2 ^ 10000 := by
  have h1 : (10 : Nat) ^ 60 < 2 ^ 10000 := by decide +kernel
  have h2 : i.natAbs < 10 ^ 60 := by omega
  omega
theorem small_div {m : Int} (h : 0 < m) (h2 : m < 1073741824) : CDivW 0 m := wide_div (b := 30) h (by omega) (by omega) (by omega)
theorem great_div {i m : Int} (h : 0 < m) (h2 : m < 1000000000000000000000000000000000000000000000000000000000000) : CDivW i m := wide_div (b := 200) h (by
  have e : (2 : Nat) ^ 200 = 1606938044258990275541962092341162602522202993782792835301376 := by decide +kernel
  rw [e]
  omega) (by omega) (by omega)
theorem small_div' {i m : Int} (h : 0 < m) (h2 : m < 1073741824) : CDivW i m := small_div h h2
end Nw
namespace Nw
open PySem PySem.Spec PyProof.Rows L2
theorem cpow10 {j : Int} (h0 : 0 ≤ j) (h1 : j ≤ 100) : CPowW 10 j := ⟨h0, h1, by
  show (10 : Nat) < 2 ^ 10000
  decide +kernel⟩
theorem cpow3 {i : Int} (h0 : 0 ≤ i) (h : i < 10 ^ 60) : CPowW i 3 := ⟨by decide, by decide, pow_lt_of h0 h⟩
theorem p18 : (10 : Int) ^ Int.toNat 18 = 1000000000000000000 := by decide +kernel
theorem p41 : (10 : Int) ^ Int.toNat 41 = 100000000000000000000000000000000000000000 := by decide +kernel
theorem p42 : (10 : Int) ^ 42 = 1000000000000000000000000000000000000000000 := by decide +kernel
theorem p43 : (10 : Int) ^ Int.toNat 43 = 10000000000000000000000000000000000000000000 := by decide +kernel
theorem p45 : (10 : Int) ^ Int.toNat 45 = 1000000000000000000000000000000000000000000000 := by decide +kernel
theorem p60 : (10 : Int) ^ 60 = 1000000000000000000000000000000000000000000000000000000000000 := by decide +kernel
theorem cube_nn {i : Int} (h : 0 ≤ i) : 0 ≤ i ^ Int.toNat 3 := Int.pow_nonneg h
theorem purse_new {a x k : Int} (hk : 0 ≤ k ∧ k ≤ 63) : 0 ≤ a.fmod (10 ^ Int.toNat 41 + 37) + 90001 * k + 17 ∧ a.fmod (10 ^ Int.toNat 41 + 37) + 90001 * k + 17 < 10 ^ 42 := by
  have h := fmod_in (a := a) (m := 10 ^ Int.toNat 41 + 37) (by rw [p41]; omega)
  rw [p41] at h ⊢
  rw [p42]
  omega
end Nw
namespace Nw
theorem ne41 : (10 : Int) ^ Int.toNat 41 + 37 ≠ 0 := by rw [p41]; decide
theorem ne43 : (10 : Int) ^ Int.toNat 43 + 29 ≠ 0 := by rw [p43]; decide
theorem ne45 : (10 : Int) ^ Int.toNat 45 + 9 ≠ 0 := by rw [p45]; decide
end Nw
/-! Data of webs compared and shown. -/
namespace Nw
open PySem PySem.Spec PyProof.Rows L2
theorem asc_snoc : ∀ {r : List Int} {x : Int}, ascB ltIn r = true → (∀ t ∈ r, t < x) → ascB ltIn (r ++ [x]) = true
  | [], _, _, _ => rfl
  | [a], x, _, h => by
    have := h a (by simp)
    simp [ascB, ltIn, this]
  | a :: b :: r, x, ha, h => by
    simp only [ascB, Bool.and_eq_true] at ha
    have ih := asc_snoc (r := b :: r) (x := x) ha.2 (fun t ht => h t (List.mem_cons_of_mem _ ht))
    simp only [List.cons_append, ascB, Bool.and_eq_true] at ih ⊢
    exact ⟨ha.1, ih⟩
theorem ascP_snoc : ∀ {r : List (Int × Int)} {x : Int × Int}, ascB ltPr r = true → (∀ t ∈ r, ltPr t x = true) → ascB ltPr (r ++ [x]) = true
  | [], _, _, _ => rfl
  | [a], x, _, h => by
    have := h a (by simp)
    simp [ascB, this]
  | a :: b :: r, x, ha, h => by
    simp only [ascB, Bool.and_eq_true] at ha
    have ih := ascP_snoc (r := b :: r) (x := x) ha.2 (fun t ht => h t (List.mem_cons_of_mem _ ht))
    simp only [List.cons_append, ascB, Bool.and_eq_true] at ih ⊢
    exact ⟨ha.1, ih⟩
/-! ### == -/
theorem eqv_ints : ∀ r s : List Int, PyData.eqvAll (r.map PyData.int) (s.map PyData.int) = decide (r = s)
  | [], [] => by simp [PyData.eqvAll]
  | [], _ :: _ => by simp [PyData.eqvAll]
  | _ :: _, [] => by simp [PyData.eqvAll]
  | a :: r, b :: s => by
    simp only [List.map_cons, PyData.eqvAll, eqv_ints r s, PyData.eqv]
    by_cases h : a = b
    · by_cases h2 : r = s <;> simp [h, h2]
    · simp [h]
theorem eqv_dInts (r s : List Int) : PyData.eqv (dInts r) (dInts s) = decide (r = s) := by
  unfold dInts
  simp only [PyData.eqv, eqv_ints]
theorem eqv_dPair (p q : Int × Int) : PyData.eqv (dPair p) (dPair q) = decide (p = q) := by
  obtain ⟨a, b⟩ := p
  obtain ⟨c, d⟩ := q
  unfold dPair
  simp only [PyData.eqv, PyData.eqvAll, Bool.and_true, Prod.mk.injEq]
  by_cases h : a = c <;> by_cases h2 : b = d <;> simp [h, h2]
theorem eqv_pairs : ∀ r s : List (Int × Int), PyData.eqvAll (r.map dPair) (s.map dPair) = decide (r = s)
  | [], [] => by simp [PyData.eqvAll]
  | [], _ :: _ => by simp [PyData.eqvAll]
  | _ :: _, [] => by simp [PyData.eqvAll]
  | a :: r, b :: s => by
    simp only [List.map_cons, PyData.eqvAll, eqv_pairs r s, eqv_dPair]
    by_cases h : a = b
    · by_cases h2 : r = s <;> simp [h, h2]
    · simp [h]
theorem eqv_dPairs (r s : List (Int × Int)) : PyData.eqv (dPairs r) (dPairs s) = decide (r = s) := by
  unfold dPairs
  simp only [PyData.eqv, eqv_pairs]
theorem eqv_rows : ∀ r s : List (List Int), PyData.eqvAll (r.map dInts) (s.map dInts) = decide (r = s)
  | [], [] => by simp [PyData.eqvAll]
  | [], _ :: _ => by simp [PyData.eqvAll]
  | _ :: _, [] => by simp [PyData.eqvAll]
  | a :: r, b :: s => by
    simp only [List.map_cons, PyData.eqvAll, eqv_rows r s, eqv_dInts]
    by_cases h : a = b
    · by_cases h2 : r = s <;> simp [h, h2]
    · simp [h]
theorem eqv_dRows (r s : List (List Int)) : PyData.eqv (dRows r) (dRows s) = decide (r = s) := by
  unfold dRows
  simp only [PyData.eqv, eqv_rows]
theorem eqv_web (u v : Wb) : PyData.eqv u.d v.d = decide (u = v) := by
  obtain ⟨a, b, c⟩ := u
  obtain ⟨d, e, f⟩ := v
  unfold Wb.d
  simp only [PyData.eqv, PyData.eqvAll, eqv_dPairs, eqv_dRows, Bool.and_true, Wb.mk.injEq]
  by_cases h : a = d <;> by_cases h2 : b = e <;> by_cases h3 : c = f <;> simp [h, h2, h3]
/-! ### shape -/
theorem shaped_of {d : PyData} (h : d.canLay0 = true) (h2 : d.depth ≤ 64) : SeqAt.shaped d = true := by
  unfold SeqAt.shaped
  rw [h, decide_eq_true h2]
  rfl
theorem lay_ints : ∀ r : List Int, PyData.canLayAll0 (r.map PyData.int) = true
  | [] => by simp [PyData.canLayAll0]
  | a :: r => by simp [PyData.canLayAll0, PyData.canLay0, lay_ints r]
theorem lay_pairs : ∀ r : List (Int × Int), PyData.canLayAll0 (r.map dPair) = true
  | [] => by simp [PyData.canLayAll0]
  | a :: r => by simp [PyData.canLayAll0, PyData.canLay0, dPair, lay_pairs r]
theorem lay_rows : ∀ r : List (List Int), PyData.canLayAll0 (r.map dInts) = true
  | [] => by simp [PyData.canLayAll0]
  | a :: r => by simp [PyData.canLayAll0, PyData.canLay0, dInts, lay_rows r, lay_ints]
theorem dep_ints : ∀ r : List Int, PyData.depthAll (r.map PyData.int) = 0
  | [] => by simp [PyData.depthAll]
  | a :: r => by simp [PyData.depthAll, PyData.depth, dep_ints r]
theorem dep_pairs : ∀ r : List (Int × Int), PyData.depthAll (r.map dPair) ≤ 1
  | [] => by simp [PyData.depthAll]
  | a :: r => by
    have := dep_pairs r
    simp [PyData.depthAll, PyData.depth, dPair]
    omega
theorem dep_rows : ∀ r : List (List Int), PyData.depthAll (r.map dInts) ≤ 1
  | [] => by simp [PyData.depthAll]
  | a :: r => by
    have := dep_rows r
    simp [PyData.depthAll, PyData.depth, dInts, dep_ints]
    omega
theorem lay_dInts (r : List Int) : (dInts r).canLay0 = true := by simp [dInts, PyData.canLay0, lay_ints]
theorem lay_dPairs (r : List (Int × Int)) : (dPairs r).canLay0 = true := by simp [dPairs, PyData.canLay0, lay_pairs]
theorem lay_dRows (r : List (List Int)) : (dRows r).canLay0 = true := by simp [dRows, PyData.canLay0, lay_rows]
theorem lay_dPair (p : Int × Int) : (dPair p).canLay0 = true := by simp [dPair, PyData.canLay0, PyData.canLayAll0]
theorem lay_web (u : Wb) : u.d.canLay0 = true := by simp [Wb.d, PyData.canLay0, PyData.canLayAll0, lay_dPairs, lay_dRows]
theorem dep_dInts (r : List Int) : (dInts r).depth ≤ 1 := by simp [dInts, PyData.depth, dep_ints]
theorem dep_dPair (p : Int × Int) : (dPair p).depth ≤ 1 := by simp [dPair, PyData.depth, PyData.depthAll]
theorem dep_dPairs (r : List (Int × Int)) : (dPairs r).depth ≤ 2 := by
  have := dep_pairs r
  simp [dPairs, PyData.depth]
  omega
theorem dep_dRows (r : List (List Int)) : (dRows r).depth ≤ 2 := by
  have := dep_rows r
  simp [dRows, PyData.depth]
  omega
theorem dep_web (u : Wb) : u.d.depth ≤ 3 := by
  have h1 := dep_dPairs u.ps
  have h2 := dep_dRows u.ns
  simp [Wb.d, PyData.depth, PyData.depthAll]
  omega
theorem sh_dInts (r : List Int) : SeqAt.shaped (dInts r) = true := shaped_of (lay_dInts r) (by have := dep_dInts r; omega)
theorem sh_dPair (r : Int × Int) : SeqAt.shaped (dPair r) = true := shaped_of (lay_dPair r) (by have := dep_dPair r; omega)
theorem sh_dPairs (r : List (Int × Int)) : SeqAt.shaped (dPairs r) = true := shaped_of (lay_dPairs r) (by have := dep_dPairs r; omega)
theorem sh_dRows (r : List (List Int)) : SeqAt.shaped (dRows r) = true := shaped_of (lay_dRows r) (by have := dep_dRows r; omega)
theorem sh_web (u : Wb) : SeqAt.shaped u.d = true := shaped_of (lay_web u) (by have := dep_web u; omega)
theorem nd_of_lay {d : PyData} (h : d.canLay0 = true) : d.hasDict = false := PyData.hasDict_of_canLay d h
section
variable {K : PySem.W.Frag} {H : Hp}
theorem Da.dInts {r : List Int} {v : V} (h : Da K H (dInts r) v) : Dp K H v (dInts r) := h.dp _ _ (nd_of_lay (lay_dInts r))
theorem Da.dPairs {r : List (Int × Int)} {v : V} (h : Da K H (dPairs r) v) : Dp K H v (dPairs r) := h.dp _ _ (nd_of_lay (lay_dPairs r))
theorem Da.dPair {r : Int × Int} {v : V} (h : Da K H (dPair r) v) : Dp K H v (dPair r) := h.dp _ _ (nd_of_lay (lay_dPair r))
theorem Da.dRows {r : List (List Int)} {v : V} (h : Da K H (dRows r) v) : Dp K H v (dRows r) := h.dp _ _ (nd_of_lay (lay_dRows r))
theorem Da.web {u : Wb} {v : V} (h : Da K H u.d v) : Dp K H v u.d := h.dp _ _ (nd_of_lay (lay_web u))
/-- a == b, a != b of lists of ints .. as the readings ask -/
theorem eqD_of {d e : PyData} {x y : V} {Q : VK} (hd : Dp K H x d) (he : Dp K H y e) (sd : SeqAt.shaped d = true) (se : SeqAt.shaped e = true) (q : Q (.bl (PyData.eqv d e)) H) : rEqD K x y H Q := ⟨d, e, hd, he, sd, se, q⟩
end
end Nw
namespace Nw
open PySem PySem.Spec PyProof.Rows L2
theorem ex_rm1 {H H' : Hp} {p : Addr} (h : ∀ b o, b ≠ p → H b = some o → H' b = some o) : Ex (rm H p) (rm H' p) := ExD.rm h
theorem ex_rm2 {H H' : Hp} {p q : Addr} (h : ∀ b o, b ≠ p → b ≠ q → H b = some o → H' b = some o) : Ex (rm (rm H p) q) (rm (rm H' p) q) :=
  ExD.rm fun b o n e => by
    by_cases n2 : b = p
    · subst n2
      rw [rm_at] at e
      cases e
    · rw [rm_ne n2] at e ⊢
      exact h b o n2 n e
theorem ex_rm3 {H H' : Hp} {p q r : Addr} (h : ∀ b o, b ≠ p → b ≠ q → b ≠ r → H b = some o → H' b = some o) : Ex (rm (rm (rm H p) q) r) (rm (rm (rm H' p) q) r) :=
  ExD.rm fun b o n e => by
    by_cases n2 : b = q
    · subst n2
      rw [rm_at] at e
      cases e
    · rw [rm_ne n2] at e ⊢
      by_cases n3 : b = p
      · subst n3
        rw [rm_at] at e
        cases e
      · rw [rm_ne n3] at e ⊢
        exact h b o n3 n2 n e
theorem asc_app : ∀ {a b : List (Int × Int)}, ascB ltPr a = true → ascB ltPr b = true → (∀ x ∈ a, ∀ y ∈ b, ltPr x y = true) → ascB ltPr (a ++ b) = true
  | [], _, _, hb, _ => hb
  | [x], [], _, _, _ => rfl
  | [x], y :: b, _, hb, h => by
    show (ltPr x y && ascB ltPr (y :: b)) = true
    rw [hb, h x (by simp) y (by simp)]
    rfl
  | x :: z :: a, b, ha, hb, h => by
    simp only [ascB, Bool.and_eq_true] at ha
    have ih := asc_app (a := z :: a) ha.2 hb (fun x hx => h x (List.mem_cons_of_mem _ hx))
    show (ltPr x z && ascB ltPr (z :: a ++ b)) = true
    rw [ha.1, ih]
    rfl
end Nw
namespace Nw
open PySem PySem.Spec PyProof.Rows L2
theorem rowOf_none {ls : List (Int × Int)} {s : Int} (h : ∀ l ∈ ls, l.1 ≠ s) : rowOf ls s = [] := by
  unfold rowOf
  rw [List.filter_eq_nil_iff.mpr (fun l hl => by simpa using h l hl)]
  rfl
theorem rowOf_pushedAt (n : Int) (i : Nat) (r : List Int) : rowOf (pushedAt n i r) (n + (i : Int)) = r := by
  unfold rowOf pushedAt
  rw [List.filter_eq_self.mpr]
  · rw [List.map_map]
    exact List.map_id _
  · intro l hl
    obtain ⟨t, _, rfl⟩ := List.mem_map.mp hl
    simp
/-- a quantity's row: from the pairs alone -/
theorem row_low {u : Wb} (h : u.Ok) {s : Int} (hs : s < u.n) : rowOf u.lines s = rowOf u.ps s := by
  unfold Wb.lines
  rw [rowOf_app, rowOf_none (ls := pushedFrom u.n 0 u.ns), List.append_nil]
  intro l hl
  have := pushed_ok (fun r hr => (h.ns r hr).2.1) l hl
  omega
theorem row_push {n : Int} {m : Int} : ∀ {rs : List (List Int)} {i k : Nat} {r : List Int}, (∀ r ∈ rs, ∀ t ∈ r, 0 ≤ t ∧ t < m) → rs[k]? = some r →
    rowOf (pushedFrom n i rs) (n + (i : Int) + (k : Int)) = r
  | [], _, _, _, _, e => by simp at e
  | a :: rs, i, 0, r, h, e => by
    obtain rfl : a = r := by simpa using e
    simp only [pushedFrom]
    rw [rowOf_app, show n + (i : Int) + ((0 : Nat) : Int) = n + (i : Int) by omega, rowOf_pushedAt, rowOf_none, List.append_nil]
    intro l hl
    have := pushed_ok (fun z hz => h z (List.mem_cons_of_mem _ hz)) l hl
    omega
  | a :: rs, i, k + 1, r, h, e => by
    simp only [pushedFrom]
    rw [rowOf_app, rowOf_none, List.nil_append]
    · have ih := row_push (n := n) (i := i + 1) (k := k) (r := r) (fun z hz => h z (List.mem_cons_of_mem _ hz)) (by simpa using e)
      rw [show n + (i : Int) + ((k + 1 : Nat) : Int) = n + ((i + 1 : Nat) : Int) + (k : Int) by omega]
      exact ih
    · intro l hl
      obtain ⟨t, _, rfl⟩ := List.mem_map.mp hl
      simp only
      omega
/-- a nudge's row -/
theorem row_high {u : Wb} (h : u.Ok) {k : Nat} {r : List Int} (hr : u.ns[k]? = some r) {s : Int} (hs : s = u.n + (k : Int)) : rowOf u.lines s = r := by
  subst hs
  unfold Wb.lines
  rw [rowOf_app, rowOf_none (ls := u.ps), List.nil_append]
  · have := row_push (n := u.n) (i := 0) (k := k) (fun r hr => (h.ns r hr).2.1) hr
    rw [show u.n + ((0 : Nat) : Int) + (k : Int) = u.n + (k : Int) by omega] at this
    exact this
  · intro l hl
    have := h.ps l hl
    omega
end Nw
/-! Data of webs shown, lines grouped and sorted. -/
namespace Nw
open PySem PySem.Spec PyProof.Rows L2
theorem short_small : ∀ n : Fin 64, ((PyData.shown (.int (n.val : Int))).length ≤ 8 ∧ (((n.val : Int)).natAbs.log2 < 1920) ∧ PyData.weight (.int (n.val : Int)) ≤ 6) := by decide +kernel
theorem short_int {i : Int} (h0 : 0 ≤ i) (h1 : i < 64) : (PyData.shown (.int i)).length ≤ 8 ∧ i.natAbs.log2 < 1920 ∧ PyData.weight (.int i) ≤ 6 := by
  have h := short_small ⟨i.toNat, by omega⟩
  simp only [Int.toNat_of_nonneg h0] at h
  exact h
abbrev Sm (i : Int) : Prop := 0 ≤ i ∧ i < 64
theorem sm_ints : ∀ {r : List Int}, (∀ t ∈ r, Sm t) → PyData.leavesShortAll 8 (r.map PyData.int) = true ∧ PyData.showableAll (r.map PyData.int) = true ∧ PyData.weightAll (r.map PyData.int) ≤ 7 * r.length
  | [], _ => by simp [PyData.leavesShortAll, PyData.showableAll, PyData.weightAll]
  | a :: r, h => by
    obtain ⟨h1, h2, h3⟩ := sm_ints (r := r) fun t ht => h t (List.mem_cons_of_mem _ ht)
    obtain ⟨s1, s2⟩ := h a (by simp)
    obtain ⟨g1, g2, g5⟩ := short_int s1 s2
    refine ⟨?_, ?_, ?_⟩
    · simp only [List.map_cons, PyData.leavesShortAll, PyData.leavesShort, h1, Bool.and_true, decide_eq_true_eq]
      exact g1
    · simp only [List.map_cons, PyData.showableAll, PyData.showable, h2, Bool.and_true, decide_eq_true_eq]
      exact g2
    · simp only [List.map_cons, PyData.weightAll, List.length_cons]
      omega
theorem sm_pairs : ∀ {r : List (Int × Int)}, (∀ t ∈ r, Sm t.1 ∧ Sm t.2) → PyData.leavesShortAll 8 (r.map dPair) = true ∧ PyData.showableAll (r.map dPair) = true ∧ PyData.weightAll (r.map dPair) ≤ 16 * r.length
  | [], _ => by simp [PyData.leavesShortAll, PyData.showableAll, PyData.weightAll]
  | a :: r, h => by
    obtain ⟨h1, h2, h3⟩ := sm_pairs (r := r) fun t ht => h t (List.mem_cons_of_mem _ ht)
    obtain ⟨s1, s2⟩ := h a (by simp)
    obtain ⟨g1, g2, g5⟩ := short_int s1.1 s1.2
    obtain ⟨g3, g4, g6⟩ := short_int s2.1 s2.2
    refine ⟨?_, ?_, ?_⟩
    · simp only [List.map_cons, dPair, PyData.leavesShortAll, PyData.leavesShort, h1, Bool.and_true, decide_eq_true_eq, Bool.and_eq_true]
      exact ⟨g1, g3⟩
    · simp only [List.map_cons, dPair, PyData.showableAll, PyData.showable, h2, Bool.and_true, decide_eq_true_eq, Bool.and_eq_true]
      exact ⟨g2, g4⟩
    · have e : PyData.weight (dPair a) = PyData.weight (.int a.1) + 1 + (PyData.weight (.int a.2) + 1 + 0) := by
        simp only [dPair, PyData.weight, PyData.weightAll]
      simp only [List.map_cons, PyData.weightAll, List.length_cons]
      omega
/-- what repr of a list of small ints asks -/
theorem show_ints {r : List Int} (hs : ∀ t ∈ r, Sm t) (hz : r.length ≤ 30000) : (dInts r).showable = true ∧ (dInts r).shown.length ≤ sizeLine ∧ (dInts r).depth ≤ 60 := by
  obtain ⟨h1, h2, h3⟩ := sm_ints hs
  refine ⟨?_, ?_, ?_⟩
  · simp only [dInts, PyData.showable, h2]
  · refine PyData.shown_fits (B := 8) (by omega) (by omega) ?_ ?_
    · simp only [dInts, PyData.leavesShort, h1]
    · simp only [dInts, PyData.weight]
      omega
  · have := dep_dInts r
    omega
/-- what repr of a list of pairs of small ints asks -/
theorem show_pairs {r : List (Int × Int)} (hs : ∀ t ∈ r, Sm t.1 ∧ Sm t.2) (hz : r.length ≤ 30000) : (dPairs r).showable = true ∧ (dPairs r).shown.length ≤ sizeLine ∧ (dPairs r).depth ≤ 60 := by
  obtain ⟨h1, h2, h3⟩ := sm_pairs hs
  refine ⟨?_, ?_, ?_⟩
  · simp only [dPairs, PyData.showable, h2]
  · refine PyData.shown_fits (B := 8) (by omega) (by omega) ?_ ?_
    · simp only [dPairs, PyData.leavesShort, h1]
    · simp only [dPairs, PyData.weight]
      omega
  · have := dep_dPairs r
    omega
/-! ### lines grouped -/
theorem asc_tail : ∀ {p : Int × Int} {r : List (Int × Int)}, ascB ltPr (p :: r) = true → (∀ q ∈ r, ltPr p q = true) ∧ ascB ltPr r = true
  | p, [], _ => ⟨fun q hq => (by cases hq), rfl⟩
  | p, q :: r, h => by
    simp only [ascB, Bool.and_eq_true] at h
    obtain ⟨h1, h2⟩ := asc_tail (p := q) (r := r) h.2
    refine ⟨fun z hz => ?_, h.2⟩
    rcases List.mem_cons.mp hz with rfl | hz
    · exact h.1
    · have a := ltPr_iff.mp h.1
      have b := ltPr_iff.mp (h1 z hz)
      refine ltPr_iff.mpr ?_
      omega
/-- rising lines, those of the first k sources -/
def upTo (ls : List (Int × Int)) (k : Int) : List (Int × Int) := ls.filter fun l => decide (l.1 < k)
theorem upTo_step : ∀ {ls : List (Int × Int)} (k : Int), ascB ltPr ls = true → upTo ls (k + 1) = upTo ls k ++ (rowOf ls k).map fun t => (k, t)
  | [], k, _ => rfl
  | p :: r, k, h => by
    obtain ⟨h1, h2⟩ := asc_tail h
    have ih := upTo_step (ls := r) k h2
    unfold upTo rowOf at ih ⊢
    by_cases a : p.1 < k
    · rw [List.filter_cons_of_pos (p := fun l : Int × Int => decide (l.1 < k + 1)) (by simp; omega), List.filter_cons_of_pos (p := fun l : Int × Int => decide (l.1 < k)) (by simpa using a),
        List.filter_cons_of_neg (p := fun l : Int × Int => l.1 == k) (by simp; omega), ih]
      rfl
    · have e0 : r.filter (fun l => decide (l.1 < k)) = [] := by
        refine List.filter_eq_nil_iff.mpr fun q hq => ?_
        have := ltPr_iff.mp (h1 q hq)
        simp
        omega
      rw [e0, List.nil_append] at ih
      rw [List.filter_cons_of_neg (p := fun l : Int × Int => decide (l.1 < k)) (by simpa using a), e0, List.nil_append]
      by_cases b : p.1 = k
      · rw [List.filter_cons_of_pos (p := fun l : Int × Int => decide (l.1 < k + 1)) (by simp; omega), List.filter_cons_of_pos (p := fun l : Int × Int => l.1 == k) (by simpa using b), ih, List.map_cons, List.map_cons]
        rw [← b]
      · rw [List.filter_cons_of_neg (p := fun l : Int × Int => decide (l.1 < k + 1)) (by simp; omega), List.filter_cons_of_neg (p := fun l : Int × Int => l.1 == k) (by simpa using b), ih]
theorem upTo_none {ls : List (Int × Int)} {k : Int} (h : ∀ l ∈ ls, k ≤ l.1) : upTo ls k = [] :=
  List.filter_eq_nil_iff.mpr fun l hl => by
    have := h l hl
    simp
    omega
theorem upTo_all {ls : List (Int × Int)} {k : Int} (h : ∀ l ∈ ls, l.1 < k) : upTo ls k = ls :=
  List.filter_eq_self.mpr fun l hl => by
    have := h l hl
    simp
    omega
theorem asc_pushedAt {n : Int} {i : Nat} : ∀ {r : List Int}, ascB ltIn r = true → ascB ltPr (pushedAt n i r) = true
  | [], _ => rfl
  | [x], _ => rfl
  | x :: y :: r, h => by
    simp only [ascB, Bool.and_eq_true, ltIn, decide_eq_true_eq] at h
    have ih := asc_pushedAt (n := n) (i := i) (r := y :: r) h.2
    unfold pushedAt at ih ⊢
    simp only [List.map_cons, ascB, Bool.and_eq_true] at ih ⊢
    exact ⟨ltPr_iff.mpr (.inr ⟨rfl, h.1⟩), ih⟩
theorem asc_pushed {n m : Int} : ∀ {rs : List (List Int)} {i : Nat}, (∀ r ∈ rs, (∀ t ∈ r, 0 ≤ t ∧ t < m) ∧ ascB ltIn r = true) → ascB ltPr (pushedFrom n i rs) = true
  | [], _, _ => rfl
  | r :: rs, i, h => by
    simp only [pushedFrom]
    refine asc_app (asc_pushedAt (h r (by simp)).2) (asc_pushed fun z hz => h z (List.mem_cons_of_mem _ hz)) ?_
    intro x hx y hy
    obtain ⟨t, _, rfl⟩ := List.mem_map.mp hx
    have := pushed_ok (fun z hz => (h z (List.mem_cons_of_mem _ hz)).1) y hy
    refine ltPr_iff.mpr (.inl ?_)
    simp only
    omega
theorem Wb.Ok.lines_asc {u : Wb} (h : u.Ok) : ascB ltPr u.lines = true := by
  refine asc_app h.asc (asc_pushed fun r hr => (h.ns r hr).2) ?_
  intro x hx y hy
  have a := h.ps x hx
  have b := pushed_ok (fun r hr => (h.ns r hr).2.1) y hy
  refine ltPr_iff.mpr (.inl ?_)
  omega
theorem Wb.Ok.sm {u : Wb} (h : u.Ok) : ∀ l ∈ u.lines, Sm l.1 ∧ Sm l.2 := by
  intro l hl
  have a := h.line l hl
  have b := h.hi
  have c := h.few
  refine ⟨⟨a.1.1, by omega⟩, ⟨a.2.1, by omega⟩⟩
theorem Wb.Ok.sm_row {u : Wb} (h : u.Ok) (s : Int) : ∀ t ∈ rowOf u.lines s, Sm t := by
  intro t ht
  obtain ⟨l, hl, rfl⟩ := List.mem_map.mp ht
  exact (h.sm l (List.mem_filter.mp hl).1).2
theorem Wb.Ok.sm_srcs {u : Wb} (h : u.Ok) (s : Int) : ∀ t ∈ srcsOf u.lines s, Sm t := by
  intro t ht
  obtain ⟨l, hl, rfl⟩ := List.mem_map.mp ht
  exact (h.sm l (List.mem_filter.mp hl).1).1
theorem srcs_len (ls : List (Int × Int)) (s : Int) : (srcsOf ls s).length ≤ ls.length := by
  unfold srcsOf
  rw [List.length_map]
  exact List.length_filter_le _ _
/-! ### sorted -/
/-- the two ints of a pair that is known -/
def keyOf (H : Hp) : V → Int × Int
  | .ref t => match H t with
    | some (.tup [.int a, .int b]) => (a, b)
    | _ => (0, 0)
  | _ => (0, 0)
theorem keyOf_at {H : Hp} {t : Addr} {p : Int × Int} (h : H t = some (.tup [.int p.1, .int p.2])) : keyOf H (.ref t) = p := by
  unfold keyOf
  simp only [h]
theorem keys_of {K : PySem.W.Frag} {H : Hp} : ∀ {L : List (Int × Int)} {xs : List V}, DaAll K H (L.map dPair) xs → (∀ x ∈ xs, ∃ t, x = V.ref t ∧ H t = some (.tup [.int (keyOf H x).1, .int (keyOf H x).2])) ∧ xs.map (keyOf H) = L
  | [], xs, h => by
    obtain rfl : xs = [] := h
    exact ⟨fun x hx => (by cases hx), rfl⟩
  | p :: L, xs, h => by
    obtain ⟨x, xs, rfl, ⟨a, ys, rfl, hS, z1, r1, rfl, e1, z2, r2, rfl, e2, rfl⟩, h2⟩ := h
    obtain rfl := e1
    obtain rfl := e2
    obtain ⟨g1, g2⟩ := keys_of h2
    have e := keyOf_at hS
    refine ⟨fun x hx => ?_, by rw [List.map_cons, e, g2]⟩
    rcases List.mem_cons.mp hx with rfl | hx
    · exact ⟨a, rfl, by rw [e]; exact hS⟩
    · exact g1 x hx
theorem srtd_of {k : V → Int × Int} : ∀ {xs : List V}, ascB ltPr (xs.map k) = true → SrtO.Srtd (ltP k) xs
  | [], _ => List.Pairwise.nil
  | x :: xs, h => by
    obtain ⟨h1, h2⟩ := asc_tail (p := k x) (r := xs.map k) h
    refine List.Pairwise.cons (fun y hy => ?_) (srtd_of h2)
    have a := ltPr_iff.mp (h1 (k y) (List.mem_map.mpr ⟨y, hy, rfl⟩))
    refine SrtO.lexB_no.mpr ?_
    omega
/-- sorted of what is sorted -/
theorem sorted_same {K : PySem.W.Frag} {H : Hp} {a : Addr} {xs : List V} {L : List (Int × Int)} {Q : VK} (hS : SqL K H a xs) (hA : DaAll K H (L.map dPair) xs) (ha : ascB ltPr L = true)
    (q : ∀ p, H p = none → Q (.ref p) (upd H p (.lst xs))) : rSortedPO K [.ref a] H Q := by
  obtain ⟨h1, h2⟩ := keys_of hA
  refine ⟨a, xs, keyOf H, rfl, hS, h1, fun ys p s1 s2 hp => ?_⟩
  have s3 : SrtO.Srtd (ltP (keyOf H)) xs := srtd_of (by rw [h2]; exact ha)
  rw [SrtO.stb_uniq (ltP_swo (keyOf H)) s1 s3 s2]
  exact q p hp
/-- pairs outlast what is done to a list -/
theorem pairs_wr {K : PySem.W.Frag} {H : Hp} {D : Addr} {ys : List V} {o : HO} (hD : H D = some (.lst ys)) : ∀ {L : List (Int × Int)} {acc : List V}, DaAll K H (L.map dPair) acc → DaAll K (upd H D o) (L.map dPair) acc
  | [], _, h => h
  | p :: L, acc, h => by
    obtain ⟨x, xs, rfl, ⟨a, zs, rfl, hS, z1, r1, rfl, e1, z2, r2, rfl, e2, rfl⟩, h2⟩ := h
    obtain rfl := e1
    obtain rfl := e2
    refine ⟨_, _, rfl, dPair_of ?_, pairs_wr hD h2⟩
    rw [upd_ne (fun e => by rw [e, hD] at hS; cases hS)]
    exact hS
end Nw
/-! TooLarge, made, raised, caught, and its limit read. -/
namespace PySem
namespace BigX
open PySem.W PySem.Calls PyProof.Rows PySem.HandSPX
/-! ### the text of __init__ -/
def iA (p1 p2 : Pos) : Arguments := { posonlyargs := [], args := [{ arg := "self", annotation := none, pos := p1 }, { arg := "limit", annotation := none, pos := p2 }], vararg := none, kwonlyargs := [], kw_defaults := [], kwarg := none, defaults := [] }
def iB (q1 q2 q3 q4 : Pos) : List Stmt := [.Assign [.Attribute (.Name "self" q1) "limit" q2] (.Name "limit" q3) q4]
def iS : Scope := { kind := .function, names := [(PySem.Str.ofString "self", .local), (PySem.Str.ofString "limit", .local)], isGenerator := false, isCoroutine := false, more := [] }
/-- what the written part says of TooLarge, at C, and of its __init__, at fI -/
structure BigTxt (K : Frag) (mg : Str → Option Value) (C fI : Addr) : Prop where
  gC : mg "TooLarge" = some (.ref C)
  cls : ∃ nm q N bs bm sn sub ab col dd k0 k1 k2 k3 k5, K.lookup C = some (excClassObj nm q C N bs bm true sn sub ab col dd k0 k1 k2 k3 k5 "ValueError.__new__") ∧ refsVE bm = true
  sa : findIn K (.ref C) "__setattr__" = some (some (.builtin "object.__setattr__"))
  ga : findIn K (.ref C) "__getattribute__" = some (some (.builtin "BaseException.__getattribute__"))
  gg : findIn K (.ref C) "__getattr__" = some none
  noN : findIn K (.ref C) "limit" = some none
  iC : findIn K (.ref C) "__init__" = some (some (.ref fI))
  tC : typeIn K (.ref fI) = some (.type "function")
  kC : keepIn K (.ref C) = true
  exC : subIn K (.ref C) (.type "BaseException") = some true
  tyC : typeIn K (.ref C) = some (.type "type")
  hdC : hasDictIn K C = true
  te : exmOne K (.ref C) (.ref C) = some true
  fn : ∃ (oc : Value) (od : Option Addr) (doc pm : Value) (an : Option Addr) (cdv ct : Value) (osl : Array (Option Value)) (p1 p2 q1 q2 q3 q4 : Pos),
    K.lookup fI = some ⟨oc, od, .func (fnOf "__init__" "TooLarge.__init__" (iA p1 p2) (iB q1 q2 q3 q4) iS .none .none doc pm an cdv ct), osl⟩ ∧ codeIn K cdv "TooLarge.__init__" = true
theorem one_size (v : Value) : [v].length ≤ sizeLine := by
  rw [sizeLine_eq]
  exact (by decide : 1 ≤ 16777216)
theorem kept_but {K : Frag} {h h' : Heap} {x : Addr} (X : K.In h) (hx : K.lookup x = none) (k : ∀ b o, b ≠ x → h.get? b = some o → h'.get? b = some o) : K.In h' := fun a o e =>
  k a o (fun z => by rw [z, hx] at e; cases e) (X a o e)
theorem ldC {M : Model} {s : Shared} {name : Str} {scope : Scope} {L a : Addr} {cd : Value} {m : Str → Option Value} {x : Str} {pos : Pos} {v : Value} {Q : Value → Shared → Prop} {A : Around} {E : Value → Shared → Prop} (hn : s.heap.Ns L m) (hv : m x = some v) (h : Q v s)
    (hk : scope.kind = .function := by rfl) (hl : (envOfC name scope L a cd).kindOf x = some .local := by rfl) (hd : (x == ("__debug__" : Str)) = false := by decide) :
    wpAny M A (eval (.Name x pos) (envOfC name scope L a cd)) Q E s := wpAny_Name (wpAny_loadName_local hk hl hn hv h) hd
/-- what __init__ leaves of a fresh exception at x -/
structure InitEnd (h h' : Heap) (x C dx t1 : Addr) (v : Value) : Prop where
  keep : ∀ b o, b ≠ x → h.get? b = some o → h'.get? b = some o
  obj : h'.get? x = some { cls := .ref C, dict := some dx, data := .fields #[.ref t1, .none, .none, .none, .bool false, .none] }
  dbig : h.objs.size ≤ dx
  dne : dx ≠ x
  ns : h'.Ns1 dx (fun y => if y = "limit" then some v else none)
/-- a made TooLarge -/
structure OwnMade (h h' : Heap) (e C d : Addr) (v : Value) : Prop where
  keep : ∀ b o, h.get? b = some o → h'.get? b = some o
  new : h.objs.size ≤ e
  obj : ∃ oe vs, h'.get? e = some oe ∧ oe.cls = .ref C ∧ oe.dict = some d ∧ oe.data = .fields vs ∧ vs[1]? = some .none
  dbig : h.objs.size ≤ d
  dne : d ≠ e
  ns : h'.Ns1 d (fun y => if y = "limit" then some v else none)
section
variable {prog : Program} {w : World} {A : Around} {E : Value → Shared → Prop} {R : Result → Shared → Prop} {s : Shared} {K : Frag} {mg : Str → Option Value} {C fI : Addr}
theorem big_init (T : BigTxt K mg C fI) {x t0 : Addr} {v : Value} (X : K.In s.heap) (hlim : s.heap.NoLimit) (hx : s.heap.get? x = some (excO C t0)) (hnx : K.lookup x = none) (hroom : A.depth < recursionLimit)
    (hq : ∀ h' tk dx, InitEnd s.heap h' x C dx t0 v → R (.ok (.ret .none)) { s with heap := h', toks := tk }) :
    codeAny (model prog w) A (.call (.ref fI) ⟨[.ref x, v], []⟩) R s := by
  obtain ⟨oc, od, doc, pm, an, cdv, ct, osl, p1, p2, q1, q2, q3, q4, ho, hcd⟩ := T.fn
  obtain ⟨nm, q, N, bs, bm, sn, sub, ab, col, dd, k0, k1, k2, k3, k5, hC, hbm⟩ := T.cls
  have hcl : clsIn K C = some { name := nm, bases := bs, mro := .ref C :: bm, ns := N, qualname := q, hasDict := true, slotNames := sn, subclasses := sub, abstract := ab, collection := col, hasDel := false } := by unfold clsIn; rw [hC] <;> rfl
  refine Att.call_fn (binds := [("self", .ref x), ("limit", v)]) X hlim ho hcd hroom (BindsTo.of_eq (by first | rfl | with_unfolding_all rfl)) (by first | rfl | decide | with_unfolding_all rfl) (fun s₁ IC => ?_) rfl rfl rfl
  obtain ⟨h₁, tk₁, rfl⟩ := IC.toInCall.same
  have k : ∀ b o, s.heap.get? b = some o → h₁.get? b = some o := IC.toInCall.keep
  have hn := IC.toInCall.ns
  have hxL : s.heap.objs.size ≠ x := Nat.ne_of_gt (Heap.lt_size hx)
  have X₁ : K.In h₁ := X.keeps k
  have hx₁ := k _ _ hx
  -- self.by = by
  show wpAny _ _ (execs _ _) _ _ _
  refine wpAny_execs_cons (plainObj_wpAny_Assign_Attribute ?_)
  refine ldC (v := v) hn (by first | rfl | with_unfolding_all rfl | kernel_rfl) (ldC (v := .ref x) hn (by first | rfl | with_unfolding_all rfl | kernel_rfl) ?_)
  refine set_plain X₁ (ox := excO C t0) (od := none) ⟨hx₁, rfl, rfl, trivial⟩ T.sa ?_
  refine exc_osa X₁ hx₁ hcl (show refsVE (.ref C :: bm) = true from hbm) rfl T.noN (fun h₃ tk₃ dx k₃ dn dne hx₃ hn₃ => ?_)
  show wpAny _ _ (execs _ _) _ _ _
  have z : s.heap.objs.size < h₁.objs.size := hn.lt
  exact wpAny_execs_nil (hq h₃ tk₃ dx ⟨fun b o hb e => k₃ b o hb (k b o e), hx₃, Nat.le_of_lt (Nat.lt_of_lt_of_le z dn), dne, hn₃⟩)
theorem big_made (T : BigTxt K mg C fI) {v : Value} (X : K.In s.heap) (hlim : s.heap.NoLimit) (hroom : A.depth + 1 < recursionLimit)
    (hq : ∀ h' tk e d, OwnMade s.heap h' e C d v → R (.ok (.ret (.ref e))) { s with heap := h', toks := tk }) :
    codeAny (model prog w) A (.call (.ref C) ⟨[v], []⟩) R s := by
  obtain ⟨nm, q, N, bs, bm, sn, sub, ab, col, dd, k0, k1, k2, k3, k5, hC, hbm⟩ := T.cls
  obtain ⟨hp, g, dr, tk, os⟩ := s
  have k : ∀ b o, hp.get? b = some o → ((hp.push (kdv_tup [v])).push (excO C hp.objs.size)).get? b = some o := fun b o e => Heap.get?_push_of_some _ (Heap.get?_push_of_some _ e)
  have hget : ((hp.push (kdv_tup [v])).push (excO C hp.objs.size)).get? (hp.objs.size + 1) = some (excO C hp.objs.size) := by heap_get
  have hnx : K.lookup (hp.objs.size + 1) = none := by
    cases e : K.lookup (hp.objs.size + 1) with
    | none => rfl
    | some o =>
      have z : hp.get? (hp.objs.size + 1) = some o := X _ _ e
      exact absurd (Nat.lt_of_succ_lt (Heap.lt_size z)) (Nat.lt_irrefl _)
  refine call_own F.excBase_ValueError (fun X => refsVE_contains X bm hbm) (X _ _ hC) (looks_findIn X T.iC) (fun self => bind_fn X self T.tC) (one_size v) ?_
  refine big_init (s := ⟨(hp.push (kdv_tup [v])).push (excO C hp.objs.size), g, dr, tk, os⟩) T (X.keeps k) (hlim.keeps k) hget hnx ?_ fun h' tk' dx ⟨k', hx, dn, dne, hns⟩ => ?_
  · show A.depth + 1 < recursionLimit
    exact hroom
  · have old : ∀ b o, hp.get? b = some o → h'.get? b = some o := fun b o e => k' b o (Nat.ne_of_lt (Nat.lt_succ_of_lt (Heap.lt_size e))) (k b o e)
    have z : hp.objs.size + 1 + 1 ≤ dx := by
      first
        | (simpa only [Heap.size_push] using dn)
        | exact dn
        | (have q := dn; rw [Heap.size_push, Heap.size_push] at q; exact q)
    exact ⟨rfl, hq h' tk' (hp.objs.size + 1) dx ⟨old, Nat.le_succ _, ⟨_, _, hx, rfl, rfl, rfl, rfl⟩, Nat.le_trans (Nat.le_trans (Nat.le_succ _) (Nat.le_succ _)) z, dne, hns⟩⟩
end
end BigX
end PySem
namespace L2
open PySem PySem.Spec PyProof.Rows
theorem relO_big {v : V} {v' : Value} (r : RelV v v') (f : Str) : RelO (List.lookup f [(("limit" : Str), v)]) (if f = "limit" then some v' else none) := by
  by_cases hw : f = "limit"
  · subst hw
    rw [if_pos rfl]
    have q : List.lookup ("limit" : Str) [(("limit" : Str), v)] = some v := by simp [List.lookup]
    rw [q]
    exact r
  · rw [if_neg hw]
    have qw : (f == ("limit" : Str)) = false := by simpa using hw
    have q2 : List.lookup f [(("limit" : Str), v)] = none := by simp [List.lookup, qw]
    rw [q2]
    trivial
section
variable {X : Cx} {C fI : Addr}
/-- TooLarge(e) -/
def tMkBig (C : Addr) (ta : TA) : St → Hp → XK → Prop := fun σ H Q => ta σ H fun vs H1 => ∃ v, vs = [v] ∧ ∀ d, H1 d = none → Q (.ref C) (some d) (upd H1 d (.xd [(("limit" : Str), v)]))
theorem pmk_big {a : Expr} {ta : TA} {p pos : Pos} {k : Nat} (T : PySem.BigX.BigTxt X.K X.mg C fI) (hr : Room k X.A) (ha : PA X [a] ta) (hg : Gl X "TooLarge" := by rfl)
    (he : starEach (a :: []) X.env = (false, eval a X.env) :: starEach [] X.env := by rfl) (hpl : (backTo pos (starEach [] X.env)).any (·.1) = false := by rfl) :
    PMk X (.Call (.Name "TooLarge" p) [a] [] pos) (tMkBig C ta) := by
  intro pins s σ H Q I h
  refine wpAny_Call_Name_kw (ld_glob I hg T.gC ?_)
  refine PySem.W.callWith_K (h₀ := X.base) I.ok.mod.kin T.kC (thn (ha.run pos pins s σ H _ I h) fun us s1 hh => ?_) he hpl
  obtain ⟨vs, H1, I1, r1, v, ev, q1⟩ := hh
  subst ev
  refine ⟨I1.kIn, ?_⟩
  cases r1 with
  | cons rv rn =>
    rename_i v' us'
    cases rn
    show wpAny _ _ (call (.ref C) [v']) _ _ _
    have hlim := I1.nolimit
    obtain ⟨hp, g, dr, tk, os⟩ := s1
    refine wpAny_call (PySem.BigX.big_made T I1.kIn hlim (by have := hr.dp; omega) fun h' tk' e d M => ?_)
    show MkP X pins σ Q (.ref e) ⟨h', g, dr, tk', os⟩
    obtain ⟨oe, fv, hoe, hc, hd, hdat, h1⟩ := M.obj
    have hns := M.ns
    obtain ⟨G', g1, g2⟩ := restrict h' fun b => decide (b ≠ e)
    have gk : ∀ b, b ≠ e → G'.get? b = h'.get? b := fun b hb => g1 b (decide_eq_true hb)
    have ge : G'.get? e = none := g2 e (by simp)
    have old : ∀ b o, hp.get? b = some o → G'.get? b = some o := fun b o q => (gk b (Nat.ne_of_lt (Nat.lt_of_lt_of_le (Heap.lt_size q) M.new))).trans (M.keep b o q)
    have ob : ObjOk X.prog X.w (upd H1 d (.xd [(("limit" : Str), v)])) G' d (.xd [(("limit" : Str), v)]) :=
      ⟨_, hns.at (fun o q => (gk d M.dne).trans q), fun f => relO_big rv f⟩
    have J : Inv X pins σ (upd H1 d (.xd [(("limit" : Str), v)])) ⟨G', g, dr, tk', os⟩ := I1.laid (t' := tk') old M.dbig ob
    refine ⟨e, oe, fv, ⟨G', g, dr, tk', os⟩, _, .ref C, some d, rfl, J, fun b o q => ?_, ge, hoe, ⟨hc, hd⟩, hdat, h1, ?_, rfl, I1.bare, raises_own T.exC T.tyC, q1 d (I1.hok.fresh M.dbig)⟩
    · by_cases hb : b = e
      · have q' : G'.get? b = some o := q
        rw [hb, ge] at q'; cases q'
      · exact (gk b hb).symm.trans q
    · rw [upd_ne (Ne.symm M.dne)]
      exact I1.hok.fresh M.new
/-- raise TooLarge(e) -/
def tRaiseBig (C : Addr) (W : WX) (ta : TA) : TS := fun _ σ H => tMkBig C ta σ H fun cls d H' => W cls d σ H'
theorem ps_raiseBig {a : Expr} {ta : TA} {W : WX} {p pos pos2 : Pos} {k : Nat} (hc : X.calm = true) (T : PySem.BigX.BigTxt X.K X.mg C fI) (hr : Room k X.A) (tk : Takes X W) (ha : PA X [a] ta) (hg : Gl X "TooLarge" := by rfl)
    (he : starEach (a :: []) X.env = (false, eval a X.env) :: starEach [] X.env := by rfl) (hpl : (backTo pos (starEach [] X.env)).any (·.1) = false := by rfl) :
    PS X (.Raise (some (.Call (.Name "TooLarge" p) [a] [] pos)) none pos2) (tRaiseBig C W ta) := ps_raise hc tk (pmk_big T hr ha hg he hpl)
/-- big.limit, low the exception that the suite holds (at a; its class cls, its dict d) -/
def tLimBig (C : Addr) (a : Addr) (cls : Value) (d : Option Addr) (te : TE) : TE := fun σ H Q => te σ H fun x H1 => x = .ref a ∧ cls = .ref C ∧ ∃ (dd : Addr) (v : V), d = some dd ∧ H1 dd = some (.xd [(("limit" : Str), v)]) ∧ Q v H1
theorem pe_limBig {a : Addr} {oe : Obj} {cls : Value} {d : Option Addr} {pn : List (Addr × Obj)} {e : Expr} {te : TE} {pos : Pos} (T : PySem.BigX.BigTxt X.K X.mg C fI) (hz : Zc cls d oe) (hf : ∃ vs, oe.data = .fields vs) (he : PE (X.suite a ((a, oe) :: pn)) e te)
    (hb : attributeBase e "limit" X.env (eval e X.env) = eval e X.env := by rfl) :
    PE (X.suite a ((a, oe) :: pn)) (.Attribute e "limit" pos) (tLimBig C a cls d te) := by
  refine ⟨fun pins s σ H Q I h => ?_⟩
  refine attr_of hb (thn (he.run pins s σ H _ I h) fun u s1 hh => ?_)
  obtain ⟨x, H1, I1, rx, ex, ec, dd, v, ed, ea, q⟩ := hh
  subst ex
  obtain rfl : u = Value.ref a := rx
  subst ec
  subst ed
  obtain ⟨ha, _⟩ := I1.pin (a, oe) (List.mem_append_left _ List.mem_cons_self)
  obtain ⟨vs, hd⟩ := hf
  have hx : ObjOk X.prog X.w H1 s1.heap dd (.xd [(("limit" : Str), v)]) := I1.hok dd _ ea
  obtain ⟨mA, hns, hr⟩ := hx
  obtain ⟨od, ho, hl⟩ := lookIn_ns hns
  have l : List.lookup ("limit" : Str) [(("limit" : Str), v)] = some v := by simp [List.lookup]
  obtain ⟨u, hu, ru⟩ := RelO.some_of (v := v) (o := mA "limit") (by rw [← l]; exact hr "limit")
  have J : PySem.W.InstAt s1.heap a oe C (some od) := ⟨ha, hz.1, by unfold PySem.W.notCls; rw [hd] <;> rfl, by rw [hz.2]; exact ho⟩
  exact HandSPX.exc_get I1.kIn J T.ga T.gg T.exC (PySem.W.findObj_own T.hdC T.noN rfl (by rw [hl, hu])) (handed_of ru) ⟨v, H1, I1.tok _, ru, q⟩
end
end L2
/-! Webs turned and renumbered. -/
namespace Nw
open PySem PySem.Spec PyProof.Rows L2
section
variable {X : Cx}
theorem mt_indexK (K : PySem.W.Frag) (hK : X.K = K := by rfl) : MtR X "list.index" (rIndex K) := by
  subst hK
  exact mt_index
theorem bmK (K : PySem.W.Frag) {T : String} {r : V → List V → Hp → VK → Prop} {to : TE} {t : TA} {e : Expr} (h : PE X e (tBM X.K T r to t)) (hK : X.K = K := by rfl) : PE X e (tBM K T r to t) := by
  subst hK
  exact h
theorem pe_dgetK {k : Nat} {o i : Expr} {td ty : TE} {pos : Pos} (hr : Room k X.A) (ho : PE X o td) (hi : PE X i ty) (hs : NoSl i) : PE X (.Subscript o i pos) (tDGet td ty) :=
  pe_dget (by have := hr.un; omega) ho hi hs
end
/-- what a dict comprehension's reading asks -/
theorem dc_by {J : It} {g : TG} {tt : TT} {tk tv : TE} {vs : List Nat} {σ : L2.St} {D : Addr} {H1 : Hp} {Qd : Hp → Prop}
    (n : Nat) (Pv : Nat → Hp → Prop) (h0 : Pv 0 (upd H1 D (.dK [])))
    (hgo : ∀ i H, i < n → Pv i H → J.go i H) (hst : ∀ H, Pv n H → J.stop n H)
    (hs : ∀ i H x H', i < n → Pv i H → J.yld i H x H' → g x (wipe σ vs) H' fun σ2 H2 => wipe σ2 vs = wipe σ vs ∧ tt σ2 H2 fun b H3 =>
      if b = true then tk σ2 H3 fun y H4 => tv σ2 H4 fun z H5 => ∃ kvs k, y = kV k ∧ H5 D = some (.dK kvs) ∧ kvs.length < sizeLine ∧ Pv (i + 1) (upd H5 D (.dK (putK kvs k z))) else Pv (i + 1) H3)
    (hd : ∀ H, Pv n H → Qd H) :
    ∃ W : Nat → Nat → Hp → Prop, (∃ m, W 0 m (upd H1 D (.dK []))) ∧ ∀ i m H, W i m H →
      (J.stop i H ∧ Qd H) ∨ (J.go i H ∧ ∃ Nx : Hp → Prop, (∀ H', Nx H' → ∃ m', m' < m ∧ W (i + 1) m' H') ∧ ∀ x H', J.yld i H x H' → g x (wipe σ vs) H' fun σ2 H2 => wipe σ2 vs = wipe σ vs ∧ tt σ2 H2 fun b H3 =>
        if b = true then tk σ2 H3 fun y H4 => tv σ2 H4 fun z H5 => ∃ kvs k, y = kV k ∧ H5 D = some (.dK kvs) ∧ kvs.length < sizeLine ∧ Nx (upd H5 D (.dK (putK kvs k z))) else Nx H3) := by
  refine ⟨fun i m H => m = n - i ∧ i ≤ n ∧ Pv i H, ⟨n, by omega, Nat.zero_le _, h0⟩, ?_⟩
  rintro i m H ⟨rfl, hi, p⟩
  by_cases hlt : i < n
  · refine .inr ⟨hgo i H hlt p, Pv (i + 1), fun H' p' => ⟨n - (i + 1), by omega, rfl, hlt, p'⟩, ?_⟩
    intro x H' y
    exact hs i H x H' hlt p y
  · have e : i = n := by omega
    subst e
    exact .inl ⟨hst H p, hd H p⟩
/-! ### lists told by their members -/
theorem pw_ext {α : Type} {lt : α → α → Bool} (irr : ∀ x, lt x x = false) (asym : ∀ x y, lt x y = true → lt y x = false) :
    ∀ {a b : List α}, a.Pairwise (fun x y => lt x y = true) → b.Pairwise (fun x y => lt x y = true) → (∀ x, x ∈ a ↔ x ∈ b) → a = b
  | [], [], _, _, _ => rfl
  | [], y :: b, _, _, h => by
    have := (h y).mpr (by simp)
    cases this
  | x :: a, [], _, _, h => by
    have := (h x).mp (by simp)
    cases this
  | x :: a, y :: b, ha, hb, h => by
    obtain ⟨a1, a2⟩ := List.pairwise_cons.mp ha
    obtain ⟨b1, b2⟩ := List.pairwise_cons.mp hb
    have e : x = y := by
      rcases List.mem_cons.mp ((h x).mp (by simp)) with e | hx
      · exact e
      rcases List.mem_cons.mp ((h y).mpr (by simp)) with e | hy
      · exact e.symm
      have z1 := b1 x hx
      have z2 := a1 y hy
      rw [asym _ _ z1] at z2
      cases z2
    subst e
    have nx : ∀ {l : List α}, (∀ z ∈ l, lt x z = true) → x ∉ l := fun hl hx => by
      have := hl x hx
      rw [irr] at this
      cases this
    rw [pw_ext irr asym a2 b2 fun z => ?_]
    constructor
    · intro hz
      rcases List.mem_cons.mp ((h z).mp (List.mem_cons_of_mem _ hz)) with e | hz'
      · subst e
        exact absurd hz (nx a1)
      · exact hz'
    · intro hz
      rcases List.mem_cons.mp ((h z).mpr (List.mem_cons_of_mem _ hz)) with e | hz'
      · subst e
        exact absurd hz (nx b1)
      · exact hz'
theorem ltPr_no {p q : Int × Int} (h : ¬ (p.1 < q.1 ∨ (p.1 = q.1 ∧ p.2 < q.2))) : ltPr p q = false := by
  cases e : ltPr p q with
  | false => rfl
  | true => exact absurd (ltPr_iff.mp e) h
theorem pw_asc : ∀ {l : List (Int × Int)}, ascB ltPr l = true → l.Pairwise fun x y => ltPr x y = true
  | [], _ => List.Pairwise.nil
  | x :: l, h => by
    obtain ⟨h1, h2⟩ := asc_tail h
    exact List.Pairwise.cons h1 (pw_asc h2)
theorem asc_pw {α : Type} {lt : α → α → Bool} : ∀ {l : List α}, l.Pairwise (fun x y => lt x y = true) → ascB lt l = true
  | [], _ => rfl
  | [x], _ => rfl
  | x :: y :: l, h => by
    obtain ⟨h1, h2⟩ := List.pairwise_cons.mp h
    show (lt x y && ascB lt (y :: l)) = true
    rw [h1 y (by simp), asc_pw h2]
    rfl
theorem ascI_tail : ∀ {p : Int} {r : List Int}, ascB ltIn (p :: r) = true → (∀ q ∈ r, ltIn p q = true) ∧ ascB ltIn r = true
  | p, [], _ => ⟨fun q hq => (by cases hq), rfl⟩
  | p, q :: r, h => by
    simp only [ascB, Bool.and_eq_true] at h
    obtain ⟨h1, h2⟩ := ascI_tail (p := q) (r := r) h.2
    refine ⟨fun z hz => ?_, h.2⟩
    rcases List.mem_cons.mp hz with rfl | hz
    · exact h.1
    · have a := of_decide_eq_true h.1
      have b := of_decide_eq_true (h1 z hz)
      exact decide_eq_true (by omega)
theorem pwI_asc : ∀ {l : List Int}, ascB ltIn l = true → l.Pairwise fun x y => ltIn x y = true
  | [], _ => List.Pairwise.nil
  | x :: l, h => by
    obtain ⟨h1, h2⟩ := ascI_tail h
    exact List.Pairwise.cons h1 (pwI_asc h2)
theorem asc_ext {a b : List (Int × Int)} (ha : ascB ltPr a = true) (hb : ascB ltPr b = true) (h : ∀ x, x ∈ a ↔ x ∈ b) : a = b :=
  pw_ext (fun x => ltPr_no (by omega)) (fun x y e => ltPr_no (by have := ltPr_iff.mp e; omega)) (pw_asc ha) (pw_asc hb) h
theorem ltIn_no {p q : Int} (h : ¬ p < q) : ltIn p q = false := by
  unfold ltIn
  exact decide_eq_false h
theorem ltIn_yes {p q : Int} (h : ltIn p q = true) : p < q := by
  unfold ltIn at h
  exact of_decide_eq_true h
theorem ascI_ext {a b : List Int} (ha : ascB ltIn a = true) (hb : ascB ltIn b = true) (h : ∀ x, x ∈ a ↔ x ∈ b) : a = b :=
  pw_ext (fun x => ltIn_no (by omega)) (fun x y e => ltIn_no (by have := ltIn_yes e; omega)) (pwI_asc ha) (pwI_asc hb) h
theorem nodup_asc {l : List (Int × Int)} (h : ascB ltPr l = true) : l.Nodup :=
  (pw_asc h).imp fun {a b} e n => by
    subst n
    have := ltPr_iff.mp e
    omega
theorem nodup_ascI {l : List Int} (h : ascB ltIn l = true) : l.Nodup :=
  (pwI_asc h).imp fun {a b} e n => by
    subst n
    have := of_decide_eq_true e
    omega
/-- sorted ints that are apart -/
theorem asc_sortedI {l m : List Int} (hp : m.Perm l) (hs : m.Pairwise (· ≤ ·)) (hn : l.Nodup) : ascB ltIn m = true := by
  refine asc_pw ?_
  have hm : m.Nodup := hp.nodup_iff.mpr hn
  have := hs.and hm
  exact this.imp fun {a b} h => decide_eq_true (by have := h.1; have := h.2; omega)
/-- sorted pairs that are apart -/
theorem sortedP {K : PySem.W.Frag} {H : Hp} {L : List (Int × Int)} {xs ys : List V} (hA : DaAll K H (L.map dPair) xs) (hn : L.Nodup)
    (s1 : SrtO.Srtd (ltP (keyOf H)) ys) (s2 : SrtO.Stb (ltP (keyOf H)) ys xs) : ∃ M : List (Int × Int), DaAll K H (M.map dPair) ys ∧ ascB ltPr M = true ∧ (∀ p, p ∈ M ↔ p ∈ L) ∧ M.length = L.length := by
  obtain ⟨k1, k2⟩ := keys_of hA
  have hp : (ys.map (keyOf H)).Perm L := by
    rw [← k2]
    exact s2.perm.map _
  refine ⟨ys.map (keyOf H), ?_, ?_, fun p => hp.mem_iff, hp.length_eq⟩
  · have hy : ∀ x ∈ ys, ∃ t, x = V.ref t ∧ H t = some (.tup [.int (keyOf H x).1, .int (keyOf H x).2]) := fun x hx => k1 x (s2.perm.mem_iff.mp hx)
    clear s1 s2 hp
    induction ys with
    | nil => rfl
    | cons y ys ih =>
      obtain ⟨t, rfl, ht⟩ := hy y (by simp)
      exact ⟨_, _, rfl, dPair_of ht, ih fun x hx => hy x (List.mem_cons_of_mem _ hx)⟩
  · have hm : (ys.map (keyOf H)).Nodup := hp.nodup_iff.mpr hn
    have hs : (ys.map (keyOf H)).Pairwise fun x y => SrtO.lexB y x = false := List.pairwise_map.mpr s1
    refine asc_pw ((hs.and hm).imp fun {a b} h => ltPr_iff.mpr ?_)
    have h1 := SrtO.lexB_no.mp h.1
    have h2 : ¬ (a.1 = b.1 ∧ a.2 = b.2) := fun e => h.2 (Prod.ext e.1 e.2)
    omega
/-! ### orders -/
abbrev iota (n : Int) : List Int := (List.range n.toNat).map fun i : Nat => (i : Int)
abbrev IsOrd (n : Int) (o : List Int) : Prop := o.Perm (iota n)
theorem mem_iota {n x : Int} : x ∈ iota n ↔ 0 ≤ x ∧ x < n := by
  constructor
  · intro h
    obtain ⟨i, hi, rfl⟩ := List.mem_map.mp h
    have := List.mem_range.mp hi
    omega
  · rintro ⟨h1, h2⟩
    exact List.mem_map.mpr ⟨x.toNat, List.mem_range.mpr (by omega), by omega⟩
theorem asc_iota_aux : ∀ n : Nat, ((List.range n).map fun i : Nat => (i : Int)).Pairwise fun x y => ltIn x y = true := fun n =>
  List.pairwise_map.mpr (List.pairwise_lt_range.imp fun {a b} h => decide_eq_true (by omega))
theorem asc_iota (n : Int) : ascB ltIn (iota n) = true := asc_pw (asc_iota_aux _)
theorem nodup_iota (n : Int) : (iota n).Nodup := nodup_ascI (asc_iota n)
theorem IsOrd.mem {n : Int} {o : List Int} (h : IsOrd n o) {x : Int} : x ∈ o ↔ 0 ≤ x ∧ x < n := h.mem_iff.trans mem_iota
theorem IsOrd.len {n : Int} {o : List Int} (h : IsOrd n o) : o.length = n.toNat := by
  rw [h.length_eq, List.length_map, List.length_range]
theorem IsOrd.nd {n : Int} {o : List Int} (h : IsOrd n o) : o.Nodup := h.nodup_iff.mpr (nodup_iota n)
/-- the place of a quantity in an order -/
def pl (o : List Int) (q : Int) : Int := (o.idxOf q : Int)
theorem pl_at {o : List Int} (h : o.Nodup) {i : Nat} {q : Int} (e : o[i]? = some q) : pl o q = (i : Int) := by
  obtain ⟨hi, rfl⟩ := List.getElem?_eq_some_iff.mp e
  unfold pl
  rw [h.idxOf_getElem i hi]
theorem pl_get {n : Int} {o : List Int} (h : IsOrd n o) {q : Int} (hq : 0 ≤ q ∧ q < n) : ∃ j : Nat, o[j]? = some q ∧ pl o q = (j : Int) ∧ (j : Int) < n := by
  have hm := h.mem.mpr hq
  have hl := List.idxOf_lt_length_iff.mpr hm
  refine ⟨o.idxOf q, ?_, rfl, ?_⟩
  · rw [List.getElem?_eq_getElem hl, List.getElem_idxOf]
  · have := h.len
    omega
theorem pl_lt {n : Int} {o : List Int} (h : IsOrd n o) {q : Int} (hq : 0 ≤ q ∧ q < n) : 0 ≤ pl o q ∧ pl o q < n := by
  obtain ⟨j, _, e, l⟩ := pl_get h hq
  omega
theorem pl_inj {n : Int} {o : List Int} (h : IsOrd n o) {a b : Int} (ha : 0 ≤ a ∧ a < n) (hb : 0 ≤ b ∧ b < n) (e : pl o a = pl o b) : a = b := by
  obtain ⟨j, g1, e1, _⟩ := pl_get h ha
  obtain ⟨k, g2, e2, _⟩ := pl_get h hb
  have : j = k := by omega
  subst this
  rw [g1] at g2
  exact Option.some.inj g2
theorem iota_at {n : Int} {i : Nat} (h : (i : Int) < n) : (iota n)[i]? = some (i : Int) := by
  rw [List.getElem?_map, List.getElem?_range (by omega)]
  rfl
theorem list_ext_at {α : Type} {a b : List α} (hl : a.length = b.length) (h : ∀ (i : Nat) (x : α), b[i]? = some x → a[i]? = some x) : a = b := by
  refine List.ext_getElem? fun i => ?_
  cases e : b[i]? with
  | some x => exact h i x e
  | none =>
    have := List.getElem?_eq_none_iff.mp e
    exact List.getElem?_eq_none_iff.mpr (by omega)
theorem IsOrd.back {n : Int} {o : List Int} (h : IsOrd n o) : IsOrd n ((iota n).map (pl o)) := by
  have e : o.map (pl o) = iota n := by
    refine list_ext_at (by rw [List.length_map, h.len, List.length_map, List.length_range]) fun i x hx => ?_
    have hi : (i : Int) < n := by
      obtain ⟨hi, _⟩ := List.getElem?_eq_some_iff.mp hx
      rw [List.length_map, List.length_range] at hi
      omega
    rw [iota_at hi] at hx
    obtain rfl := (Option.some.inj hx)
    have hl : i < o.length := by rw [h.len]; omega
    have := List.getElem?_eq_getElem hl
    rw [List.getElem?_map, this, Option.map_some, pl_at h.nd this]
  have p := h.map (pl o)
  rw [e] at p
  exact p.symm
theorem pl_back {n : Int} {o : List Int} (h : IsOrd n o) {q : Int} (hq : 0 ≤ q ∧ q < n) : pl ((iota n).map (pl o)) (pl o q) = q := by
  have e : ((iota n).map (pl o))[q.toNat]? = some (pl o q) := by
    rw [List.getElem?_map, iota_at (by omega), Option.map_some, Int.toNat_of_nonneg hq.1]
  rw [pl_at h.back.nd e, Int.toNat_of_nonneg hq.1]
theorem IsOrd.both {n : Int} {o s : List Int} (h : IsOrd n o) (g : IsOrd n s) : IsOrd n (s.map fun x => o.getD x.toNat 0) := by
  have e : (iota n).map (fun x => o.getD x.toNat 0) = o := by
    refine list_ext_at (by rw [List.length_map, h.len, List.length_map, List.length_range]) fun i x hx => ?_
    have hi : (i : Int) < n := by
      obtain ⟨hi, _⟩ := List.getElem?_eq_some_iff.mp hx
      rw [h.len] at hi
      omega
    rw [List.getElem?_map, iota_at hi, Option.map_some, Int.toNat_natCast, List.getD_eq_getElem?_getD, hx]
    rfl
  have p := g.map fun x => o.getD x.toNat 0
  rw [e] at p
  exact p.trans h
theorem pl_both {n : Int} {o s : List Int} (h : IsOrd n o) (g : IsOrd n s) {q : Int} (hq : 0 ≤ q ∧ q < n) : pl (s.map fun x => o.getD x.toNat 0) q = pl s (pl o q) := by
  obtain ⟨j, g1, e1, l1⟩ := pl_get h hq
  obtain ⟨k, g2, e2, l2⟩ := pl_get g (q := pl o q) (by omega)
  rw [e2]
  refine pl_at (h.both g).nd ?_
  rw [List.getElem?_map, g2, Option.map_some, e1, Int.toNat_natCast, List.getD_eq_getElem?_getD, g1]
  rfl
/-! ### webs renumbered -/
abbrev RowRen (f : Int → Int) (r s : List Int) : Prop := ∀ t, t ∈ s ↔ ∃ q ∈ r, t = f q
structure Ren (f : Int → Int) (u w : Wb) : Prop where
  n : w.n = u.n
  ps : ∀ p, p ∈ w.ps ↔ ∃ q ∈ u.ps, p = (f q.1, f q.2)
  len : w.ns.length = u.ns.length
  ns : ∀ (k : Nat) (r s : List Int), u.ns[k]? = some r → w.ns[k]? = some s → RowRen f r s
theorem Ren.uniq {f : Int → Int} {u w v : Wb} (h : Ren f u w) (g : Ren f u v) (hw : w.Ok) (hv : v.Ok) : w = v := by
  have e1 : w.n = v.n := h.n.trans g.n.symm
  have e2 : w.ps = v.ps := asc_ext hw.asc hv.asc fun x => (h.ps x).trans (g.ps x).symm
  have e3 : w.ns = v.ns := by
    refine list_ext_at (h.len.trans g.len.symm) fun i x hx => ?_
    have hi : i < u.ns.length := by
      obtain ⟨hi, _⟩ := List.getElem?_eq_some_iff.mp hx
      have := g.len
      omega
    have hy := List.getElem?_eq_getElem (l := w.ns) (i := i) (by have := h.len; omega)
    have hr := List.getElem?_eq_getElem hi
    rw [hy]
    refine congrArg some (ascI_ext (hw.ns _ (List.mem_of_getElem? hy)).2.2 (hv.ns _ (List.mem_of_getElem? hx)).2.2 fun t => ?_)
    exact (h.ns i _ _ hr hy t).trans (g.ns i _ _ hr hx t).symm
  obtain ⟨a, b, c⟩ := w
  obtain ⟨d, e, f⟩ := v
  simp only at e1 e2 e3
  rw [e1, e2, e3]
theorem Ren.comp {f g h : Int → Int} {u v w : Wb} (a : Ren f u v) (b : Ren g v w) (hu : u.Ok) (e : ∀ q, 0 ≤ q ∧ q < u.n → h q = g (f q)) : Ren h u w := by
  refine ⟨b.n.trans a.n, fun p => ?_, b.len.trans a.len, fun k r s hr hs t => ?_⟩
  · rw [b.ps]
    constructor
    · rintro ⟨q, hq, rfl⟩
      obtain ⟨z, hz, rfl⟩ := (a.ps q).mp hq
      have := hu.ps z hz
      exact ⟨z, hz, by rw [e _ this.1, e _ this.2]⟩
    · rintro ⟨z, hz, rfl⟩
      have := hu.ps z hz
      exact ⟨(f z.1, f z.2), (a.ps _).mpr ⟨z, hz, rfl⟩, by rw [e _ this.1, e _ this.2]⟩
  · have hk : k < v.ns.length := by
      obtain ⟨hi, _⟩ := List.getElem?_eq_some_iff.mp hs
      have := b.len
      omega
    have hm := List.getElem?_eq_getElem hk
    rw [b.ns k _ s hm hs]
    constructor
    · rintro ⟨q, hq, rfl⟩
      obtain ⟨z, hz, rfl⟩ := (a.ns k r _ hr hm q).mp hq
      exact ⟨z, hz, by rw [e _ ((hu.ns r (List.mem_of_getElem? hr)).2.1 z hz)]⟩
    · rintro ⟨z, hz, rfl⟩
      exact ⟨f z, (a.ns k r _ hr hm _).mpr ⟨z, hz, rfl⟩, by rw [e _ ((hu.ns r (List.mem_of_getElem? hr)).2.1 z hz)]⟩
theorem Ren.refl {h : Int → Int} {u : Wb} (hu : u.Ok) (e : ∀ q, 0 ≤ q ∧ q < u.n → h q = q) : Ren h u u := by
  refine ⟨rfl, fun p => ?_, rfl, fun k r s hr hs t => ?_⟩
  · constructor
    · intro hp
      have := hu.ps p hp
      exact ⟨p, hp, by rw [e _ this.1, e _ this.2]⟩
    · rintro ⟨z, hz, rfl⟩
      have := hu.ps z hz
      rw [e _ this.1, e _ this.2]
      exact hz
  · rw [hr] at hs
    cases hs
    have b := (hu.ns r (List.mem_of_getElem? hr)).2.1
    constructor
    · intro ht
      exact ⟨t, ht, by rw [e _ (b t ht)]⟩
    · rintro ⟨z, hz, rfl⟩
      rw [e _ (b z hz)]
      exact hz
theorem Ren.ok {n : Int} {o : List Int} {u w : Wb} (h : Ren (pl o) u w) (hu : u.Ok) (ho : IsOrd u.n o) (ha : ascB ltPr w.ps = true) (hr : ∀ r ∈ w.ns, ascB ltIn r = true) : w.Ok := by
  refine ⟨by rw [h.n]; exact hu.lo, by rw [h.n]; exact hu.hi, fun p hp => ?_, ha, by rw [h.len]; exact hu.few, fun r hr' => ?_⟩
  · obtain ⟨q, hq, rfl⟩ := (h.ps p).mp hp
    have := hu.ps q hq
    rw [h.n]
    exact ⟨pl_lt ho this.1, pl_lt ho this.2⟩
  · obtain ⟨k, hk⟩ := List.mem_iff_getElem?.mp hr'
    have hk2 : k < u.ns.length := by
      obtain ⟨hi, _⟩ := List.getElem?_eq_some_iff.mp hk
      have := h.len
      omega
    have hm := List.getElem?_eq_getElem hk2
    have hR := h.ns k _ r hm hk
    obtain ⟨z1, z2, z3⟩ := hu.ns _ (List.mem_of_getElem? hm)
    refine ⟨?_, fun t ht => ?_, hr r hr'⟩
    · intro e
      subst e
      cases hc : u.ns[k] with
      | nil => exact z1 hc
      | cons x l =>
        have := (hR (pl o x)).mpr ⟨x, by rw [hc]; simp, rfl⟩
        cases this
    · obtain ⟨q, hq, rfl⟩ := (hR t).mp ht
      rw [h.n]
      exact pl_lt ho (z2 q hq)
structure Trn (u w : Wb) : Prop where
  n : w.n = u.n
  ps : ∀ p, p ∈ w.ps ↔ (p.2, p.1) ∈ u.ps
  ns : w.ns = u.ns
theorem Trn.uniq {u w v : Wb} (h : Trn u w) (g : Trn u v) (hw : ascB ltPr w.ps = true) (hv : ascB ltPr v.ps = true) : w = v := by
  have e1 : w.n = v.n := h.n.trans g.n.symm
  have e2 : w.ps = v.ps := asc_ext hw hv fun x => (h.ps x).trans (g.ps x).symm
  have e3 : w.ns = v.ns := h.ns.trans g.ns.symm
  obtain ⟨a, b, c⟩ := w
  obtain ⟨d, e, f⟩ := v
  simp only at e1 e2 e3
  rw [e1, e2, e3]
theorem Trn.back {u w v : Wb} (h : Trn u w) (g : Trn w v) (hu : ascB ltPr u.ps = true) (hv : ascB ltPr v.ps = true) : v = u := by
  have e1 : v.n = u.n := g.n.trans h.n
  have e2 : v.ps = u.ps := asc_ext hv hu fun x => (g.ps x).trans (h.ps _)
  have e3 : v.ns = u.ns := g.ns.trans h.ns
  obtain ⟨a, b, c⟩ := v
  obtain ⟨d, e, f⟩ := u
  simp only at e1 e2 e3
  rw [e1, e2, e3]
theorem Trn.ok {u w : Wb} (h : Trn u w) (hu : u.Ok) (ha : ascB ltPr w.ps = true) : w.Ok := by
  refine ⟨by rw [h.n]; exact hu.lo, by rw [h.n]; exact hu.hi, fun p hp => ?_, ha, by rw [h.ns]; exact hu.few, ?_⟩
  · have := hu.ps _ ((h.ps p).mp hp)
    rw [h.n]
    exact ⟨this.2, this.1⟩
  · rw [h.ns, h.n]
    exact hu.ns
/-! ### whole webs shown -/
theorem sm_rows : ∀ {rs : List (List Int)}, (∀ r ∈ rs, (∀ t ∈ r, Sm t) ∧ r.length ≤ 20) → PyData.leavesShortAll 8 (rs.map dInts) = true ∧ PyData.showableAll (rs.map dInts) = true ∧ PyData.weightAll (rs.map dInts) ≤ 200 * rs.length
  | [], _ => by simp [PyData.leavesShortAll, PyData.showableAll, PyData.weightAll]
  | a :: r, h => by
    obtain ⟨h1, h2, h3⟩ := sm_rows (rs := r) fun t ht => h t (List.mem_cons_of_mem _ ht)
    obtain ⟨s1, s2⟩ := h a (by simp)
    obtain ⟨g1, g2, g3⟩ := sm_ints s1
    refine ⟨?_, ?_, ?_⟩
    · simp only [List.map_cons, dInts, PyData.leavesShortAll, PyData.leavesShort, g1, Bool.true_and]
      exact h1
    · simp only [List.map_cons, dInts, PyData.showableAll, PyData.showable, g2, Bool.true_and]
      exact h2
    · have e : PyData.weight (dInts a) = PyData.weightAll (a.map PyData.int) := by
        simp only [dInts, PyData.weight]
      simp only [List.map_cons, PyData.weightAll, List.length_cons]
      omega
theorem show_web {u : Wb} (hu : u.Ok) : u.d.showable = true ∧ u.d.shown.length ≤ sizeLine ∧ u.d.depth ≤ 60 := by
  have b1 := hu.lo
  have b2 := hu.hi
  have b3 := hu.few
  have b4 := hu.len
  obtain ⟨p1, p2, p3⟩ := sm_pairs (r := u.ps) fun t ht => by
    have := hu.ps t ht
    exact ⟨⟨this.1.1, by omega⟩, ⟨this.2.1, by omega⟩⟩
  obtain ⟨r1, r2, r3⟩ := sm_rows (rs := u.ns) fun r hr => ⟨fun t ht => by
    have := (hu.ns r hr).2.1 t ht
    exact ⟨this.1, by omega⟩, hu.row hr⟩
  obtain ⟨g1, g2, g3⟩ := short_int (i := u.n) (by omega) (by omega)
  refine ⟨?_, ?_, ?_⟩
  · simp only [Wb.d, dPairs, dRows, PyData.showable, PyData.showableAll, p2, r2, Bool.and_true, decide_eq_true_eq]
    exact g2
  · refine PyData.shown_fits (B := 8) (by omega) (by omega) ?_ ?_
    · simp only [Wb.d, dPairs, dRows, PyData.leavesShort, PyData.leavesShortAll, p1, r1, Bool.and_true, decide_eq_true_eq]
      exact g1
    · have e : u.d.weight = PyData.weight (.int u.n) + 1 + (PyData.weightAll (u.ps.map dPair) + 1 + (PyData.weightAll (u.ns.map dInts) + 1 + 0)) := by
        simp only [Wb.d, dPairs, dRows, PyData.weight, PyData.weightAll]
      omega
  · have := dep_web u
    omega
/-! ### new webs -/
/-- new rows -/
structure NewR (H H' : Hp) (ns : List (List Int)) (L : Addr) (bs : List Addr) : Prop where
  ex : Ex H H'
  new : H L = none
  at_ : H' L = some (.lst (bs.map V.ref))
  len : bs.length = ns.length
  row : ∀ (k : Nat) (b : Addr), bs[k]? = some b → (H b = none ∧ b ≠ L) ∧ ∃ r, ns[k]? = some r ∧ H' b = some (.lst (r.map V.int))
  nd : bs.Nodup
theorem rows_of {K : PySem.W.Frag} {H' : Hp} : ∀ {ns : List (List Int)} {bs : List Addr}, bs.length = ns.length → (∀ (k : Nat) (b : Addr), bs[k]? = some b → ∃ r, ns[k]? = some r ∧ H' b = some (.lst (r.map V.int)) ∧ r.length ≤ 100000) →
    DaAll K H' (ns.map dInts) (bs.map V.ref)
  | [], [], _, _ => rfl
  | [], _ :: _, h, _ => by simp at h
  | _ :: _, [], h, _ => by simp at h
  | r :: ns, b :: bs, h, g => by
    obtain ⟨r', e, h1, h2⟩ := g 0 b rfl
    obtain rfl : r = r' := by simpa using e
    exact ⟨_, _, rfl, dInts_of h1 h2, rows_of (by simpa using h) fun k b' hb => g (k + 1) b' (by simpa using hb)⟩
/-- a new web -/
structure NewW (K : PySem.W.Frag) (H H' : Hp) (w : Wb) (T L1 L2 : Addr) (xs : List V) (bs : List Addr) : Prop where
  ex : Ex H H'
  tup : H' T = some (.tup [.int w.n, .ref L1, .ref L2])
  new : H L1 = none
  at_ : H' L1 = some (.lst xs)
  ps : DaAll K H' (w.ps.map dPair) xs
  new2 : H L2 = none
  at2 : H' L2 = some (.lst (bs.map V.ref))
  len : bs.length = w.ns.length
  row : ∀ (k : Nat) (b : Addr), bs[k]? = some b → (H b = none ∧ b ≠ L2 ∧ b ≠ L1) ∧ ∃ r, w.ns[k]? = some r ∧ H' b = some (.lst (r.map V.int))
  nd : bs.Nodup
  ne : L1 ≠ L2
theorem pairs_rm {K : PySem.W.Frag} {H : Hp} {D : Addr} {ys : List V} (hD : H D = some (.lst ys)) : ∀ {L : List (Int × Int)} {acc : List V}, DaAll K H (L.map dPair) acc → DaAll K (rm H D) (L.map dPair) acc
  | [], _, h => h
  | p :: L, acc, h => by
    obtain ⟨x, xs, rfl, ⟨a, zs, rfl, hS, z1, r1, rfl, e1, z2, r2, rfl, e2, rfl⟩, h2⟩ := h
    obtain rfl := e1
    obtain rfl := e2
    refine ⟨_, _, rfl, dPair_of ?_, pairs_rm hD h2⟩
    rw [rm_ne (fun e => by rw [e, hD] at hS; cases hS)]
    exact hS
theorem NewW.da {K : PySem.W.Frag} {H H' : Hp} {w : Wb} {T L1 L2 : Addr} {xs : List V} {bs : List Addr} (h : NewW K H H' w T L1 L2 xs bs) (hw : w.Ok) : Da K H' w.d (.ref T) := by
  have l1 := hw.len
  have l2 := hw.few
  refine ⟨T, _, rfl, h.tup, _, _, rfl, rfl, _, _, rfl, ⟨L1, xs, rfl, h.at_, h.ps, by rw [List.length_map]; omega⟩, _, _, rfl, ⟨L2, _, rfl, h.at2, ?_, by rw [List.length_map]; omega⟩, rfl⟩
  refine rows_of h.len fun k b hb => ?_
  obtain ⟨_, r, e, g⟩ := h.row k b hb
  have := hw.row (List.mem_of_getElem? e)
  exact ⟨r, e, g, by omega⟩
/-- a new web has nothing to do with an old list -/
theorem NewW.off {K : PySem.W.Frag} {H H' : Hp} {w : Wb} {T L1 L2 p : Addr} {xs zs : List V} {bs : List Addr} (h : NewW K H H' w T L1 L2 xs bs) (hw : w.Ok) (hp : H p = some (.lst zs)) : Da K (rm H' p) w.d (.ref T) := by
  have hp' := h.ex _ _ hp
  have l1 := hw.len
  have l2 := hw.few
  refine ⟨T, _, rfl, ?_, _, _, rfl, rfl, _, _, rfl, ⟨L1, xs, rfl, ?_, pairs_rm hp' h.ps, by rw [List.length_map]; omega⟩, _, _, rfl, ⟨L2, bs.map V.ref, rfl, ?_, ?_, by rw [List.length_map]; omega⟩, rfl⟩
  · rw [rm_ne (fun e => by have := h.tup; rw [e, hp'] at this; cases this)]
    exact h.tup
  · rw [rm_ne (fun e => by have := h.new; rw [e, hp] at this; cases this)]
    exact h.at_
  · rw [rm_ne (fun e => by have := h.new2; rw [e, hp] at this; cases this)]
    exact h.at2
  · refine rows_of h.len fun k b hb => ?_
    obtain ⟨n, r, e, g⟩ := h.row k b hb
    have := hw.row (List.mem_of_getElem? e)
    refine ⟨r, e, ?_, by omega⟩
    rw [rm_ne (fun e => by have := n.1; rw [e, hp] at this; cases this)]
    exact g
theorem NewR.nil {H : Hp} {D : Addr} (hD : H D = none) : NewR H (upd H D (.lst [])) [] D [] :=
  ⟨Ex.nw hD, hD, upd_same, rfl, fun k b hb => by simp at hb, List.nodup_nil⟩
theorem NewR.snoc {H H1 H2 : Hp} {D l : Addr} {ss : List (List Int)} {s : List Int} {bs : List Addr} (h : NewR H H1 ss D bs) (e : Ex H1 H2) (hl : H1 l = none) (h2 : H2 l = some (.lst (s.map V.int))) :
    NewR H (upd H2 D (.lst (bs.map V.ref ++ [.ref l]))) (ss ++ [s]) D (bs ++ [l]) := by
  have lD : l ≠ D := fun x => by
    have := h.at_
    rw [← x, hl] at this
    cases this
  refine ⟨(h.ex.tr e).wr h.new, h.new, ?_, ?_, ?_, ?_⟩
  · rw [upd_same, List.map_append]
    rfl
  · rw [List.length_append, List.length_append, h.len]
    rfl
  · intro k b hb
    by_cases hk : k < bs.length
    · rw [List.getElem?_append_left hk] at hb
      obtain ⟨n1, r', n2, n3⟩ := h.row k b hb
      refine ⟨n1, r', ?_, ?_⟩
      · rw [List.getElem?_append_left (by rw [← h.len]; exact hk)]
        exact n2
      · rw [upd_ne n1.2]
        exact e _ _ n3
    · have hk' : k = bs.length := by
        obtain ⟨z, _⟩ := List.getElem?_eq_some_iff.mp hb
        rw [List.length_append, List.length_singleton] at z
        omega
      subst hk'
      rw [List.getElem?_concat_length] at hb
      cases hb
      refine ⟨⟨h.ex.fr hl, lD⟩, s, ?_, by rw [upd_ne lD]; exact h2⟩
      rw [h.len, List.getElem?_concat_length]
  · refine nodup_snoc h.nd fun hm => ?_
    obtain ⟨k, hk⟩ := List.mem_iff_getElem?.mp hm
    obtain ⟨_, r', _, h3⟩ := h.row k l hk
    rw [h3] at hl
    cases hl
theorem putK_len (kvs : List (Key × V)) (k : Key) (v : V) : (putK kvs k v).length ≤ kvs.length + 1 := by
  unfold putK
  split
  · rw [List.length_map]
    omega
  · rw [List.length_append, List.length_singleton]
    omega
/-- a dict of the places, as far as it is made -/
def PlTo (o : List Int) (i : Nat) (kvs : List (Key × V)) : Prop := kvs.length ≤ i ∧ ∀ (j : Nat) (q : Int), j < i → o[j]? = some q → valV kvs (.inl q) = some (.int (j : Int))
theorem PlTo.step {o : List Int} (hn : o.Nodup) {i : Nat} {kvs : List (Key × V)} (h : PlTo o i kvs) {q : Int} (hq : o[i]? = some q) : PlTo o (i + 1) (putK kvs (.inl q) (.int (i : Int))) := by
  refine ⟨Nat.le_trans (putK_len _ _ _) (by have := h.1; omega), fun j z hj hz => ?_⟩
  rw [valV_put]
  by_cases e : j = i
  · subst e
    rw [hq] at hz
    cases hz
    rw [if_pos rfl]
  · have ne : z ≠ q := nodup_at hn hz hq e
    rw [if_neg (fun x => ne (Sum.inl.inj x))]
    exact h.2 j z (by omega) hz
theorem PlTo.get {n : Int} {o : List Int} (ho : IsOrd n o) {kvs : List (Key × V)} (h : PlTo o o.length kvs) {q : Int} (hq : 0 ≤ q ∧ q < n) : valV kvs (.inl q) = some (.int (pl o q)) := by
  obtain ⟨j, g, e, l⟩ := pl_get ho hq
  rw [e]
  refine h.2 j q ?_ g
  obtain ⟨z, _⟩ := List.getElem?_eq_some_iff.mp g
  exact z
/-- the pairs of a web by the places -/
theorem ren_nodup {o : List Int} {u : Wb} (hu : u.Ok) (ho : IsOrd u.n o) : (u.ps.map fun q => (pl o q.1, pl o q.2)).Nodup := by
  refine (List.pairwise_map).mpr ?_
  have h := nodup_asc hu.asc
  have h2 : u.ps.Pairwise fun a b => a ∈ u.ps ∧ b ∈ u.ps ∧ a ≠ b := by
    refine List.Pairwise.imp_of_mem (fun {a b} ha hb n => ⟨ha, hb, n⟩) h
  refine h2.imp fun {a b} n e => n.2.2 ?_
  have ha := hu.ps a n.1
  have hb := hu.ps b n.2.1
  simp only [Prod.mk.injEq] at e
  exact Prod.ext (pl_inj ho ha.1 hb.1 e.1) (pl_inj ho ha.2 hb.2 e.2)
theorem row_nodup {n : Int} {o : List Int} {r : List Int} (hr : ∀ t ∈ r, 0 ≤ t ∧ t < n) (ha : ascB ltIn r = true) (ho : IsOrd n o) : (r.map (pl o)).Nodup := by
  refine (List.pairwise_map).mpr ?_
  have h2 : r.Pairwise fun a b => a ∈ r ∧ b ∈ r ∧ a ≠ b := List.Pairwise.imp_of_mem (fun {a b} ha hb n => ⟨ha, hb, n⟩) (nodup_ascI ha)
  exact h2.imp fun {a b} n e => n.2.2 (pl_inj ho (hr a n.1) (hr b n.2.1) e)
theorem row_ren {n : Int} {o : List Int} {r s : List Int} (hr : ∀ t ∈ r, 0 ≤ t ∧ t < n) (ha : ascB ltIn r = true) (ho : IsOrd n o) (hp : s.Perm (r.map (pl o))) (hw : s.Pairwise (· ≤ ·)) : ascB ltIn s = true ∧ RowRen (pl o) r s ∧ s.length = r.length := by
  refine ⟨asc_sortedI hp hw (row_nodup hr ha ho), fun t => hp.mem_iff.trans ?_, by rw [hp.length_eq, List.length_map]⟩
  rw [List.mem_map]
  constructor
  · rintro ⟨q, hq, rfl⟩
    exact ⟨q, hq, rfl⟩
  · rintro ⟨q, hq, rfl⟩
    exact ⟨q, hq, rfl⟩
theorem ren_of {o : List Int} {u : Wb} {M : List (Int × Int)} {ss : List (List Int)} (hM : ∀ p, p ∈ M ↔ p ∈ u.ps.map fun q => (pl o q.1, pl o q.2)) (hl : ss.length = u.ns.length)
    (hs : ∀ (k : Nat) (s : List Int), ss[k]? = some s → ∃ r, u.ns[k]? = some r ∧ RowRen (pl o) r s) : Ren (pl o) u ⟨u.n, M, ss⟩ := by
  refine ⟨rfl, fun p => ?_, hl, fun k r s hr hs' => ?_⟩
  · show p ∈ M ↔ _
    rw [hM, List.mem_map]
    constructor
    · rintro ⟨q, hq, rfl⟩
      exact ⟨q, hq, rfl⟩
    · rintro ⟨q, hq, rfl⟩
      exact ⟨q, hq, rfl⟩
  · obtain ⟨r', e, g⟩ := hs k s hs'
    rw [hr] at e
    cases e
    exact g
theorem pop_perm {α : Type} : ∀ {l : List α} {k : Nat} {x : α}, l[k]? = some x → (x :: l.eraseIdx k).Perm l
  | [], _, _, h => by simp at h
  | a :: l, 0, x, h => by
    obtain rfl : a = x := by simpa using h
    exact List.Perm.refl _
  | a :: l, k + 1, x, h => by
    have ih := pop_perm (l := l) (k := k) (x := x) (by simpa using h)
    rw [List.eraseIdx_cons_succ]
    exact (List.Perm.swap a x _).trans (ih.cons a)
theorem map_pop {α β : Type} (f : α → β) : ∀ (l : List α) (k : Nat), (l.map f).eraseIdx k = (l.eraseIdx k).map f
  | [], _ => rfl
  | a :: l, 0 => rfl
  | a :: l, k + 1 => by
    rw [List.map_cons, List.eraseIdx_cons_succ, List.eraseIdx_cons_succ, List.map_cons, map_pop f l k]
end Nw
/-! Calls that may raise; webs joined. -/
namespace Nw
open PySem PySem.Spec PyProof.Rows L2
/-- the class that TooLarge names -/
abbrev BigC (K : PySem.W.Frag) (C : Addr) : Prop := PySem.W.nsIn K mainGlobals "TooLarge" = some (some (.ref C))
section
variable {X : Cx} {CX : CXT} {k : Nat} {ps : List Str} {sp : Sp} {E : L2.St → XK} {x : Str} {p pos : Pos} {e : Expr} {es : List Expr} {t : TA}
theorem run_fngS {f : Addr} {fd : FuncData} {pins : List (Addr × Obj)} {σ : L2.St} {H : Hp} {s : Shared} {Q : VK} {us : List Value} {vs : List V}
    (F : FnG X.prog X.w X.K X.mg X.base CX k f fd ps sp) (hr : Room k X.A) (hgd : Quiet X.A) (hb : Binds X.K fd ps [])
    (hx : PassesAt CX X σ (E σ)) (I : Inv X pins σ H s) (r : Vals vs us) (h : sp vs H Q (E σ)) :
    wpAny (model X.prog X.w) X.A (call (.ref f) us) (EP X pins σ Q) X.xe s := by
  have hl : (us ++ ([] : List Value)).length = ps.length := by
    rw [List.append_nil, ← r.length]
    exact F.len _ _ _ _ h
  have hb2 := hb s us I.kIn hl
  rw [List.append_nil] at hb2
  refine wpAny_call (codeAny_mono (F.run X.A X.stack s H ⟨us, []⟩ us vs Q (E σ) hr hgd I.env0 hb2 r h) ?_)
  intro r s' hq
  cases r with
  | error e => exact hx pins H s e s' I hq
  | ok fl =>
    cases fl with
    | ret u => exact I.after hq
    | next => exact (show False from hq).elim
    | brk => exact (show False from hq).elim
    | cont => exact (show False from hq).elim
/-- what never raises -/
theorem passN : Passes (L2.CX X.prog X.w) X (fun _ _ _ => False) := fun pins σ H s e s' I c => takes0 e s' (XE.of_call (W := fun _ _ _ _ => False) I (fun _ _ _ h => h) c)
/-- f(e, ..) in a try -/
theorem pe_callDS (D : DefOk X.prog X.w X.K X.mg X.base CX k x ps sp) (hr : Room k X.A) (hgd : Quiet X.A) (hx : ∀ σ, PassesAt CX X σ (E σ))
    (ha : PA X (e :: es) t) (hg : Gl X x := by rfl) (hdb : (x == ("__debug__" : Str)) = false := by decide)
    (he : starEach (e :: es) X.env = (false, eval e X.env) :: starEach es X.env := by rfl)
    (hpl : (backTo pos (starEach es X.env)).any (·.1) = false := by rfl) :
    PE X (.Call (.Name x p) (e :: es) [] pos) (tCallS sp E t) := by
  obtain ⟨f, fd, F, hm, hk, hb⟩ := D.ex
  refine ⟨fun pins s σ H Q I h => ?_⟩
  refine wpAny_Call_Name_kw (ld_glob I hg hm ?_ hdb)
  refine PySem.W.callWith_K (h₀ := X.base) I.ok.mod.kin hk (thn (ha.run pos pins s σ H _ I h) ?_) he hpl
  rintro us s1 ⟨vs, H1, I1, r, q⟩
  exact ⟨I1.kIn, run_fngS F hr hgd hb (hx σ) I1 r q⟩
end
/-- an error of the class at S is what «except S» names -/
theorem exm_of {K : PySem.W.Frag} {S : Addr} (h1 : PySem.W.subIn K (.ref S) (.type "BaseException") = some true) (h2 : PySem.W.isClsIn K S = true) (h3 : PySem.W.typeIn K (.ref S) = some (.type "type")) (h4 : PySem.W.subIn K (.ref S) (.ref S) = some true) :
    PySem.W.exmOne K (.ref S) (.ref S) = some true := by
  have e1 : (PySem.W.subIn K (.ref S) (.type "BaseException") == some true) = true := by rw [h1] <;> rfl
  have e2 : ((PySem.W.clsIn K S).isSome && PySem.W.typeIn K (.ref S) == some (.type "type")) = true := by
    have h2' : (PySem.W.clsIn K S).isSome = true := h2
    rw [h2', h3] <;> rfl
  show (if (PySem.W.subIn K (.ref S) (.type "BaseException") == some true) = true then (if ((PySem.W.clsIn K S).isSome && PySem.W.typeIn K (.ref S) == some (.type "type")) = true then PySem.W.subIn K (.ref S) (.ref S) else none) else none) = some true
  rw [if_pos e1, if_pos e2]
  exact h4
theorem rangeD_map {α β : Type} (g : α → β) (d : α) (r : List α) : (List.range r.length).map (fun j => g (r.getD j d)) = (r.map g) := by
  have h := filter_range d (fun _ => true) g r
  rw [filter_true, filter_true] at h
  exact h
/-! ### webs joined -/
structure LnOk (u v : Wb) (L : List (Int × Int)) : Prop where
  r : ∀ p ∈ L, (0 ≤ p.1 ∧ p.1 < u.n) ∧ (0 ≤ p.2 ∧ p.2 < v.n)
  asc : ascB ltPr L = true
  few : L.length ≤ 400
abbrev upRow (n : Int) (r : List Int) : List Int := r.map (· + n)
structure Jn (u v : Wb) (L : List (Int × Int)) (w : Wb) : Prop where
  n : w.n = u.n + v.n
  ps : ∀ p, p ∈ w.ps ↔ p ∈ u.ps ∨ (∃ q ∈ L, p = (q.1, q.2 + u.n)) ∨ ∃ q ∈ v.ps, p = (q.1 + u.n, q.2 + u.n)
  ns : w.ns = u.ns ++ v.ns.map (upRow u.n)
theorem Jn.uniq {u v w z : Wb} {L : List (Int × Int)} (h : Jn u v L w) (g : Jn u v L z) (hw : ascB ltPr w.ps = true) (hz : ascB ltPr z.ps = true) : w = z := by
  have e1 : w.n = z.n := h.n.trans g.n.symm
  have e2 : w.ps = z.ps := asc_ext hw hz fun x => (h.ps x).trans (g.ps x).symm
  have e3 : w.ns = z.ns := h.ns.trans g.ns.symm
  obtain ⟨a, b, c⟩ := w
  obtain ⟨d, e, f⟩ := z
  simp only at e1 e2 e3
  rw [e1, e2, e3]
theorem asc_up {n : Int} : ∀ {r : List Int}, ascB ltIn r = true → ascB ltIn (upRow n r) = true
  | [], _ => rfl
  | [_], _ => rfl
  | a :: b :: r, h => by
    simp only [ascB, Bool.and_eq_true, ltIn, decide_eq_true_eq] at h
    have ih := asc_up (n := n) (r := b :: r) h.2
    simp only [upRow, List.map_cons, ascB, Bool.and_eq_true, ltIn, decide_eq_true_eq] at ih ⊢
    exact ⟨by omega, ih⟩
theorem Jn.ok {u v w : Wb} {L : List (Int × Int)} (h : Jn u v L w) (hu : u.Ok) (hv : v.Ok) (hL : LnOk u v L) (h20 : u.n + v.n ≤ 20) (h8 : u.ns.length + v.ns.length ≤ 8) (ha : ascB ltPr w.ps = true) : w.Ok := by
  have a1 := hu.lo
  have a2 := hv.lo
  refine ⟨by rw [h.n]; omega, by rw [h.n]; omega, fun p hp => ?_, ha, ?_, fun r hr => ?_⟩
  · rw [h.n]
    rcases (h.ps p).mp hp with hp | ⟨q, hq, rfl⟩ | ⟨q, hq, rfl⟩
    · have := hu.ps p hp
      omega
    · have := hL.r q hq
      simp only
      omega
    · have := hv.ps q hq
      simp only
      omega
  · rw [h.ns, List.length_append, List.length_map]
    exact h8
  · rw [h.ns] at hr
    rw [h.n]
    rcases List.mem_append.mp hr with hr | hr
    · obtain ⟨z1, z2, z3⟩ := hu.ns r hr
      exact ⟨z1, fun t ht => by have := z2 t ht; omega, z3⟩
    · obtain ⟨s, hs, rfl⟩ := List.mem_map.mp hr
      obtain ⟨z1, z2, z3⟩ := hv.ns s hs
      refine ⟨fun e => z1 (List.map_eq_nil_iff.mp e), fun t ht => ?_, asc_up z3⟩
      obtain ⟨x, hx, rfl⟩ := List.mem_map.mp ht
      have := z2 x hx
      omega
/-- the pairs ahead of sorting: apart from one another -/
theorem jn_nodup {u v : Wb} {L A B : List (Int × Int)} (hu : u.Ok) (hv : v.Ok) (hL : LnOk u v L) (hA : ∀ p, p ∈ A ↔ ∃ q ∈ L, p = (q.1, q.2 + u.n)) (hB : ∀ p, p ∈ B ↔ ∃ q ∈ v.ps, p = (q.1 + u.n, q.2 + u.n)) (nA : A.Nodup) (nB : B.Nodup) :
    (u.ps ++ A ++ B).Nodup := by
  rw [List.nodup_append, List.nodup_append]
  refine ⟨⟨nodup_asc hu.asc, nA, fun a ha b hb e => ?_⟩, nB, fun a ha b hb e => ?_⟩
  · subst e
    obtain ⟨q, hq, rfl⟩ := (hA a).mp hb
    have h1 := hu.ps _ ha
    have h2 := hL.r q hq
    simp only at h1
    omega
  · subst e
    obtain ⟨q, hq, rfl⟩ := (hB a).mp hb
    have h2 := hv.ps q hq
    rcases List.mem_append.mp ha with ha | ha
    · have h1 := hu.ps _ ha
      simp only at h1
      omega
    · obtain ⟨z, hz, e⟩ := (hA _).mp ha
      have h1 := hL.r z hz
      simp only [Prod.mk.injEq] at e
      omega
theorem nodup_link {n : Int} {L : List (Int × Int)} (h : ascB ltPr L = true) : (L.map fun q => (q.1, q.2 + n)).Nodup := by
  refine (List.pairwise_map).mpr ((nodup_asc h).imp fun {a b} ne e => ne ?_)
  simp only [Prod.mk.injEq] at e
  exact Prod.ext e.1 (by omega)
theorem nodup_move {n : Int} {L : List (Int × Int)} (h : ascB ltPr L = true) : (L.map fun q => (q.1 + n, q.2 + n)).Nodup := by
  refine (List.pairwise_map).mpr ((nodup_asc h).imp fun {a b} ne e => ne ?_)
  simp only [Prod.mk.injEq] at e
  exact Prod.ext (by omega) (by omega)
theorem jn_of {u v : Wb} {L M N : List (Int × Int)} (hM : ∀ p, p ∈ M ↔ p ∈ N) (hN : ∀ p, p ∈ N ↔ p ∈ u.ps ∨ p ∈ (L.map fun q => (q.1, q.2 + u.n)) ∨ p ∈ (v.ps.map fun q => (q.1 + u.n, q.2 + u.n))) : Jn u v L ⟨u.n + v.n, M, u.ns ++ v.ns.map (upRow u.n)⟩ := by
  refine ⟨rfl, fun p => ?_, rfl⟩
  show p ∈ M ↔ _
  rw [hM, hN]
  constructor
  · rintro (h | h | h)
    · exact .inl h
    · obtain ⟨q, hq, rfl⟩ := List.mem_map.mp h
      exact .inr (.inl ⟨q, hq, rfl⟩)
    · obtain ⟨q, hq, rfl⟩ := List.mem_map.mp h
      exact .inr (.inr ⟨q, hq, rfl⟩)
  · rintro (h | ⟨q, hq, rfl⟩ | ⟨q, hq, rfl⟩)
    · exact .inl h
    · exact .inr (.inl (List.mem_map.mpr ⟨q, hq, rfl⟩))
    · exact .inr (.inr (List.mem_map.mpr ⟨q, hq, rfl⟩))
/-- what joining gives, as data -/
def JnD (u v : Wb) (L : List (Int × Int)) (dd : PyData) : Prop :=
  (u.n + v.n > 20 ∧ dd = .int 20) ∨ (u.n + v.n ≤ 20 ∧ u.ns.length + v.ns.length > 8 ∧ dd = .int 8) ∨
    (u.n + v.n ≤ 20 ∧ u.ns.length + v.ns.length ≤ 8 ∧ ∃ w : Wb, dd = w.d ∧ w.Ok ∧ Jn u v L w)
theorem JnD.uniq {u v : Wb} {L : List (Int × Int)} {a b : PyData} (h : JnD u v L a) (g : JnD u v L b) : a = b := by
  rcases h with ⟨h1, rfl⟩ | ⟨h1, h2, rfl⟩ | ⟨h1, h2, w, rfl, h3, h4⟩
  · rcases g with ⟨g1, rfl⟩ | ⟨g1, g2, rfl⟩ | ⟨g1, g2, _⟩
    · rfl
    · omega
    · omega
  · rcases g with ⟨g1, rfl⟩ | ⟨g1, g2, rfl⟩ | ⟨g1, g2, _⟩
    · omega
    · rfl
    · omega
  · rcases g with ⟨g1, rfl⟩ | ⟨g1, g2, rfl⟩ | ⟨g1, g2, z, rfl, g3, g4⟩
    · omega
    · omega
    · rw [h4.uniq g4 h3.asc g3.asc]
theorem show_int {i : Int} (h0 : 0 ≤ i) (h1 : i < 64) : (PyData.int i).showable = true ∧ (PyData.int i).shown.length ≤ sizeLine ∧ (PyData.int i).depth ≤ 60 := by
  obtain ⟨g1, g2, _⟩ := short_int h0 h1
  refine ⟨?_, mil (Nat.le_trans g1 (by decide)), by simp [PyData.depth]⟩
  simp only [PyData.showable, decide_eq_true_eq]
  exact g2
theorem JnD.show {u v : Wb} {L : List (Int × Int)} {d : PyData} (h : JnD u v L d) : d.showable = true ∧ d.shown.length ≤ sizeLine ∧ d.depth ≤ 60 := by
  rcases h with ⟨_, rfl⟩ | ⟨_, _, rfl⟩ | ⟨_, _, w, rfl, h3, _⟩
  · exact show_int (by decide) (by decide)
  · exact show_int (by decide) (by decide)
  · exact show_web h3
theorem JnD.nd {u v : Wb} {L : List (Int × Int)} {d : PyData} (h : JnD u v L d) : d.hasDict = false := by
  rcases h with ⟨_, rfl⟩ | ⟨_, _, rfl⟩ | ⟨_, _, w, rfl, h3, _⟩
  · rfl
  · rfl
  · exact nd_of_lay (lay_web w)
/-- the three that are kept, as data -/
abbrev d3 (u v : Wb) (L : List (Int × Int)) : PyData := .list [u.d, v.d, dPairs L]
theorem web_fit {u : Wb} (hu : u.Ok) : u.d.showable = true ∧ u.d.leavesShort 8 = true ∧ u.d.weight ≤ 40000 := by
  have b1 := hu.lo
  have b2 := hu.hi
  have b3 := hu.few
  have b4 := hu.len
  obtain ⟨p1, p2, p3⟩ := sm_pairs (r := u.ps) fun t ht => by
    have := hu.ps t ht
    exact ⟨⟨this.1.1, by omega⟩, ⟨this.2.1, by omega⟩⟩
  obtain ⟨r1, r2, r3⟩ := sm_rows (rs := u.ns) fun r hr => ⟨fun t ht => by
    have := (hu.ns r hr).2.1 t ht
    exact ⟨this.1, by omega⟩, hu.row hr⟩
  obtain ⟨g1, g2, g3⟩ := short_int (i := u.n) (by omega) (by omega)
  refine ⟨?_, ?_, ?_⟩
  · simp only [Wb.d, dPairs, dRows, PyData.showable, PyData.showableAll, p2, r2, Bool.and_true, decide_eq_true_eq]
    exact g2
  · simp only [Wb.d, dPairs, dRows, PyData.leavesShort, PyData.leavesShortAll, p1, r1, Bool.and_true, decide_eq_true_eq]
    exact g1
  · have e : u.d.weight = PyData.weight (.int u.n) + 1 + (PyData.weightAll (u.ps.map dPair) + 1 + (PyData.weightAll (u.ns.map dInts) + 1 + 0)) := by
      simp only [Wb.d, dPairs, dRows, PyData.weight, PyData.weightAll]
    omega
theorem show_3 {u v : Wb} {L : List (Int × Int)} (hu : u.Ok) (hv : v.Ok) (hL : LnOk u v L) : (d3 u v L).showable = true ∧ (d3 u v L).shown.length ≤ sizeLine ∧ (d3 u v L).depth ≤ 60 := by
  have a1 := hu.hi
  have a2 := hv.hi
  have a3 := hL.few
  obtain ⟨s1, s2, s3⟩ := web_fit hu
  obtain ⟨t1, t2, t3⟩ := web_fit hv
  obtain ⟨p1, p2, p3⟩ := sm_pairs (r := L) fun t ht => by
    have := hL.r t ht
    exact ⟨⟨this.1.1, by omega⟩, ⟨this.2.1, by omega⟩⟩
  refine ⟨?_, ?_, ?_⟩
  · simp only [dPairs, PyData.showable, PyData.showableAll, s1, t1, p2, Bool.and_true]
  · refine PyData.shown_fits (B := 8) (by omega) (by omega) ?_ ?_
    · simp only [dPairs, PyData.leavesShort, PyData.leavesShortAll, s2, t2, p1, Bool.and_true]
    · have e : (d3 u v L).weight = u.d.weight + 1 + (v.d.weight + 1 + (PyData.weightAll (L.map dPair) + 1 + 0)) := by
        simp only [dPairs, PyData.weight, PyData.weightAll]
      omega
  · have e1 := dep_web u
    have e2 := dep_web v
    have e3 := dep_dPairs L
    simp only [PyData.depth, PyData.depthAll]
    omega
theorem nd_3 (u v : Wb) (L : List (Int × Int)) : (d3 u v L).hasDict = false := by
  refine nd_of_lay ?_
  simp only [PyData.canLay0, PyData.canLayAll0, lay_web, lay_dPairs, Bool.and_true]
theorem pairs_exd {K : PySem.W.Frag} {H H' : Hp} {p : Addr} {zs acc : List V} {L : List (Int × Int)} (h : DaAll K H (L.map dPair) acc) (hp : H p = some (.lst zs)) (e : ExD p H H') : DaAll K H' (L.map dPair) acc :=
  ((pairs_rm hp h).up e.rm).up rm_ex
end Nw
/-! Errors of one text, made and caught. -/
namespace Nw
open PySem PySem.Spec PyProof.Rows L2
/-- the class that a name names -/
abbrev ErrOf (K : PySem.W.Frag) (x : Str) (C : Addr) : Prop := PySem.W.nsIn K mainGlobals x = some (some (.ref C))
/-- what the written part says of an error class of one text -/
structure ErrC (K : PySem.W.Frag) (mg : Str → Option Value) (x : Str) (C : Addr) : Prop where
  gC : mg x = some (.ref C)
  xC : PySem.W.excIn K C [.type "ValueError", .type "Exception", .type "BaseException", .type "object"] "ValueError.__new__" = true
  kC : PySem.W.keepIn K (.ref C) = true
  bC : PySem.W.subIn K (.ref C) (.type "BaseException") = some true
  tC : PySem.W.typeIn K (.ref C) = some (.type "type")
  iC : PySem.W.isClsIn K C = true
  sC : PySem.W.subIn K (.ref C) (.ref C) = some true
  nC : ErrOf K x C
theorem err_uniq {K : PySem.W.Frag} {x : Str} {C D : Addr} (h : ErrOf K x C) (g : ErrOf K x D) : C = D := by
  have e := h.symm.trans g
  simp only [Option.some.injEq, Value.ref.injEq] at e
  exact e
/-- the small ints' texts fit -/
theorem small_text {i : Int} (h0 : 0 ≤ i) (h1 : i < 64) : i.natAbs.log2 < 1920 ∧ (toString i : Str).length ≤ 8 := by
  obtain ⟨g1, g2, _⟩ := short_int h0 h1
  refine ⟨g2, ?_⟩
  simpa only [PyData.shown] using g1
theorem DaAll.take {K : PySem.W.Frag} {H : Hp} : ∀ {ds : List PyData} {xs : List V} (k : Nat), DaAll K H ds xs → DaAll K H (ds.take k) (xs.take k)
  | ds, xs, 0, _ => by
    rw [List.take_zero, List.take_zero]
    rfl
  | [], xs, k + 1, h => by
    obtain rfl : xs = [] := h
    rfl
  | d :: ds, xs, k + 1, h => by
    obtain ⟨x, ys, rfl, h1, h2⟩ := h
    exact ⟨x, _, rfl, h1, DaAll.take k h2⟩
theorem DaAll.drop {K : PySem.W.Frag} {H : Hp} : ∀ {ds : List PyData} {xs : List V} (k : Nat), DaAll K H ds xs → DaAll K H (ds.drop k) (xs.drop k)
  | ds, xs, 0, h => h
  | [], xs, k + 1, h => by
    obtain rfl : xs = [] := h
    rfl
  | d :: ds, xs, k + 1, h => by
    obtain ⟨x, ys, rfl, h1, h2⟩ := h
    exact DaAll.drop k h2
theorem cut_take (xs : List V) (k : Nat) (h : k ≤ xs.length) : cutV xs none (some (k : Int)) = xs.take k := by
  unfold cutV
  rw [HT.sIx_nat, HT.sIx_none, List.drop_zero, Nat.sub_zero, Nat.min_eq_left h]
theorem cut_drop (xs : List V) (k : Nat) (h : k ≤ xs.length) : cutV xs (some (k : Int)) none = xs.drop k := by
  unfold cutV
  rw [HT.sIx_nat, HT.sIx_none, Nat.min_eq_left h]
  exact List.take_of_length_le (by rw [List.length_drop]; exact Nat.le_refl _)
theorem any_pair (ps : List (Int × Int)) (p : Int × Int) : ((ps.map dPair).any fun z => PyData.eqv z (dPair p)) = decide (p ∈ ps) := by
  rw [List.any_map]
  have e : ((fun z => PyData.eqv z (dPair p)) ∘ dPair) = fun q => decide (q = p) := funext fun q => eqv_dPair q p
  rw [e, Bool.eq_iff_iff, List.any_eq_true, decide_eq_true_eq]
  constructor
  · rintro ⟨q, hq, h⟩
    obtain rfl := of_decide_eq_true h
    exact hq
  · intro h
    exact ⟨p, h, decide_eq_true rfl⟩
theorem asc_filter {ps : List (Int × Int)} (f : Int × Int → Bool) (h : ascB ltPr ps = true) : ascB ltPr (ps.filter f) = true := asc_pw ((pw_asc h).filter f)
/-- a web with a pair more, or less -/
structure PairW (u w : Wb) (m : Int × Int → Prop) : Prop where
  n : w.n = u.n
  ns : w.ns = u.ns
  ps : ∀ p, p ∈ w.ps ↔ m p
theorem PairW.ok {u w : Wb} {m : Int × Int → Prop} (h : PairW u w m) (hu : u.Ok) (hm : ∀ p, m p → (0 ≤ p.1 ∧ p.1 < u.n) ∧ (0 ≤ p.2 ∧ p.2 < u.n)) (ha : ascB ltPr w.ps = true) : w.Ok := by
  refine ⟨by rw [h.n]; exact hu.lo, by rw [h.n]; exact hu.hi, fun p hp => ?_, ha, by rw [h.ns]; exact hu.few, ?_⟩
  · rw [h.n]
    exact hm p ((h.ps p).mp hp)
  · rw [h.ns, h.n]
    exact hu.ns
theorem PairW.uniq {u w v : Wb} {m : Int × Int → Prop} (h : PairW u w m) (g : PairW u v m) (hw : ascB ltPr w.ps = true) (hv : ascB ltPr v.ps = true) : w = v := by
  have e1 : w.n = v.n := h.n.trans g.n.symm
  have e2 : w.ps = v.ps := asc_ext hw hv fun x => (h.ps x).trans (g.ps x).symm
  have e3 : w.ns = v.ns := h.ns.trans g.ns.symm
  obtain ⟨a, b, c⟩ := w
  obtain ⟨d, e, f⟩ := v
  simp only at e1 e2 e3
  rw [e1, e2, e3]
/-- whether an error of the class D is what a clause names by C -/
theorem exm_two {K : PySem.W.Frag} {D S : Addr} {b : Bool} (h1 : PySem.W.subIn K (.ref S) (.type "BaseException") = some true) (h2 : PySem.W.isClsIn K S = true) (h3 : PySem.W.typeIn K (.ref S) = some (.type "type")) (h4 : PySem.W.subIn K (.ref D) (.ref S) = some b) :
    PySem.W.exmOne K (.ref D) (.ref S) = some b := by
  have e1 : (PySem.W.subIn K (.ref S) (.type "BaseException") == some true) = true := by
    rw [h1]
    rfl
  have e2 : ((PySem.W.clsIn K S).isSome && PySem.W.typeIn K (.ref S) == some (.type "type")) = true := by
    have h2' : (PySem.W.clsIn K S).isSome = true := h2
    rw [h2', h3]
    rfl
  unfold PySem.W.exmOne
  rw [if_pos e1]
  show (if ((PySem.W.clsIn K S).isSome && PySem.W.typeIn K (.ref S) == some (.type "type")) = true then PySem.W.subIn K (.ref D) (.ref S) else none) = some b
  rw [if_pos e2]
  exact h4
/-- the parts of a new web have nothing to do with an old list -/
theorem NewW.offs {K : PySem.W.Frag} {H H' : Hp} {w : Wb} {T L1 L2 p : Addr} {xs zs : List V} {bs : List Addr} (h : NewW K H H' w T L1 L2 xs bs) (hw : w.Ok) (hp : H p = some (.lst zs)) :
    (rm H' p) T = some (.tup [.int w.n, .ref L1, .ref L2]) ∧ Da K (rm H' p) (dPairs w.ps) (.ref L1) ∧ Da K (rm H' p) (dRows w.ns) (.ref L2) := by
  have hp' := h.ex _ _ hp
  have l1 := hw.len
  have l2 := hw.few
  refine ⟨?_, ⟨L1, xs, rfl, ?_, pairs_rm hp' h.ps, by rw [List.length_map]; omega⟩, ⟨L2, bs.map V.ref, rfl, ?_, ?_, by rw [List.length_map]; omega⟩⟩
  · rw [rm_ne (fun e => by have := h.tup; rw [e, hp'] at this; cases this)]
    exact h.tup
  · rw [rm_ne (fun e => by have := h.new; rw [e, hp] at this; cases this)]
    exact h.at_
  · rw [rm_ne (fun e => by have := h.new2; rw [e, hp] at this; cases this)]
    exact h.at2
  · refine rows_of h.len fun k b hb => ?_
    obtain ⟨n, r, e, g⟩ := h.row k b hb
    have := hw.row (List.mem_of_getElem? e)
    refine ⟨r, e, ?_, by omega⟩
    rw [rm_ne (fun e => by have := n.1; rw [e, hp] at this; cases this)]
    exact g
/-- a web of its parts -/
theorem da_web {K : PySem.W.Frag} {H : Hp} {w : Wb} {T : Addr} {x2 x3 : V} (h : H T = some (.tup [.int w.n, x2, x3])) (h2 : Da K H (dPairs w.ps) x2) (h3 : Da K H (dRows w.ns) x3) : Da K H w.d (.ref T) :=
  ⟨T, _, rfl, h, _, _, rfl, rfl, _, _, rfl, h2, _, _, rfl, h3, rfl⟩
/-- what is known, but for the lists of a new web -/
def mask (H : Hp) (L1 L2 : Addr) (bs : List Addr) : Hp := fun b => if b = L1 ∨ b = L2 ∨ b ∈ bs then none else H b
theorem mask_of {H : Hp} {L1 L2 b : Addr} {bs : List Addr} (h1 : b ≠ L1) (h2 : b ≠ L2) (h3 : b ∉ bs) : mask H L1 L2 bs b = H b := by
  unfold mask
  rw [if_neg]
  rintro (h | h | h)
  · exact h1 h
  · exact h2 h
  · exact h3 h
theorem mask_ex {H : Hp} {L1 L2 : Addr} {bs : List Addr} : Ex (mask H L1 L2 bs) H := fun b o h => by
  unfold mask at h
  split at h
  · cases h
  · exact h
/-- a new web still stands apart from all that came behind it -/
theorem NewW.mask {K : PySem.W.Frag} {H0 H' H : Hp} {w : Wb} {T L1 L2 : Addr} {xs : List V} {bs : List Addr} (h : NewW K H0 H' w T L1 L2 xs bs) (e : Ex H' H) :
    NewW K (Nw.mask H L1 L2 bs) H w T L1 L2 xs bs ∧ Ex H0 (Nw.mask H L1 L2 bs) ∧ ∀ b o, H' b = none → H b = some o → Nw.mask H L1 L2 bs b = some o := by
  have hb : ∀ b ∈ bs, H0 b = none ∧ H' b ≠ none := fun b hb => by
    obtain ⟨k, hk⟩ := List.mem_iff_getElem?.mp hb
    obtain ⟨n, r, _, g⟩ := h.row k b hk
    exact ⟨n.1, fun x => by rw [x] at g; cases g⟩
  refine ⟨⟨mask_ex, e _ _ h.tup, ?_, e _ _ h.at_, h.ps.up e, ?_, e _ _ h.at2, h.len, fun k b hk => ?_, h.nd, h.ne⟩, fun b o hb0 => ?_, fun b o hn ho => ?_⟩
  · unfold Nw.mask
    rw [if_pos (.inl rfl)]
  · unfold Nw.mask
    rw [if_pos (.inr (.inl rfl))]
  · obtain ⟨n, r, h1, h2⟩ := h.row k b hk
    refine ⟨⟨?_, n.2⟩, r, h1, e _ _ h2⟩
    unfold Nw.mask
    rw [if_pos (.inr (.inr (List.mem_of_getElem? hk)))]
  · rw [mask_of (fun x => by have := h.new; rw [← x, hb0] at this; cases this) (fun x => by have := h.new2; rw [← x, hb0] at this; cases this) (fun x => by have := (hb b x).1; rw [hb0] at this; cases this)]
    exact e _ _ (h.ex _ _ hb0)
  · rw [mask_of (fun x => by have := h.at_; rw [← x, hn] at this; cases this) (fun x => by have := h.at2; rw [← x, hn] at this; cases this) (fun x => (hb b x).2 hn)]
    exact ho
theorem pairs_mask {K : PySem.W.Frag} {H : Hp} {L1 L2 : Addr} {bs : List Addr} (hl : ∀ b, b = L1 ∨ b = L2 ∨ b ∈ bs → ∃ ys, H b = some (.lst ys)) : ∀ {L : List (Int × Int)} {acc : List V}, DaAll K H (L.map dPair) acc → DaAll K (mask H L1 L2 bs) (L.map dPair) acc
  | [], _, h => h
  | p :: L, acc, h => by
    obtain ⟨x, xs, rfl, ⟨a, zs, rfl, hS, z1, r1, rfl, e1, z2, r2, rfl, e2, rfl⟩, h2⟩ := h
    obtain rfl := e1
    obtain rfl := e2
    refine ⟨_, _, rfl, dPair_of ?_, pairs_mask hl h2⟩
    unfold mask
    rw [if_neg]
    · exact hS
    · intro hm
      obtain ⟨ys, hy⟩ := hl a hm
      rw [hS] at hy
      cases hy
theorem NewW.lists {K : PySem.W.Frag} {H0 H' H : Hp} {w : Wb} {T L1 L2 : Addr} {xs : List V} {bs : List Addr} (h : NewW K H0 H' w T L1 L2 xs bs) (e : Ex H' H) : ∀ b, b = L1 ∨ b = L2 ∨ b ∈ bs → ∃ ys, H b = some (.lst ys) := by
  rintro b (rfl | rfl | hb)
  · exact ⟨_, e _ _ h.at_⟩
  · exact ⟨_, e _ _ h.at2⟩
  · obtain ⟨k, hk⟩ := List.mem_iff_getElem?.mp hb
    obtain ⟨_, r, _, g⟩ := h.row k b hk
    exact ⟨_, e _ _ g⟩
end Nw
/-! Errors that are kept beyond their except suite. -/
namespace Nw
open PySem PySem.Spec PyProof.Rows L2
/-- an exception's object of the class cls, with the dict d, at a -/
def ExK (cls : Value) (d : Option Addr) (a : Addr) : HO := .ext fun h => ∃ (oe : Obj) (vs : Array Value), h.get? a = some oe ∧ Zc cls d oe ∧ oe.data = .fields vs
theorem exK_ok {P : Program} {w : World} {H : Hp} {h : Heap} {a : Addr} {cls : Value} {d : Option Addr} {oe : Obj} {vs : Array Value} (e : h.get? a = some oe) (z : Zc cls d oe) (k : oe.data = .fields vs) : ObjOk P w H h a (ExK cls d a) :=
  ⟨⟨oe, vs, e, z, k⟩, ⟨oe, e⟩, fun _ _ ⟨o, v, q, r⟩ m => ⟨o, v, m o q, r⟩⟩
section
variable {X : Cx} {pins : List (Addr × Obj)} {σ : L2.St} {H : Hp} {s : Shared}
/-- what was pinned is tracked from now on -/
theorem inv_track {a : Addr} {oe : Obj} {cls : Value} {d : Option Addr} (I : Inv X ((a, oe) :: pins) σ H s) (hz : Zc cls d oe) (hf : ∃ vs, oe.data = .fields vs)
    (hn : X.s_0.heap.get? a = none) (ha : ∀ p ∈ X.pn ++ pins, p.1 ≠ a) : Inv X pins σ (upd H a (ExK cls d a)) s := by
  obtain ⟨g1, g2, g3, g4, g5⟩ := I.pin (a, oe) (List.mem_append_right _ List.mem_cons_self)
  obtain ⟨vs, hv⟩ := hf
  have ne0 : ∀ b o, X.s_0.heap.get? b = some o → b ≠ a := fun b o e z => by
    rw [z, hn] at e
    cases e
  have neH : ∀ b u, H b = some u → b ≠ a := fun b u e z => by
    rw [z] at e
    exact nomatch (show (none : Option HO) = some u from g2.symm.trans e)
  refine ⟨I.ok, I.os, I.bare, ⟨I.base.keep, I.base.slot, fun b o e n hx => ?_, I.base.there, fun b xs e => ?_, fun b o x e => ?_, fun b ps e => ?_⟩, I.loc, I.cell, ?_, fun x c e => ?_, fun p hp => ?_, I.hok.laidN (fun b u q => q) g2 (exK_ok g1 hz hv), I.len⟩
  · rw [upd_ne (ne0 b o e)]
    exact I.base.free b o e n hx
  · have q := I.base.tups b xs e
    rw [upd_ne (neH b _ q)]
    exact q
  · have q := I.base.frzs b o x e
    rw [upd_ne (neH b _ q)]
    exact q
  · obtain ⟨m, q⟩ := I.base.tbls b ps e
    exact ⟨m, by rw [upd_ne (neH b _ q)]; exact q⟩
  · rw [upd_ne (Ne.symm g3)]
    exact I.free
  · have ca : c ≠ a := fun z => by
      obtain ⟨v, o, ho, hd⟩ := I.cell x c e
      rw [z] at ho
      rw [show s.heap.get? a = some oe from g1] at ho
      obtain rfl := Option.some.inj ho
      exact g5 _ hd
    rw [upd_ne ca]
    exact I.freeC x c e
  · have hp' : p ∈ X.pn ++ ((a, oe) :: pins) := by
      rcases List.mem_append.mp hp with h | h
      · exact List.mem_append_left _ h
      · exact List.mem_append_right _ (List.mem_cons_of_mem _ h)
    obtain ⟨k1, k2, k3⟩ := I.pin p hp'
    exact ⟨k1, by rw [upd_ne (ha p hp)]; exact k2, k3⟩
/-- the suite ends, its exception stays pinned -/
theorem inv_keepPin {a : Addr} {oe : Obj} (I : Inv (X.suite a ((a, oe) :: (X.pn ++ pins))) [] σ H s) (ok : X.Ok) : Inv X ((a, oe) :: pins) σ H s :=
  ⟨ok, I.os, I.bare, I.base, I.loc, I.cell, I.free, I.freeC, fun p hp => I.pin p (by
    rw [List.append_nil]
    rcases List.mem_append.mp hp with h | h
    · exact List.mem_cons_of_mem _ (List.mem_append_left _ h)
    · rcases List.mem_cons.mp h with rfl | h
      · exact List.mem_cons_self
      · exact List.mem_cons_of_mem _ (List.mem_append_right _ h)), I.hok, I.len⟩
end
/-- what the clause «except x as n» wishes, when its suite only goes on, and the error is kept; slot i is n's -/
def wKp (K : PySem.W.Frag) (c : Value) (i : Nat) (ts : Addr → Value → Option Addr → TS) (Wout : WX) (D : Ends) : WX := fun cls d σ H =>
  ∃ b, PySem.W.exmOne K cls c = some b ∧
    (b = true → ∀ a, H a = none → ts a cls d ⟨fun σ' H' => D.nx (σ'.set i none) (upd H' a (ExK cls d a)), fun _ _ => False, fun _ _ => False, fun _ _ => False⟩ (σ.set i (some (.ref a))) H) ∧ (b = false → Wout cls d σ H)
section
variable {X : Cx} {x n : Str} {c : Value} {i : Nat} {bd sb : List Stmt} {b₀ : Stmt} {np p1 p2 : Pos} {tb : WX → TS} {ts : Addr → Value → Option Addr → TS} {Wout : WX}
theorem ps_try_kp (stk : X.stack = X.env :: X.outer) (frm : X.env.frame = some X.env.locals) (nox : X.ex = []) (nod : X.N.Nodup) (slot : X.N[i]? = some n) (lcl : X.env.kindOf n = some .local) (nm : Names X x c) (out : Takes X Wout)
    (inner : ∀ (W : WX) (pn : List (Addr × Obj)) (xe : Value → Shared → Prop), Takes (X.tr pn xe) W → PassesOwn (model X.prog X.w) X.A X.env xe → PSs (X.tr pn xe) bd (tb W))
    (suit : ∀ (a : Addr) (oe : Obj) (cls : Value) (d : Option Addr) (pn : List (Addr × Obj)), Zc cls d oe → (∃ vs, oe.data = .fields vs) → PSs (X.suite a ((a, oe) :: pn)) (b₀ :: sb) (ts a cls d)) :
    PS X (.Try bd [.ExceptHandler (some (.Name x np)) (some n) (b₀ :: sb) p1] [] [] p2) (fun D σ H => tb (wKp X.K c i ts Wout D) D σ H) := by
  refine ⟨fun pins s0 σ0 H0 D I0 wish => ?_⟩
  have okX := I0.ok
  have frs2 : X.A.frames = some (X.env :: X.outer) := by rw [okX.frames, stk]
  refine wpAny_Try_except (wpAny_mono ((inner (wKp X.K c i ts Wout D) (X.pn ++ pins) (fun er z1 => wpAny (model X.prog X.w) X.A (noteFrame er X.env) (fun _ z2 => wpAny (model X.prog X.w) X.A (setFlight er none) (fun _ z3 =>
    wpAny (model X.prog X.w) X.A (handleBy er X.env [.ExceptHandler (some (.Name x np)) (some n) (b₀ :: sb) p1]) (SP X pins D) X.xe z3) X.xe z2) X.xe z1) (fun u t hu => ?_) PassesOwn.looking).run [] s0 σ0 H0 D (I0.toTry _) wish) (fun fl t hfl => ?_) (fun _ _ he => he))
  · obtain ⟨a, G, sI, pI, σ1, H1, cls, d, rfl, J0, nb, up, sky, na, hos, hag, b, hb, yes, no⟩ := hu
    have J1 : Inv X pins σ1 H1 sI := J0.ofTry okX
    have sky2 : Sky G (X.env :: X.outer) a (Zc cls d) X.env.locals t.heap := by
      rw [← stk]
      exact sky
    have Ga : G.get? a = none := by
      rcases sky2 with ⟨_, z, _⟩ | ⟨_, z, _⟩ | ⟨_, z, _⟩
      · exact z
      · exact z
      · exact z
    show wpAny (model X.prog X.w) X.A (noteFrame (.ref a) X.env) _ _ _
    refine Sky.land Zc.steady frs2 frm sky2 fun h3 fly3 up3 => ?_
    have J3 : Inv X pins σ1 H1 { t with heap := h3 } := J1.landed nb fly3.1 (up.trans up3) hos hag
    obtain ⟨o3, v3, get3, zc3, dat3⟩ := fly3.there
    have offF : a ∉ frs (X.env :: X.outer) := fun hm => by
      obtain ⟨_, o', e', hnf⟩ := fly3.2.2.1.mem hm
      rw [get3] at e'
      obtain rfl := Option.some.inj e'
      exact hnf _ dat3
    have neL : a ≠ X.env.locals := fun z => offF (List.mem_filterMap.mpr ⟨X.env, List.mem_cons_self, by rw [frm, z]⟩)
    have neF : a ∉ X.fs := fun hm => by
      obtain ⟨e, he, q⟩ := List.mem_filterMap.mp hm
      exact offF (List.mem_filterMap.mpr ⟨e, List.mem_cons_of_mem _ he, q⟩)
    -- a is new to the def, and none of what is pinned
    have n0 : X.s_0.heap.get? a = none := by
      cases e : X.s_0.heap.get? a with
      | none => rfl
      | some o =>
        exfalso
        obtain ⟨o', e'⟩ := J1.base.there a o e (by rw [nox]; exact fun z => nomatch z)
        have := nb a o' e' (by rw [stk]; exact offF)
        rw [Ga] at this
        cases this
    have pin0 : ∀ p ∈ X.pn ++ pins, p.1 ≠ a := fun p hp z => by
      obtain ⟨k1, k2, k3, k4, _⟩ := J1.pin p hp
      rw [z] at k1
      have := nb a _ k1 (by rw [stk]; exact offF)
      rw [Ga] at this
      cases this
    have S3 := J3.suite get3 dat3 na neL neF
    refine wpAny_handleBy_cons (codeAny_handlers_test ?_) (by intro q; cases q)
    have lookT : PySem.W.Looks (model X.prog X.w) h3 (typeOf (.ref a)) cls := fun A Q E z k q => wpAny_typeOf_ref (k _ _ get3) (by rw [zc3.1]; exact q)
    have lookM := PySem.W.exm_one (M := model X.prog X.w) (J3.kIn) lookT hb
    have named : ∀ {Q : Value → Shared → Prop} {E : Value → Shared → Prop}, Q c { t with heap := h3 } → wpAny (model X.prog X.w) (X.A.mark (some (.ref a))) (eval (.Name x np) X.env) Q E { t with heap := h3 } := fun {Q E} q => by
      obtain ⟨hg, hdb, hm | ⟨hm, hv, hnn⟩⟩ := nm
      · exact ld_glob (X := X.suite a ((a, o3) :: (X.pn ++ pins))) S3 hg hm q hdb
      · exact ld_blt (X := X.suite a ((a, o3) :: (X.pn ++ pins))) S3 hg hm hv q hnn hdb
    refine named (lookM.here ?_)
    cases b with
    | true =>
      refine codeAny_handlers_suite_as (HandSPX.lands_againZ fly3 fun h4 fly4 up4 => ?_)
      have J4 : Inv X pins σ1 H1 { t with heap := h4 } := J1.landed nb fly4.1 ((up.trans up3).trans up4) hos hag
      obtain ⟨o4, v4, get4, zc4, dat4⟩ := fly4.there
      refine store_ok (X := X.suite a ((a, o4) :: (X.pn ++ pins))) (v := .ref a) (J4.suite get4 dat4 na neL neF) nod slot (.inl lcl) rfl (fun s5 S5 => ?_) (.inr lcl)
      refine wpAny_mono ((suit a o4 cls d (X.pn ++ pins) zc4 ⟨_, dat4⟩).run [] s5 _ H1 _ S5 (yes rfl a na)) (fun fl s6 hs => ?_) (fun _ _ z => False.elim z)
      cases fl with
      | next =>
        obtain ⟨σ6, H6, S6, q6⟩ := hs
        exact gone_ok (inv_keepPin S6 okX) nod slot lcl fun s7 J7 => ⟨_, _, inv_track J7 zc4 ⟨_, dat4⟩ n0 pin0, q6⟩
      | brk =>
        obtain ⟨_, _, _, q6⟩ := hs
        exact q6.elim
      | cont =>
        obtain ⟨_, _, _, q6⟩ := hs
        exact q6.elim
      | ret u =>
        obtain ⟨_, _, _, _, _, q6⟩ := hs
        exact q6.elim
    | false =>
      show wpAny _ X.A (handleBy (.ref a) X.env []) _ _ _
      refine wpAny_handleBy_nil ?_
      obtain ⟨k1, k2, k3, oe, vs, T, oT, ts', he, hz, hd, h1, hr⟩ := id fly3
      unfold PySem.passOn
      refine wpAny_bind (wpAny_field he hd h1 ?_)
      rw [if_neg (show ¬ ((Value.ref T == Value.none) = true) from by simp)]
      have on : wpAny (model X.prog X.w) X.A (setFlight (.ref a) X.env.frame) (fun _ s4 => wpAny (model X.prog X.w) X.A (throw (.ref a) : Sem Flow) (SP X pins D) X.xe s4) X.xe { t with heap := h3 } := by
        rw [frm]
        refine HandSPX.setFlight_upZ fly3 fun h4 hh4 up4 => wpAny_throw (out _ _ ⟨a, G, sI, pins, σ1, H1, cls, d, rfl, J1, nb, (up.trans up3).trans up4, .inr (.inr (by rw [stk]; exact hh4)), na, hos, hag, no rfl⟩)
      first
        | exact wpAny_bind (wpAny_pure (wpAny_bind on))
        | exact wpAny_bind on
  · cases fl with
    | next =>
      obtain ⟨σ', H', J', q⟩ := hfl
      exact wpAny_execs_nil ⟨σ', H', J'.ofTry okX, q⟩
    | brk =>
      obtain ⟨σ', H', J', q⟩ := hfl
      exact ⟨σ', H', J'.ofTry okX, q⟩
    | cont =>
      obtain ⟨σ', H', J', q⟩ := hfl
      exact ⟨σ', H', J'.ofTry okX, q⟩
    | ret u =>
      obtain ⟨v, σ', H', J', r, q⟩ := hfl
      exact ⟨v, σ', H', J'.ofTry okX, r, q⟩
end
/-- isinstance(x, c), x a kept error -/
def rIsK (K : PySem.W.Frag) : List V → Hp → VK → Prop := fun xs H Q => ∃ (a D : Addr) (d : Option Addr) (c : V) (cv : Value) (b : Bool), xs = [.ref a, c] ∧ H a = some (ExK (.ref D) d a) ∧ (∀ dx, d = some dx → ∃ fs, H dx = some (.xd fs)) ∧ ExcC K D ∧
  (∀ u, RelV c u → u = cv) ∧ PySem.W.kitOne K (.ref D) cv = some b ∧ Q (.bl b) H
theorem instK {X : Cx} {pins : List (Addr × Obj)} {σ : L2.St} {H : Hp} {s : Shared} (I : Inv X pins σ H s) {a D : Addr} {d : Option Addr} (ha : H a = some (ExK (.ref D) d a)) (hd : ∀ dx, d = some dx → ∃ fs, H dx = some (.xd fs)) :
    ∃ oe od, PySem.W.InstAt s.heap a oe D od := by
  obtain ⟨⟨oe, vs, h1, ⟨h2, h3⟩, h4⟩, _⟩ := I.hok a _ ha
  have no : PySem.W.notCls oe = true := by
    unfold PySem.W.notCls
    rw [h4]
  cases d with
  | none => exact ⟨oe, none, h1, h2, no, by rw [h3]; trivial⟩
  | some dx =>
    obtain ⟨fs, e⟩ := hd dx rfl
    obtain ⟨m, ⟨o, es, ep, ho, _⟩, _⟩ := I.hok dx _ e
    exact ⟨oe, some o, h1, h2, no, by rw [h3]; exact ho⟩
theorem call_isK {X : Cx} (K : PySem.W.Frag) (hK : X.K = K := by rfl) : CallR X (.builtin "isinstance") (rIsK K) := by
  subst hK
  intro pins s σ H xs us Q I r h
  obtain ⟨a, D, d, c, cv, b, rfl, ha, hd, C, hcv, e, q⟩ := h
  cases r with
  | cons rx rr =>
    cases rr with
    | cons rt rr =>
      cases rr
      cases rx
      have ec := hcv _ rt
      subst ec
      obtain ⟨oe, od, J⟩ := instK I ha hd
      have hcl : (PySem.W.clsIn X.K D).isSome = true := by
        obtain ⟨cd, hc, _⟩ := PySem.W.any_some C.hd
        rw [hc]
        rfl
      exact PySem.W.kia_one (PySem.W.kitx_exc hcl C.hg C.hk C.hs C.ha C.hn C.ht C.hm) I.kIn J e (fun z => nomatch z) fun tk => ⟨.bl b, H, I.kept (t' := tk) fun _ _ z => z, rfl, q⟩
end Nw
/-! Errors as values: made, kept in lists, their fields read. -/
namespace PySem
namespace PlcX
open PySem.W PySem.Calls PyProof.Rows PySem.HandSPX
/-! ### the text of __init__ -/
def iA (p1 p2 : Pos) : Arguments := { posonlyargs := [], args := [{ arg := "self", annotation := none, pos := p1 }, { arg := "place", annotation := none, pos := p2 }], vararg := none, kwonlyargs := [], kw_defaults := [], kwarg := none, defaults := [] }
def iB (q1 q2 q3 q4 : Pos) : List Stmt := [.Assign [.Attribute (.Name "self" q1) "place" q2] (.Name "place" q3) q4]
def iS : Scope := { kind := .function, names := [(PySem.Str.ofString "self", .local), (PySem.Str.ofString "place", .local)], isGenerator := false, isCoroutine := false, more := [] }
/-- what the written part says of InvalidText, at C, and of its __init__, at fI -/
structure PlcTxt (K : Frag) (mg : Str → Option Value) (C fI : Addr) : Prop where
  gC : mg "InvalidText" = some (.ref C)
  cls : ∃ nm q N bs bm sn sub ab col dd k0 k1 k2 k3 k5, K.lookup C = some (excClassObj nm q C N bs bm true sn sub ab col dd k0 k1 k2 k3 k5 "ValueError.__new__") ∧ refsVE bm = true
  sa : findIn K (.ref C) "__setattr__" = some (some (.builtin "object.__setattr__"))
  ga : findIn K (.ref C) "__getattribute__" = some (some (.builtin "BaseException.__getattribute__"))
  gg : findIn K (.ref C) "__getattr__" = some none
  noN : findIn K (.ref C) "place" = some none
  iC : findIn K (.ref C) "__init__" = some (some (.ref fI))
  tC : typeIn K (.ref fI) = some (.type "function")
  kC : keepIn K (.ref C) = true
  exC : subIn K (.ref C) (.type "BaseException") = some true
  tyC : typeIn K (.ref C) = some (.type "type")
  hdC : hasDictIn K C = true
  te : exmOne K (.ref C) (.ref C) = some true
  fn : ∃ (oc : Value) (od : Option Addr) (doc pm : Value) (an : Option Addr) (cdv ct : Value) (osl : Array (Option Value)) (p1 p2 q1 q2 q3 q4 : Pos),
    K.lookup fI = some ⟨oc, od, .func (fnOf "__init__" "InvalidText.__init__" (iA p1 p2) (iB q1 q2 q3 q4) iS .none .none doc pm an cdv ct), osl⟩ ∧ codeIn K cdv "InvalidText.__init__" = true
theorem one_size (v : Value) : [v].length ≤ sizeLine := by
  rw [sizeLine_eq]
  exact (by decide : 1 ≤ 16777216)
theorem kept_but {K : Frag} {h h' : Heap} {x : Addr} (X : K.In h) (hx : K.lookup x = none) (k : ∀ b o, b ≠ x → h.get? b = some o → h'.get? b = some o) : K.In h' := fun a o e =>
  k a o (fun z => by rw [z, hx] at e; cases e) (X a o e)
theorem ldC {M : Model} {s : Shared} {name : Str} {scope : Scope} {L a : Addr} {cd : Value} {m : Str → Option Value} {x : Str} {pos : Pos} {v : Value} {Q : Value → Shared → Prop} {A : Around} {E : Value → Shared → Prop} (hn : s.heap.Ns L m) (hv : m x = some v) (h : Q v s)
    (hk : scope.kind = .function := by rfl) (hl : (envOfC name scope L a cd).kindOf x = some .local := by rfl) (hd : (x == ("__debug__" : Str)) = false := by decide) :
    wpAny M A (eval (.Name x pos) (envOfC name scope L a cd)) Q E s := wpAny_Name (wpAny_loadName_local hk hl hn hv h) hd
/-- what __init__ leaves of a fresh exception at x -/
structure InitEnd (h h' : Heap) (x C dx t1 : Addr) (v : Value) : Prop where
  keep : ∀ b o, b ≠ x → h.get? b = some o → h'.get? b = some o
  obj : h'.get? x = some { cls := .ref C, dict := some dx, data := .fields #[.ref t1, .none, .none, .none, .bool false, .none] }
  dbig : h.objs.size ≤ dx
  dne : dx ≠ x
  ns : h'.Ns1 dx (fun y => if y = "place" then some v else none)
/-- a made InvalidText -/
structure OwnMade (h h' : Heap) (e C d : Addr) (v : Value) : Prop where
  keep : ∀ b o, h.get? b = some o → h'.get? b = some o
  new : h.objs.size ≤ e
  obj : ∃ oe vs, h'.get? e = some oe ∧ oe.cls = .ref C ∧ oe.dict = some d ∧ oe.data = .fields vs ∧ vs[1]? = some .none
  dbig : h.objs.size ≤ d
  dne : d ≠ e
  ns : h'.Ns1 d (fun y => if y = "place" then some v else none)
section
variable {prog : Program} {w : World} {A : Around} {E : Value → Shared → Prop} {R : Result → Shared → Prop} {s : Shared} {K : Frag} {mg : Str → Option Value} {C fI : Addr}
theorem plc_init (T : PlcTxt K mg C fI) {x t0 : Addr} {v : Value} (X : K.In s.heap) (hlim : s.heap.NoLimit) (hx : s.heap.get? x = some (excO C t0)) (hnx : K.lookup x = none) (hroom : A.depth < recursionLimit)
    (hq : ∀ h' tk dx, InitEnd s.heap h' x C dx t0 v → R (.ok (.ret .none)) { s with heap := h', toks := tk }) :
    codeAny (model prog w) A (.call (.ref fI) ⟨[.ref x, v], []⟩) R s := by
  obtain ⟨oc, od, doc, pm, an, cdv, ct, osl, p1, p2, q1, q2, q3, q4, ho, hcd⟩ := T.fn
  obtain ⟨nm, q, N, bs, bm, sn, sub, ab, col, dd, k0, k1, k2, k3, k5, hC, hbm⟩ := T.cls
  have hcl : clsIn K C = some { name := nm, bases := bs, mro := .ref C :: bm, ns := N, qualname := q, hasDict := true, slotNames := sn, subclasses := sub, abstract := ab, collection := col, hasDel := false } := by unfold clsIn; rw [hC] <;> rfl
  refine Att.call_fn (binds := [("self", .ref x), ("place", v)]) X hlim ho hcd hroom (BindsTo.of_eq (by first | rfl | with_unfolding_all rfl)) (by first | rfl | decide | with_unfolding_all rfl) (fun s₁ IC => ?_) rfl rfl rfl
  obtain ⟨h₁, tk₁, rfl⟩ := IC.toInCall.same
  have k : ∀ b o, s.heap.get? b = some o → h₁.get? b = some o := IC.toInCall.keep
  have hn := IC.toInCall.ns
  have hxL : s.heap.objs.size ≠ x := Nat.ne_of_gt (Heap.lt_size hx)
  have X₁ : K.In h₁ := X.keeps k
  have hx₁ := k _ _ hx
  -- self.by = by
  show wpAny _ _ (execs _ _) _ _ _
  refine wpAny_execs_cons (plainObj_wpAny_Assign_Attribute ?_)
  refine ldC (v := v) hn (by first | rfl | with_unfolding_all rfl | kernel_rfl) (ldC (v := .ref x) hn (by first | rfl | with_unfolding_all rfl | kernel_rfl) ?_)
  refine set_plain X₁ (ox := excO C t0) (od := none) ⟨hx₁, rfl, rfl, trivial⟩ T.sa ?_
  refine exc_osa X₁ hx₁ hcl (show refsVE (.ref C :: bm) = true from hbm) rfl T.noN (fun h₃ tk₃ dx k₃ dn dne hx₃ hn₃ => ?_)
  show wpAny _ _ (execs _ _) _ _ _
  have z : s.heap.objs.size < h₁.objs.size := hn.lt
  exact wpAny_execs_nil (hq h₃ tk₃ dx ⟨fun b o hb e => k₃ b o hb (k b o e), hx₃, Nat.le_of_lt (Nat.lt_of_lt_of_le z dn), dne, hn₃⟩)
theorem plc_made (T : PlcTxt K mg C fI) {v : Value} (X : K.In s.heap) (hlim : s.heap.NoLimit) (hroom : A.depth + 1 < recursionLimit)
    (hq : ∀ h' tk e d, OwnMade s.heap h' e C d v → R (.ok (.ret (.ref e))) { s with heap := h', toks := tk }) :
    codeAny (model prog w) A (.call (.ref C) ⟨[v], []⟩) R s := by
  obtain ⟨nm, q, N, bs, bm, sn, sub, ab, col, dd, k0, k1, k2, k3, k5, hC, hbm⟩ := T.cls
  obtain ⟨hp, g, dr, tk, os⟩ := s
  have k : ∀ b o, hp.get? b = some o → ((hp.push (kdv_tup [v])).push (excO C hp.objs.size)).get? b = some o := fun b o e => Heap.get?_push_of_some _ (Heap.get?_push_of_some _ e)
  have hget : ((hp.push (kdv_tup [v])).push (excO C hp.objs.size)).get? (hp.objs.size + 1) = some (excO C hp.objs.size) := by heap_get
  have hnx : K.lookup (hp.objs.size + 1) = none := by
    cases e : K.lookup (hp.objs.size + 1) with
    | none => rfl
    | some o =>
      have z : hp.get? (hp.objs.size + 1) = some o := X _ _ e
      exact absurd (Nat.lt_of_succ_lt (Heap.lt_size z)) (Nat.lt_irrefl _)
  refine call_own F.excBase_ValueError (fun X => refsVE_contains X bm hbm) (X _ _ hC) (looks_findIn X T.iC) (fun self => bind_fn X self T.tC) (one_size v) ?_
  refine plc_init (s := ⟨(hp.push (kdv_tup [v])).push (excO C hp.objs.size), g, dr, tk, os⟩) T (X.keeps k) (hlim.keeps k) hget hnx ?_ fun h' tk' dx ⟨k', hx, dn, dne, hns⟩ => ?_
  · show A.depth + 1 < recursionLimit
    exact hroom
  · have old : ∀ b o, hp.get? b = some o → h'.get? b = some o := fun b o e => k' b o (Nat.ne_of_lt (Nat.lt_succ_of_lt (Heap.lt_size e))) (k b o e)
    have z : hp.objs.size + 1 + 1 ≤ dx := by
      first
        | (simpa only [Heap.size_push] using dn)
        | exact dn
        | (have q := dn; rw [Heap.size_push, Heap.size_push] at q; exact q)
    exact ⟨rfl, hq h' tk' (hp.objs.size + 1) dx ⟨old, Nat.le_succ _, ⟨_, _, hx, rfl, rfl, rfl, rfl⟩, Nat.le_trans (Nat.le_trans (Nat.le_succ _) (Nat.le_succ _)) z, dne, hns⟩⟩
end
end PlcX
end PySem
namespace L2
open PySem PySem.Spec PyProof.Rows
theorem relO_plc {v : V} {v' : Value} (r : RelV v v') (f : Str) : RelO (List.lookup f [(("place" : Str), v)]) (if f = "place" then some v' else none) := by
  by_cases hw : f = "place"
  · subst hw
    rw [if_pos rfl]
    have q : List.lookup ("place" : Str) [(("place" : Str), v)] = some v := by simp [List.lookup]
    rw [q]
    exact r
  · rw [if_neg hw]
    have qw : (f == ("place" : Str)) = false := by simpa using hw
    have q2 : List.lookup f [(("place" : Str), v)] = none := by simp [List.lookup, qw]
    rw [q2]
    trivial
section
variable {X : Cx} {C fI : Addr}
/-- InvalidText(e) -/
def tMkPlc (C : Addr) (ta : TA) : St → Hp → XK → Prop := fun σ H Q => ta σ H fun vs H1 => ∃ v, vs = [v] ∧ ∀ d, H1 d = none → Q (.ref C) (some d) (upd H1 d (.xd [(("place" : Str), v)]))
theorem pmk_plc {a : Expr} {ta : TA} {p pos : Pos} {k : Nat} (T : PySem.PlcX.PlcTxt X.K X.mg C fI) (hr : Room k X.A) (ha : PA X [a] ta) (hg : Gl X "InvalidText" := by rfl)
    (he : starEach (a :: []) X.env = (false, eval a X.env) :: starEach [] X.env := by rfl) (hpl : (backTo pos (starEach [] X.env)).any (·.1) = false := by rfl) :
    PMk X (.Call (.Name "InvalidText" p) [a] [] pos) (tMkPlc C ta) := by
  intro pins s σ H Q I h
  refine wpAny_Call_Name_kw (ld_glob I hg T.gC ?_)
  refine PySem.W.callWith_K (h₀ := X.base) I.ok.mod.kin T.kC (thn (ha.run pos pins s σ H _ I h) fun us s1 hh => ?_) he hpl
  obtain ⟨vs, H1, I1, r1, v, ev, q1⟩ := hh
  subst ev
  refine ⟨I1.kIn, ?_⟩
  cases r1 with
  | cons rv rn =>
    rename_i v' us'
    cases rn
    show wpAny _ _ (call (.ref C) [v']) _ _ _
    have hlim := I1.nolimit
    obtain ⟨hp, g, dr, tk, os⟩ := s1
    refine wpAny_call (PySem.PlcX.plc_made T I1.kIn hlim (by have := hr.dp; omega) fun h' tk' e d M => ?_)
    show MkP X pins σ Q (.ref e) ⟨h', g, dr, tk', os⟩
    obtain ⟨oe, fv, hoe, hc, hd, hdat, h1⟩ := M.obj
    have hns := M.ns
    obtain ⟨G', g1, g2⟩ := restrict h' fun b => decide (b ≠ e)
    have gk : ∀ b, b ≠ e → G'.get? b = h'.get? b := fun b hb => g1 b (decide_eq_true hb)
    have ge : G'.get? e = none := g2 e (by simp)
    have old : ∀ b o, hp.get? b = some o → G'.get? b = some o := fun b o q => (gk b (Nat.ne_of_lt (Nat.lt_of_lt_of_le (Heap.lt_size q) M.new))).trans (M.keep b o q)
    have ob : ObjOk X.prog X.w (upd H1 d (.xd [(("place" : Str), v)])) G' d (.xd [(("place" : Str), v)]) :=
      ⟨_, hns.at (fun o q => (gk d M.dne).trans q), fun f => relO_plc rv f⟩
    have J : Inv X pins σ (upd H1 d (.xd [(("place" : Str), v)])) ⟨G', g, dr, tk', os⟩ := I1.laid (t' := tk') old M.dbig ob
    refine ⟨e, oe, fv, ⟨G', g, dr, tk', os⟩, _, .ref C, some d, rfl, J, fun b o q => ?_, ge, hoe, ⟨hc, hd⟩, hdat, h1, ?_, rfl, I1.bare, raises_own T.exC T.tyC, q1 d (I1.hok.fresh M.dbig)⟩
    · by_cases hb : b = e
      · have q' : G'.get? b = some o := q
        rw [hb, ge] at q'; cases q'
      · exact (gk b hb).symm.trans q
    · rw [upd_ne (Ne.symm M.dne)]
      exact I1.hok.fresh M.new
/-- TooLarge(e) as a value: a new object, tracked with its dict -/
def tBigV (C : Addr) (ta : TA) : TE := fun σ H Q => ta σ H fun vs H1 => ∃ v, vs = [v] ∧ ∀ d e, H1 d = none → H1 e = none → e ≠ d → Q (.ref e) (upd (upd H1 d (.xd [(("limit" : Str), v)])) e (Nw.ExK (.ref C) (some d) e))
theorem pe_bigV {a : Expr} {ta : TA} {p pos : Pos} {k : Nat} (T : PySem.BigX.BigTxt X.K X.mg C fI) (hr : Room k X.A) (ha : PA X [a] ta) (hg : Gl X "TooLarge" := by rfl)
    (he : starEach (a :: []) X.env = (false, eval a X.env) :: starEach [] X.env := by rfl) (hpl : (backTo pos (starEach [] X.env)).any (·.1) = false := by rfl) :
    PE X (.Call (.Name "TooLarge" p) [a] [] pos) (tBigV C ta) := by
  refine ⟨fun pins s σ H Q I h => ?_⟩
  refine wpAny_Call_Name_kw (ld_glob I hg T.gC ?_)
  refine PySem.W.callWith_K (h₀ := X.base) I.ok.mod.kin T.kC (thn (ha.run pos pins s σ H _ I h) fun us s1 hh => ?_) he hpl
  obtain ⟨vs, H1, I1, r1, v, ev, q1⟩ := hh
  subst ev
  refine ⟨I1.kIn, ?_⟩
  cases r1 with
  | cons rv rn =>
    rename_i v' us'
    cases rn
    show wpAny _ _ (call (.ref C) [v']) _ _ _
    have hlim := I1.nolimit
    obtain ⟨hp, g, dr, tk, os⟩ := s1
    refine wpAny_call (PySem.BigX.big_made T I1.kIn hlim (by have := hr.dp; omega) fun h' tk' e d M => ?_)
    obtain ⟨oe, fv, hoe, hc, hd, hdat, h1⟩ := M.obj
    have hns := M.ns
    obtain ⟨G', g1, g2⟩ := restrict h' fun b => decide (b ≠ e)
    have gk : ∀ b, b ≠ e → G'.get? b = h'.get? b := fun b hb => g1 b (decide_eq_true hb)
    have ge : G'.get? e = none := g2 e (by simp)
    have old : ∀ b o, hp.get? b = some o → G'.get? b = some o := fun b o q => (gk b (Nat.ne_of_lt (Nat.lt_of_lt_of_le (Heap.lt_size q) M.new))).trans (M.keep b o q)
    have ob : ObjOk X.prog X.w (upd H1 d (.xd [(("limit" : Str), v)])) G' d (.xd [(("limit" : Str), v)]) :=
      ⟨_, hns.at (fun o q => (gk d M.dne).trans q), fun f => relO_big rv f⟩
    have J : Inv X pins σ (upd H1 d (.xd [(("limit" : Str), v)])) ⟨G', g, dr, tk', os⟩ := I1.laid (t' := tk') old M.dbig ob
    have en : H1 e = none := I1.hok.fresh M.new
    have nn : (upd H1 d (.xd [(("limit" : Str), v)])) e = none := by
      rw [upd_ne (Ne.symm M.dne)]
      exact en
    have kk : ∀ b o, G'.get? b = some o → h'.get? b = some o := fun b o q => by
      by_cases hb : b = e
      · rw [hb, ge] at q
        cases q
      · exact (gk b hb).symm.trans q
    exact ⟨.ref e, _, J.laidN (t' := tk') kk ge nn (Nw.exK_ok hoe ⟨hc, hd⟩ hdat), rfl, q1 d e (I1.hok.fresh M.dbig) en (Ne.symm M.dne)⟩
/-- x.limit, x an error's object that is tracked -/
def tLimK (C : Addr) (te : TE) : TE := fun σ H Q => te σ H fun x H1 => ∃ (a dd : Addr) (v : V), x = .ref a ∧ H1 a = some (Nw.ExK (.ref C) (some dd) a) ∧ H1 dd = some (.xd [(("limit" : Str), v)]) ∧ Q v H1
theorem pe_limK {e : Expr} {te : TE} {pos : Pos} (T : PySem.BigX.BigTxt X.K X.mg C fI) (he : PE X e te) (hb : attributeBase e "limit" X.env (eval e X.env) = eval e X.env := by rfl) :
    PE X (.Attribute e "limit" pos) (tLimK C te) := by
  refine ⟨fun pins s σ H Q I h => ?_⟩
  refine attr_of hb (thn (he.run pins s σ H _ I h) fun u s1 hh => ?_)
  obtain ⟨x, H1, I1, rx, a, dd, v, rfl, ea, ed, q⟩ := hh
  obtain rfl : u = Value.ref a := rx
  obtain ⟨⟨oe, vs, ha, hz, hd⟩, _⟩ := I1.hok a _ ea
  have hx : ObjOk X.prog X.w H1 s1.heap dd (.xd [(("limit" : Str), v)]) := I1.hok dd _ ed
  obtain ⟨mA, hns, hr⟩ := hx
  obtain ⟨od, ho, hl⟩ := lookIn_ns hns
  have l : List.lookup ("limit" : Str) [(("limit" : Str), v)] = some v := by simp [List.lookup]
  obtain ⟨u, hu, ru⟩ := RelO.some_of (v := v) (o := mA "limit") (by rw [← l]; exact hr "limit")
  have J : PySem.W.InstAt s1.heap a oe C (some od) := ⟨ha, hz.1, by unfold PySem.W.notCls; rw [hd] <;> rfl, by rw [hz.2]; exact ho⟩
  exact HandSPX.exc_get I1.kIn J T.ga T.gg T.exC (PySem.W.findObj_own T.hdC T.noN rfl (by rw [hl, hu])) (handed_of ru) ⟨v, H1, I1.tok _, ru, q⟩
/-- InvalidText(e) as a value: a new object, tracked with its dict -/
def tPlcV (C : Addr) (ta : TA) : TE := fun σ H Q => ta σ H fun vs H1 => ∃ v, vs = [v] ∧ ∀ d e, H1 d = none → H1 e = none → e ≠ d → Q (.ref e) (upd (upd H1 d (.xd [(("place" : Str), v)])) e (Nw.ExK (.ref C) (some d) e))
theorem pe_plcV {a : Expr} {ta : TA} {p pos : Pos} {k : Nat} (T : PySem.PlcX.PlcTxt X.K X.mg C fI) (hr : Room k X.A) (ha : PA X [a] ta) (hg : Gl X "InvalidText" := by rfl)
    (he : starEach (a :: []) X.env = (false, eval a X.env) :: starEach [] X.env := by rfl) (hpl : (backTo pos (starEach [] X.env)).any (·.1) = false := by rfl) :
    PE X (.Call (.Name "InvalidText" p) [a] [] pos) (tPlcV C ta) := by
  refine ⟨fun pins s σ H Q I h => ?_⟩
  refine wpAny_Call_Name_kw (ld_glob I hg T.gC ?_)
  refine PySem.W.callWith_K (h₀ := X.base) I.ok.mod.kin T.kC (thn (ha.run pos pins s σ H _ I h) fun us s1 hh => ?_) he hpl
  obtain ⟨vs, H1, I1, r1, v, ev, q1⟩ := hh
  subst ev
  refine ⟨I1.kIn, ?_⟩
  cases r1 with
  | cons rv rn =>
    rename_i v' us'
    cases rn
    show wpAny _ _ (call (.ref C) [v']) _ _ _
    have hlim := I1.nolimit
    obtain ⟨hp, g, dr, tk, os⟩ := s1
    refine wpAny_call (PySem.PlcX.plc_made T I1.kIn hlim (by have := hr.dp; omega) fun h' tk' e d M => ?_)
    obtain ⟨oe, fv, hoe, hc, hd, hdat, h1⟩ := M.obj
    have hns := M.ns
    obtain ⟨G', g1, g2⟩ := restrict h' fun b => decide (b ≠ e)
    have gk : ∀ b, b ≠ e → G'.get? b = h'.get? b := fun b hb => g1 b (decide_eq_true hb)
    have ge : G'.get? e = none := g2 e (by simp)
    have old : ∀ b o, hp.get? b = some o → G'.get? b = some o := fun b o q => (gk b (Nat.ne_of_lt (Nat.lt_of_lt_of_le (Heap.lt_size q) M.new))).trans (M.keep b o q)
    have ob : ObjOk X.prog X.w (upd H1 d (.xd [(("place" : Str), v)])) G' d (.xd [(("place" : Str), v)]) :=
      ⟨_, hns.at (fun o q => (gk d M.dne).trans q), fun f => relO_plc rv f⟩
    have J : Inv X pins σ (upd H1 d (.xd [(("place" : Str), v)])) ⟨G', g, dr, tk', os⟩ := I1.laid (t' := tk') old M.dbig ob
    have en : H1 e = none := I1.hok.fresh M.new
    have nn : (upd H1 d (.xd [(("place" : Str), v)])) e = none := by
      rw [upd_ne (Ne.symm M.dne)]
      exact en
    have kk : ∀ b o, G'.get? b = some o → h'.get? b = some o := fun b o q => by
      by_cases hb : b = e
      · rw [hb, ge] at q
        cases q
      · exact (gk b hb).symm.trans q
    exact ⟨.ref e, _, J.laidN (t' := tk') kk ge nn (Nw.exK_ok hoe ⟨hc, hd⟩ hdat), rfl, q1 d e (I1.hok.fresh M.dbig) en (Ne.symm M.dne)⟩
/-- x.place, x an error's object that is tracked -/
def tPlaceK (C : Addr) (te : TE) : TE := fun σ H Q => te σ H fun x H1 => ∃ (a dd : Addr) (v : V), x = .ref a ∧ H1 a = some (Nw.ExK (.ref C) (some dd) a) ∧ H1 dd = some (.xd [(("place" : Str), v)]) ∧ Q v H1
theorem pe_placeK {e : Expr} {te : TE} {pos : Pos} (T : PySem.PlcX.PlcTxt X.K X.mg C fI) (he : PE X e te) (hb : attributeBase e "place" X.env (eval e X.env) = eval e X.env := by rfl) :
    PE X (.Attribute e "place" pos) (tPlaceK C te) := by
  refine ⟨fun pins s σ H Q I h => ?_⟩
  refine attr_of hb (thn (he.run pins s σ H _ I h) fun u s1 hh => ?_)
  obtain ⟨x, H1, I1, rx, a, dd, v, rfl, ea, ed, q⟩ := hh
  obtain rfl : u = Value.ref a := rx
  obtain ⟨⟨oe, vs, ha, hz, hd⟩, _⟩ := I1.hok a _ ea
  have hx : ObjOk X.prog X.w H1 s1.heap dd (.xd [(("place" : Str), v)]) := I1.hok dd _ ed
  obtain ⟨mA, hns, hr⟩ := hx
  obtain ⟨od, ho, hl⟩ := lookIn_ns hns
  have l : List.lookup ("place" : Str) [(("place" : Str), v)] = some v := by simp [List.lookup]
  obtain ⟨u, hu, ru⟩ := RelO.some_of (v := v) (o := mA "place") (by rw [← l]; exact hr "place")
  have J : PySem.W.InstAt s1.heap a oe C (some od) := ⟨ha, hz.1, by unfold PySem.W.notCls; rw [hd] <;> rfl, by rw [hz.2]; exact ho⟩
  exact HandSPX.exc_get I1.kIn J T.ga T.gg T.exC (PySem.W.findObj_own T.hdC T.noN rfl (by rw [hl, hu])) (handed_of ru) ⟨v, H1, I1.tok _, ru, q⟩
end
end L2
namespace Nw
open PySem PySem.Spec PyProof.Rows L2
/-- an error's object of the class D at a, tracked -/
def ErrAt (H : Hp) (a D : Addr) : Prop := H a = some (ExO (.ref D) a) ∨ ∃ d, H a = some (ExK (.ref D) d a) ∧ ∀ dx, d = some dx → ∃ fs, H dx = some (.xd fs)
theorem ErrAt.up {H H' : Hp} {a D : Addr} (h : ErrAt H a D) (e : Ex H H') : ErrAt H' a D := by
  rcases h with h | ⟨d, h1, h2⟩
  · exact .inl (e _ _ h)
  · exact .inr ⟨d, e _ _ h1, fun dx hd => by
      obtain ⟨fs, h3⟩ := h2 dx hd
      exact ⟨fs, e _ _ h3⟩⟩
/-- isinstance(x, c), x an error's object -/
def rIsV (K : PySem.W.Frag) : List V → Hp → VK → Prop := fun xs H Q => ∃ (a D : Addr) (c : V) (cv : Value) (b : Bool), xs = [.ref a, c] ∧ ErrAt H a D ∧ ExcC K D ∧ (∀ u, RelV c u → u = cv) ∧ PySem.W.kitOne K (.ref D) cv = some b ∧ Q (.bl b) H
theorem instV {X : Cx} {pins : List (Addr × Obj)} {σ : L2.St} {H : Hp} {s : Shared} (I : Inv X pins σ H s) {a D : Addr} (h : ErrAt H a D) : ∃ oe od, PySem.W.InstAt s.heap a oe D od := by
  rcases h with h | ⟨d, h1, h2⟩
  · obtain ⟨⟨oe, vs, k1, ⟨k2, k3⟩, k4, _⟩, _⟩ := I.hok a _ h
    exact ⟨oe, none, k1, k2, by unfold PySem.W.notCls; rw [k4], by rw [k3]; trivial⟩
  · exact instK I h1 h2
theorem call_isV {X : Cx} (K : PySem.W.Frag) (hK : X.K = K := by rfl) : CallR X (.builtin "isinstance") (rIsV K) := by
  subst hK
  intro pins s σ H xs us Q I r h
  obtain ⟨a, D, c, cv, b, rfl, ha, C, hcv, e, q⟩ := h
  cases r with
  | cons rx rr =>
    cases rr with
    | cons rt rr =>
      cases rr
      cases rx
      have ec := hcv _ rt
      subst ec
      obtain ⟨oe, od, J⟩ := instV I ha
      have hcl : (PySem.W.clsIn X.K D).isSome = true := by
        obtain ⟨cd, hc, _⟩ := PySem.W.any_some C.hd
        rw [hc]
        rfl
      exact PySem.W.kia_one (PySem.W.kitx_exc hcl C.hg C.hk C.hs C.ha C.hn C.ht C.hm) I.kIn J e (fun z => nomatch z) fun tk => ⟨.bl b, H, I.kept (t' := tk) fun _ _ z => z, rfl, q⟩
end Nw
/-! A family of error classes: one base, its classes. -/
namespace Nw
open PySem PySem.Spec PyProof.Rows L2
def errTail : List Value := [.type "ValueError", .type "Exception", .type "BaseException", .type "object"]
/-- the class at C, of the family of C0 -/
def MroAt (K : PySem.W.Frag) (C0 C : Addr) : Prop := ∃ cd, PySem.W.clsIn K C = some cd ∧ cd.hasDict = true ∧ cd.mro = .ref C :: (if C = C0 then errTail else .ref C0 :: errTail)
section
variable {K : PySem.W.Frag} {C0 C D S : Addr}
theorem mroAt_base {nm q : Str} {N : Addr} {bs : List Value} {sn : List Str} {sub : List Value} {ab : Bool} {col : Option Bool} {dd : Option Addr} {m0 m1 m2 m3 m5 : Option Value}
    (h : K.lookup C = some (excClassObj nm q C N bs errTail true sn sub ab col dd m0 m1 m2 m3 m5 "ValueError.__new__")) : MroAt K C C := by
  refine ⟨{ name := nm, bases := bs, mro := .ref C :: errTail, ns := N, qualname := q, hasDict := true, slotNames := sn, subclasses := sub, abstract := ab, collection := col, hasDel := false }, ?_, rfl, ?_⟩
  · unfold PySem.W.clsIn
    rw [h] <;> rfl
  · rw [if_pos rfl]
theorem mroAt_of {nm q : Str} {N : Addr} {bs : List Value} {sn : List Str} {sub : List Value} {ab : Bool} {col : Option Bool} {dd : Option Addr} {m0 m1 m2 m3 m5 : Option Value}
    (h : K.lookup C = some (excClassObj nm q C N bs (.ref C0 :: errTail) true sn sub ab col dd m0 m1 m2 m3 m5 "ValueError.__new__")) (hn : C ≠ C0) : MroAt K C0 C := by
  refine ⟨{ name := nm, bases := bs, mro := .ref C :: .ref C0 :: errTail, ns := N, qualname := q, hasDict := true, slotNames := sn, subclasses := sub, abstract := ab, collection := col, hasDel := false }, ?_, rfl, ?_⟩
  · unfold PySem.W.clsIn
    rw [h] <;> rfl
  · rw [if_neg hn]
theorem mro_in (h : MroAt K C0 C) (v : Value) : PySem.W.mroIn K C v = some ((Value.ref C :: (if C = C0 then errTail else .ref C0 :: errTail)).contains v) := by
  obtain ⟨cd, h1, _, h3⟩ := h
  unfold PySem.W.mroIn
  rw [h1]
  show (if cd.mro.isEmpty = true then none else some (cd.mro.contains v)) = _
  rw [h3]
  rfl
theorem mro_type (h : MroAt K C0 C) {t : String} (ht : errTail.contains (.type t) = true) : PySem.W.mroIn K C (.type t) = some true := by
  rw [mro_in h]
  congr 1
  rw [List.contains_cons]
  have e : (if C = C0 then errTail else .ref C0 :: errTail).contains (Value.type t) = true := by
    by_cases q : C = C0
    · rw [if_pos q]; exact ht
    · rw [if_neg q, List.contains_cons, ht, Bool.or_true]
  rw [e, Bool.or_true]
theorem mro_ref (h : MroAt K C0 D) : PySem.W.mroIn K D (.ref S) = some (decide (D = S ∨ S = C0)) := by
  rw [mro_in h]
  congr 1
  have tl : errTail.contains (Value.ref S) = false := rfl
  have e1 : (Value.ref S == Value.ref D) = decide (D = S) := by
    by_cases q : D = S
    · rw [q, decide_eq_true rfl]; exact beq_self_eq_true _
    · rw [decide_eq_false q]; exact beq_eq_false_iff_ne.mpr fun z => q (Value.ref.inj z).symm
  rw [List.contains_cons, e1]
  by_cases q : D = C0
  · rw [if_pos q, tl, Bool.or_false, decide_eq_decide]
    exact ⟨.inl, fun z => z.elim id fun z => q.trans z.symm⟩
  · have e2 : (Value.ref S == Value.ref C0) = decide (S = C0) := by
      by_cases q : S = C0
      · rw [q, decide_eq_true rfl]; exact beq_self_eq_true _
      · rw [decide_eq_false q]; exact beq_eq_false_iff_ne.mpr fun z => q (Value.ref.inj z)
    rw [if_neg q, List.contains_cons, e2, tl, Bool.or_false, ← Bool.decide_or]
theorem kit_ref (h : MroAt K C0 D) (g : MroAt K C0 S) (t : PySem.W.typeIn K (.ref S) = some (.type "type")) : PySem.W.kitOne K (.ref D) (.ref S) = some (decide (D = S ∨ S = C0)) := by
  unfold PySem.W.kitOne
  by_cases q : D = S
  · rw [if_pos (by rw [q]; exact beq_self_eq_true _), decide_eq_true (.inl q)]
  · rw [if_neg (by intro z; exact q (Value.ref.inj (eq_of_beq z)))]
    unfold PySem.W.kitCls
    have e : ((PySem.W.clsIn K S).isSome && PySem.W.typeIn K (.ref S) == some (.type "type")) = true := by
      obtain ⟨cd, h1, _⟩ := g
      rw [h1, t]
      rfl
    show (if ((PySem.W.clsIn K S).isSome && PySem.W.typeIn K (.ref S) == some (.type "type")) = true then PySem.W.subIn K (.ref D) (.ref S) else none) = _
    rw [if_pos e]
    exact mro_ref h
theorem kit_val (h : MroAt K C0 D) : PySem.W.kitOne K (.ref D) (.type "ValueError") = some true := by
  unfold PySem.W.kitOne
  rw [if_neg (by intro z; exact nomatch (eq_of_beq z))]
  unfold PySem.W.kitCls
  show (if PySem.W.kitMeta "ValueError" = true then PySem.W.subIn K (.ref D) (.type "ValueError") else none) = _
  rw [if_pos (by rfl)]
  exact mro_type h (by rfl)
theorem excC_of (h : MroAt K C0 D) (hg : PySem.W.findIn K (.ref D) "__getattribute__" = some (some (.builtin "BaseException.__getattribute__"))) (hk : PySem.W.findIn K (.ref D) "__getattr__" = some none)
    (ha : PySem.W.findIn K (.ref D) "__class__" = some (some (.builtin "object.__class__"))) (hn : PySem.W.specialIn K (.builtin "object.__class__") "__get__" = some (some (.builtin "getset_descriptor.__get__")))
    (ht : PySem.W.takesIn K (.builtin "object.__class__") = some true) : L2.ExcC K D :=
  ⟨hg, hk, mro_type h (by rfl), by
    obtain ⟨cd, h1, h2, _⟩ := h
    unfold PySem.W.hasDictIn
    rw [h1]
    exact h2, ha, hn, ht, mro_type h (by rfl)⟩
/-- addresses apart, by their places -/
theorem apart_at {cs : List Addr} (h : cs.Nodup) {i j : Nat} (hi : i < cs.length) (hj : j < cs.length) : cs.getD i 0 = cs.getD j 0 ↔ i = j := by
  have a : cs.getD i 0 = cs[i] := by rw [List.getD_eq_getElem?_getD, List.getElem?_eq_getElem hi]; rfl
  have b : cs.getD j 0 = cs[j] := by rw [List.getD_eq_getElem?_getD, List.getElem?_eq_getElem hj]; rfl
  rw [a, b]
  constructor
  · intro e
    rcases Nat.lt_trichotomy i j with q | q | q
    · exact absurd e (List.pairwise_iff_getElem.mp h i j hi hj q)
    · exact q
    · exact absurd e.symm (List.pairwise_iff_getElem.mp h j i hj hi q)
  · intro e
    subst e
    rfl
end
end Nw
namespace L2
open PySem PySem.Spec PyProof.Rows
section
variable {X : Cx} {C fI : Addr}
/-- raise InvalidText(e) -/
def tRaisePlc (C : Addr) (W : WX) (ta : TA) : TS := fun _ σ H => tMkPlc C ta σ H fun cls d H' => W cls d σ H'
theorem ps_raisePlc {a : Expr} {ta : TA} {W : WX} {p pos pos2 : Pos} {k : Nat} (hc : X.calm = true) (T : PySem.PlcX.PlcTxt X.K X.mg C fI) (hr : Room k X.A) (tk : Takes X W) (ha : PA X [a] ta) (hg : Gl X "InvalidText" := by rfl)
    (he : starEach (a :: []) X.env = (false, eval a X.env) :: starEach [] X.env := by rfl) (hpl : (backTo pos (starEach [] X.env)).any (·.1) = false := by rfl) :
    PS X (.Raise (some (.Call (.Name "InvalidText" p) [a] [] pos)) none pos2) (tRaisePlc C W ta) := ps_raise hc tk (pmk_plc T hr ha hg he hpl)
end
end L2
/-! How long data is when shown: by the number of its nodes and the longest leaf. -/
namespace Nw
open PySem PySem.Spec PyProof.Rows L2
mutual
/-- each leaf's text has at most B signs -/
def lf (B : Nat) : PyData → Bool
  | .none | .bool _ => true
  | .int i => decide ((PyData.shown (.int i)).length ≤ B)
  | .str x => decide ((PyData.shown (.str x)).length ≤ B)
  | .list xs | .tuple xs => lfAll B xs
  | .dict kvs => lfKv B kvs
def lfAll (B : Nat) : List PyData → Bool
  | [] => true
  | x :: xs => lf B x && lfAll B xs
def lfKv (B : Nat) : List (PyData × PyData) → Bool
  | [] => true
  | (k, v) :: r => lf B k && lf B v && lfKv B r
end
mutual
def nodes : PyData → Nat
  | .none | .bool _ | .int _ | .str _ => 1
  | .list xs | .tuple xs => 1 + nodesAll xs
  | .dict kvs => 1 + nodesKv kvs
def nodesAll : List PyData → Nat
  | [] => 0
  | x :: xs => nodes x + nodesAll xs
def nodesKv : List (PyData × PyData) → Nat
  | [] => 0
  | (k, v) :: r => nodes k + nodes v + nodesKv r
end
mutual
theorem len_lf (B : Nat) (hB : 8 ≤ B) : ∀ d : PyData, lf B d = true → d.shown.length + 4 ≤ (B + 4) * nodes d
  | .none, _ => by
    have e : (PyData.shown .none).length = 4 := rfl
    simp only [nodes]
    omega
  | .bool b, _ => by
    have e : (PyData.shown (.bool b)).length ≤ 5 := by cases b <;> decide
    simp only [nodes]
    omega
  | .int i, h => by
    have e : (PyData.shown (.int i)).length ≤ B := by simpa only [lf, decide_eq_true_eq] using h
    simp only [nodes]
    omega
  | .str x, h => by
    have e : (PyData.shown (.str x)).length ≤ B := by simpa only [lf, decide_eq_true_eq] using h
    simp only [nodes]
    omega
  | .list xs, h => by
    have h1 := len_lfAll B hB xs (by simpa only [lf] using h)
    have h2 := listText_len_le (PyData.shownAll xs)
    have h3 := PyData.shownAll_length xs
    simp only [PyData.shown, nodes]
    rw [Nat.mul_add]
    omega
  | .tuple xs, h => by
    have h1 := len_lfAll B hB xs (by simpa only [lf] using h)
    have h2 := tupleText_len_le (PyData.shownAll xs)
    have h3 := PyData.shownAll_length xs
    simp only [PyData.shown, nodes]
    rw [Nat.mul_add]
    omega
  | .dict kvs, h => by
    have h1 := len_lfKv B hB kvs (by simpa only [lf] using h)
    have h2 := dictText_len_le (PyData.shownKv kvs)
    have h3 := PyData.shownKv_length kvs
    simp only [PyData.shown, nodes]
    rw [Nat.mul_add]
    omega
theorem len_lfAll (B : Nat) (hB : 8 ≤ B) : ∀ xs : List PyData, lfAll B xs = true → ((PyData.shownAll xs).map (·.length)).sum + 4 * xs.length ≤ (B + 4) * nodesAll xs
  | [], _ => by
    simp only [PyData.shownAll, nodesAll, List.map_nil, List.sum_nil, List.length_nil]
    omega
  | x :: xs, h => by
    have h' : lf B x = true ∧ lfAll B xs = true := by simpa only [lfAll, Bool.and_eq_true] using h
    have h1 := len_lf B hB x h'.1
    have h2 := len_lfAll B hB xs h'.2
    have h3 := Nat.mul_add (B + 4) (nodes x) (nodesAll xs)
    simp only [PyData.shownAll, nodesAll, List.map_cons, List.sum_cons, List.length_cons]
    omega
theorem len_lfKv (B : Nat) (hB : 8 ≤ B) : ∀ kvs : List (PyData × PyData), lfKv B kvs = true → ((PyData.shownKv kvs).map (·.length)).sum + 2 * kvs.length ≤ (B + 4) * nodesKv kvs
  | [], _ => by
    simp only [PyData.shownKv, nodesKv, List.map_nil, List.sum_nil, List.length_nil]
    omega
  | (k, v) :: r, h => by
    have h' : (lf B k = true ∧ lf B v = true) ∧ lfKv B r = true := by simpa only [lfKv, Bool.and_eq_true] using h
    have h1 := len_lf B hB k h'.1.1
    have h2 := len_lf B hB v h'.1.2
    have h3 := len_lfKv B hB r h'.2
    have e2 : (k.shown ++ ": " ++ v.shown).length = k.shown.length + 2 + v.shown.length := by
      rw [strLen_append, strLen_append]
      rfl
    have h5 := Nat.mul_add (B + 4) (nodes k + nodes v) (nodesKv r)
    have h6 := Nat.mul_add (B + 4) (nodes k) (nodes v)
    simp only [PyData.shownKv, nodesKv, List.map_cons, List.sum_cons, List.length_cons]
    rw [e2]
    omega
end
theorem fits_lf {B n : Nat} (hB : 8 ≤ B) {d : PyData} (h : lf B d = true) (hn : nodes d ≤ n) (hz : (B + 4) * n ≤ 16000000) : d.shown.length ≤ sizeLine := by
  have h1 := len_lf B hB d h
  have h2 := Nat.mul_le_mul_left (B + 4) hn
  rw [sizeLine_eq]
  omega
theorem lf_int {i : Int} {k : Nat} (hk : 0 < k) (h : i.natAbs < 10 ^ k) : lf (k + 1) (.int i) = true := by
  simp only [lf, decide_eq_true_eq]
  have e := int_text_length_le10 hk h
  show (Str.ofString (toString i)).length ≤ k + 1
  rw [PySem.ofString_length]
  exact e
theorem lfAll_of {B : Nat} : ∀ {xs : List PyData}, (∀ x ∈ xs, lf B x = true) → lfAll B xs = true
  | [], _ => rfl
  | x :: xs, h => by
    simp only [lfAll, h x (by simp), lfAll_of fun y hy => h y (List.mem_cons_of_mem _ hy), Bool.and_self]
theorem showAll_of : ∀ {xs : List PyData}, (∀ x ∈ xs, x.showable = true) → PyData.showableAll xs = true
  | [], _ => rfl
  | x :: xs, h => by
    simp only [PyData.showableAll, h x (by simp), showAll_of fun y hy => h y (List.mem_cons_of_mem _ hy), Bool.and_self]
theorem nodesAll_of {n : Nat} : ∀ {xs : List PyData}, (∀ x ∈ xs, nodes x ≤ n) → nodesAll xs ≤ n * xs.length
  | [], _ => by simp [nodesAll]
  | x :: xs, h => by
    have h1 := h x (by simp)
    have h2 := nodesAll_of fun y hy => h y (List.mem_cons_of_mem _ hy)
    simp only [nodesAll, List.length_cons, Nat.mul_succ]
    omega
theorem depthAll_of {n : Nat} : ∀ {xs : List PyData}, (∀ x ∈ xs, x.depth ≤ n) → PyData.depthAll xs ≤ n
  | [], _ => by simp [PyData.depthAll]
  | x :: xs, h => by
    have h1 := h x (by simp)
    have h2 := depthAll_of fun y hy => h y (List.mem_cons_of_mem _ hy)
    simp only [PyData.depthAll]
    omega
/-- what repr asks: shown in a few leaves -/
structure Sh (B n k : Nat) (d : PyData) : Prop where
  s : d.showable = true
  l : lf B d = true
  n : nodes d ≤ n
  k : d.depth ≤ k
theorem Sh.fit {B n k : Nat} {d : PyData} (h : Sh B n k d) (hB : 8 ≤ B) (hz : (B + 4) * n ≤ 16000000) : d.shown.length ≤ sizeLine := fits_lf hB h.l h.n hz
theorem Sh.list {B n k m : Nat} {xs : List PyData} (h : ∀ x ∈ xs, Sh B n k x) (hm : xs.length ≤ m) : Sh B (1 + n * m) (k + 1) (.list xs) := by
  refine ⟨?_, ?_, ?_, ?_⟩
  · simp only [PyData.showable, showAll_of fun x hx => (h x hx).s]
  · simp only [lf, lfAll_of fun x hx => (h x hx).l]
  · have h1 := nodesAll_of fun x hx => (h x hx).n
    have h2 := Nat.mul_le_mul_left n hm
    simp only [nodes]
    omega
  · have h1 := depthAll_of fun x hx => (h x hx).k
    simp only [PyData.depth]
    omega
theorem Sh.tuple {B n k m : Nat} {xs : List PyData} (h : ∀ x ∈ xs, Sh B n k x) (hm : xs.length ≤ m) : Sh B (1 + n * m) (k + 1) (.tuple xs) := by
  refine ⟨?_, ?_, ?_, ?_⟩
  · simp only [PyData.showable, showAll_of fun x hx => (h x hx).s]
  · simp only [lf, lfAll_of fun x hx => (h x hx).l]
  · have h1 := nodesAll_of fun x hx => (h x hx).n
    have h2 := Nat.mul_le_mul_left n hm
    simp only [nodes]
    omega
  · have h1 := depthAll_of fun x hx => (h x hx).k
    simp only [PyData.depth]
    omega
theorem Sh.mono {B C n m k j : Nat} {d : PyData} (h : Sh B n k d) (hn : n ≤ m) (hk : k ≤ j) : Sh B m j d := ⟨h.s, h.l, Nat.le_trans h.n hn, Nat.le_trans h.k hk⟩
theorem Sh.int {i : Int} {k : Nat} (hk : 0 < k) (h2 : i.natAbs < 2 ^ 1920) (h : i.natAbs < 10 ^ k) : Sh (k + 1) 1 0 (.int i) := by
  refine ⟨?_, lf_int hk h, by simp only [nodes]; omega, by simp only [PyData.depth]; omega⟩
  simp only [PyData.showable, decide_eq_true_eq]
  by_cases hne : i.natAbs = 0
  · rw [hne]
    decide
  · exact (Nat.log2_lt hne).mpr h2
end Nw
/-! Fillings: what the looks at them answer; lines with numbers, steps, rows of states. -/
namespace Nw
open PySem PySem.Spec PyProof.Rows L2
/-! ### an item of a list, set anew -/
def rGetL (K : PySem.W.Frag) : V → V → Hp → VK → Prop := fun o i H Q => ∃ p xs k v, o = .ref p ∧ i = .int k ∧ 0 ≤ k ∧ SqL K H p xs ∧ xs[k.toNat]? = some v ∧ Q v H
theorem get_list {X : Cx} (K : PySem.W.Frag) (hK : X.K = K := by rfl) : PGet X (rGetL K) := by
  subst hK
  intro pins s σ H o i ov iv Q I ro ri h
  obtain ⟨p, xs, k, v, rfl, rfl, h0, hq, he, q⟩ := h
  cases ro
  obtain ⟨t, rfl⟩ := ri
  obtain ⟨its, r, pl, hz⟩ := I.list hq
  obtain ⟨u, ew, rw'⟩ := r.get he
  have hl := r.length
  have hn := line63
  have hk : k.toNat < xs.length := (List.getElem?_eq_some_iff.mp he).1
  exact wpAny_getItem_list pl.isList h0 (by omega) (by simpa using ew) ⟨v, H, I, rw', q⟩
/-! ### lines with numbers -/
abbrev NL := (Int × Int) × Int
def dNum (l : NL) : PyData := .tuple [.int l.1.1, .int l.1.2, .int l.2]
def stp (vals acc : List Int) (l : NL) : List Int := acc.set l.1.2.toNat (acc.getD l.1.2.toNat 0 + l.2 * vals.getD l.1.1.toNat 0)
def mvs (vals : List Int) (ls : List NL) (acc : List Int) : List Int := ls.foldl (stp vals) acc
theorem mvs_snoc (vals : List Int) (ls : List NL) (acc : List Int) (l : NL) : mvs vals (ls ++ [l]) acc = stp vals (mvs vals ls acc) l := by
  unfold mvs
  rw [List.foldl_append]
  rfl
theorem mvs_app (vals : List Int) (ls ms : List NL) (acc : List Int) : mvs vals (ls ++ ms) acc = mvs vals ms (mvs vals ls acc) := by
  unfold mvs
  rw [List.foldl_append]
theorem mvs_len (vals : List Int) : ∀ (ls : List NL) (acc : List Int), (mvs vals ls acc).length = acc.length
  | [], _ => rfl
  | l :: ls, acc => by
    show (mvs vals ls (stp vals acc l)).length = acc.length
    rw [mvs_len vals ls]
    unfold stp
    rw [List.length_set]
def mv (n : Nat) (ls : List NL) (vals : List Int) : List Int := mvs vals ls (List.replicate n 0)
theorem mv_len {n : Nat} {ls : List NL} {vals : List Int} : (mv n ls vals).length = n := by
  unfold mv
  rw [mvs_len, List.length_replicate]
def Bd (M x : Int) : Prop := -M ≤ x ∧ x ≤ M
theorem Bd.mono {M N x : Int} (h : Bd M x) (l : M ≤ N) : Bd N x := ⟨by have := h.1; omega, by have := h.2; omega⟩
theorem bd_mul {M a b : Int} (ha : Bd 1000000 a) (hb : Bd M b) (hM : 0 ≤ M) : Bd (1000000 * M) (a * b) := by
  have h1 : a.natAbs ≤ 1000000 := by have := ha.1; have := ha.2; omega
  have h2 : b.natAbs ≤ M.toNat := by have := hb.1; have := hb.2; omega
  have h3 := Nat.mul_le_mul h1 h2
  rw [← Int.natAbs_mul] at h3
  have e : ((1000000 * M.toNat : Nat) : Int) = 1000000 * M := by omega
  unfold Bd
  omega
theorem mvs_bd {vals : List Int} {M : Int} (hM : 0 ≤ M) (hv : ∀ v ∈ vals, Bd M v) : ∀ (ls : List NL) (acc : List Int) (A : Int), 0 ≤ A → (∀ l ∈ ls, Bd 1000000 l.2) → (∀ a ∈ acc, Bd A a) →
    ∀ a ∈ mvs vals ls acc, Bd (A + ls.length * (1000000 * M)) a
  | [], acc, A, hA, _, ha => fun a h => (ha a h).mono (by simp only [List.length_nil]; omega)
  | l :: ls, acc, A, hA, hl, ha => by
    have key : ∀ a ∈ stp vals acc l, Bd (A + 1000000 * M) a := by
      intro a h
      unfold stp at h
      rcases List.mem_or_eq_of_mem_set h with h | rfl
      · exact (ha a h).mono (by omega)
      · have h1 : Bd A (acc.getD l.1.2.toNat 0) := by
          rw [List.getD_eq_getElem?_getD]
          cases e : acc[l.1.2.toNat]? with
          | none => exact ⟨by simp only [Option.getD_none]; omega, by simp only [Option.getD_none]; omega⟩
          | some x => exact ha x (List.mem_of_getElem? e)
        have h2 : Bd M (vals.getD l.1.1.toNat 0) := by
          rw [List.getD_eq_getElem?_getD]
          cases e : vals[l.1.1.toNat]? with
          | none => exact ⟨by simp only [Option.getD_none]; omega, by simp only [Option.getD_none]; omega⟩
          | some x => exact hv x (List.mem_of_getElem? e)
        have h3 := bd_mul (hl l (by simp)) h2 hM
        have := h1.1
        have := h1.2
        have := h3.1
        have := h3.2
        unfold Bd
        omega
    have ih := mvs_bd hM hv ls (stp vals acc l) (A + 1000000 * M) (by omega) (fun x hx => hl x (List.mem_cons_of_mem _ hx)) key
    intro a h
    refine (ih a h).mono ?_
    rw [List.length_cons]
    have e : ((ls.length + 1 : Nat) : Int) * (1000000 * M) = ls.length * (1000000 * M) + 1000000 * M := by
      rw [Int.natCast_add, Int.add_mul]
      omega
    omega
/-! ### fillings -/
structure Fl where
  xs : List Int
  ss : List (List Int)
  deriving DecidableEq
def Fl.d (f : Fl) : PyData := .tuple [dInts f.xs, dRows f.ss]
def NumOk (x : Int) : Prop := x ≠ 0 ∧ Bd 1000000 x
structure Fl.Ok (u : Wb) (f : Fl) : Prop where
  len : f.xs.length = u.ps.length
  num : ∀ x ∈ f.xs, NumOk x
  rows : f.ss.map List.length = u.ns.map List.length
  rnum : ∀ r ∈ f.ss, ∀ x ∈ r, NumOk x
theorem Fl.Ok.slen {u : Wb} {f : Fl} (h : f.Ok u) : f.ss.length = u.ns.length := by
  have e := congrArg List.length h.rows
  rw [List.length_map, List.length_map] at e
  exact e
theorem Fl.Ok.rlen {u : Wb} {f : Fl} (h : f.Ok u) {k : Nat} {r s : List Int} (hr : f.ss[k]? = some r) (hs : u.ns[k]? = some s) : r.length = s.length := by
  have e := congrArg (fun l => l[k]?) h.rows
  simp only [List.getElem?_map, hr, hs, Option.map_some] at e
  exact Option.some.inj e
/-- what the looks answer -/
def intsB : PyData → Int → Bool
  | .list ds, m => decide ((ds.length : Int) = m) && ds.all isInt
  | _, _ => false
def rowsB : PyData → Int → Bool
  | .list ds, m => decide (ds.length ≤ 60) && ds.all fun d => intsB d m
  | _, _ => false
def noB : PyData → Bool
  | .int i => decide (i ≠ 0) && decide ((if i < 0 then -i else i) ≤ 1000000)
  | _ => false
def lineB : PyData → Int → Bool
  | .list ds, m => intsB (.list ds) m && ds.all noB
  | _, _ => false
def fillB (u : Wb) : PyData → Bool
  | .tuple [a, .list rs] => lineB a u.ps.length && (decide (rs.length = u.ns.length) && (rs.zip u.ns).all fun p => lineB p.1 p.2.length)
  | _ => false
theorem intsB_of {r : List Int} {m : Int} (h : (r.length : Int) = m) : intsB (dInts r) m = true := by
  unfold dInts intsB
  simp only [List.length_map, h, decide_true, Bool.true_and, List.all_map, List.all_eq_true]
  intro x _
  rfl
theorem rowsB_of {rs : List (List Int)} {m : Int} (h : ∀ r ∈ rs, (r.length : Int) = m) (h2 : rs.length ≤ 60) : rowsB (dRows rs) m = true := by
  unfold dRows rowsB
  simp only [List.length_map, h2, decide_true, Bool.true_and, List.all_map, List.all_eq_true]
  intro x hx
  exact intsB_of (h x hx)
theorem lineB_of {r : List Int} {m : Int} (h : (r.length : Int) = m) (h2 : ∀ x ∈ r, NumOk x) : lineB (dInts r) m = true := by
  have h3 := intsB_of h
  unfold dInts at h3 ⊢
  unfold lineB
  simp only [h3, Bool.true_and, List.all_map, List.all_eq_true]
  intro x hx
  have h4 := h2 x hx
  have h5 := h4.2.1
  have h6 := h4.2.2
  simp only [Function.comp, noB, decide_eq_true h4.1, Bool.true_and, decide_eq_true_eq]
  split <;> omega
theorem zip_all {α β : Type} {p : α × β → Bool} {as : List α} {bs : List β} (h : ∀ (k : Nat) (a : α) (b : β), as[k]? = some a → bs[k]? = some b → p (a, b) = true) : (as.zip bs).all p = true := by
  rw [List.all_eq_true]
  rintro ⟨a, b⟩ hx
  obtain ⟨k, hk⟩ := List.mem_iff_getElem?.mp hx
  rw [List.getElem?_zip_eq_some] at hk
  exact h k a b hk.1 hk.2
theorem Fl.Ok.fill {u : Wb} {f : Fl} (h : f.Ok u) : fillB u f.d = true := by
  have h1 := lineB_of (m := u.ps.length) (by rw [h.len]) h.num
  unfold Fl.d dRows fillB
  simp only [h1, List.length_map, h.slen, decide_true, Bool.true_and]
  refine zip_all fun k a b ha hb => ?_
  obtain ⟨r, hr, rfl⟩ := map_at ha
  exact lineB_of (by rw [h.rlen hr hb]) (h.rnum r (List.mem_of_getElem? hr))
/-- a filling as it stands -/
theorem Fl.at {K : PySem.W.Frag} {H : Hp} {f : Fl} {v : V} (h : Da K H f.d v) : ∃ t x1 x2, v = .ref t ∧ SqT K H t [x1, x2] ∧ Da K H (dInts f.xs) x1 ∧ Da K H (dRows f.ss) x2 := by
  obtain ⟨t, xs, rfl, hS, x1, r1, rfl, g1, x2, r2, rfl, g2, rfl⟩ := h
  exact ⟨t, x1, x2, rfl, .inl (.inl hS), g1, g2⟩
/-! ### the numbered lines -/
def Fl.nums (f : Fl) : List Int := f.xs ++ f.ss.flatten
def nl (u : Wb) (f : Fl) : List NL := u.lines.zip f.nums
def blkAt (n : Int) (i : Nat) (r s : List Int) : List NL := (pushedAt n i r).zip s
def nlFrom (n : Int) : Nat → List (List Int) → List (List Int) → List NL
  | i, r :: rs, s :: ss => blkAt n i r s ++ nlFrom n (i + 1) rs ss
  | _, _, _ => []
theorem zip_pushed (n : Int) : ∀ (rs ss : List (List Int)) (i : Nat), ss.map List.length = rs.map List.length → (pushedFrom n i rs).zip ss.flatten = nlFrom n i rs ss
  | [], ss, i, _ => by simp [pushedFrom, nlFrom]
  | r :: rs, [], i, h => by simp at h
  | r :: rs, s :: ss, i, h => by
    simp only [List.map_cons, List.cons.injEq] at h
    simp only [pushedFrom, nlFrom, List.flatten_cons]
    rw [List.zip_append (by simp only [pushedAt, List.length_map]; exact h.1.symm), zip_pushed n rs ss (i + 1) h.2]
    rfl
theorem Fl.Ok.nl {u : Wb} {f : Fl} (h : f.Ok u) : nl u f = u.ps.zip f.xs ++ nlFrom u.n 0 u.ns f.ss := by
  unfold Nw.nl Wb.lines Fl.nums
  rw [List.zip_append h.len.symm, zip_pushed u.n u.ns f.ss 0 h.rows]
theorem nlFrom_take (n : Int) : ∀ (rs ss : List (List Int)) (i k : Nat) (r s : List Int), rs[k]? = some r → ss[k]? = some s →
    nlFrom n i (rs.take (k + 1)) ss = nlFrom n i (rs.take k) ss ++ blkAt n (i + k) r s
  | [], _, _, _, _, _, h, _ => by simp at h
  | _ :: _, [], _, _, _, _, _, h => by simp at h
  | a :: rs, b :: ss, i, 0, r, s, h, g => by
    obtain rfl : a = r := by simpa using h
    obtain rfl : b = s := by simpa using g
    simp [nlFrom]
  | a :: rs, b :: ss, i, k + 1, r, s, h, g => by
    have ih := nlFrom_take n rs ss (i + 1) k r s (by simpa using h) (by simpa using g)
    simp only [List.take_succ_cons, nlFrom]
    rw [ih, List.append_assoc, show i + 1 + k = i + (k + 1) by omega]
theorem nums_len {f : Fl} : f.nums.length = f.xs.length + (f.ss.map List.length).sum := by
  unfold Fl.nums
  rw [List.length_append, List.length_flatten]
theorem pushed_sum (n : Int) : ∀ (rs : List (List Int)) (i : Nat), (pushedFrom n i rs).length = (rs.map List.length).sum
  | [], _ => rfl
  | r :: rs, i => by
    simp only [pushedFrom, List.length_append, pushedAt, List.length_map, List.map_cons, List.sum_cons, pushed_sum n rs (i + 1)]
theorem Fl.Ok.nlen {u : Wb} {f : Fl} (h : f.Ok u) : f.nums.length = u.lines.length := by
  rw [nums_len, h.rows, h.len]
  unfold Wb.lines
  rw [List.length_append, pushed_sum]
theorem Fl.Ok.bd {u : Wb} {f : Fl} (h : f.Ok u) : ∀ x ∈ f.nums, NumOk x := by
  intro x hx
  rcases List.mem_append.mp hx with hx | hx
  · exact h.num x hx
  · obtain ⟨r, hr, hx⟩ := List.mem_flatten.mp hx
    exact h.rnum r hr x hx
theorem Fl.Ok.line {u : Wb} {f : Fl} (h : f.Ok u) (hu : u.Ok) : ∀ l ∈ Nw.nl u f, ((0 ≤ l.1.1 ∧ l.1.1 < u.n + (u.ns.length : Int)) ∧ (0 ≤ l.1.2 ∧ l.1.2 < u.n)) ∧ Bd 1000000 l.2 := by
  rintro ⟨a, b⟩ hl
  have h1 := List.of_mem_zip hl
  exact ⟨hu.line a h1.1, (h.bd b h1.2).2⟩
theorem Fl.Ok.nl_len {u : Wb} {f : Fl} (h : f.Ok u) (hu : u.Ok) : (Nw.nl u f).length ≤ 1500 := by
  unfold Nw.nl
  rw [List.length_zip]
  have := hu.lines_len
  omega
/-! ### rows of states -/
def rn (n : Nat) (ls : List NL) (st : List Int) (rows : List (List Int)) : List (List Int) := rows.foldl (fun acc g => acc ++ [mv n ls (acc.getLastD [] ++ g)]) [st]
theorem rn_snoc (n : Nat) (ls : List NL) (st : List Int) (rows : List (List Int)) (g : List Int) : rn n ls st (rows ++ [g]) = rn n ls st rows ++ [mv n ls ((rn n ls st rows).getLastD [] ++ g)] := by
  unfold rn
  rw [List.foldl_append]
  rfl
theorem rn_len (n : Nat) (ls : List NL) (st : List Int) (rows : List (List Int)) : ∀ k, k ≤ rows.length → (rn n ls st (rows.take k)).length = k + 1
  | 0, _ => by simp [rn]
  | k + 1, h => by
    have hk : k < rows.length := h
    rw [take_snoc (List.getElem?_eq_getElem hk), rn_snoc, List.length_append, rn_len n ls st rows k (by omega)]
    rfl
theorem getLastD_mem {α : Type} : ∀ {l : List α} {d : α}, l ≠ [] → l.getLastD d ∈ l
  | [], _, h => (h rfl).elim
  | [a], _, _ => by simp [List.getLastD]
  | a :: b :: s, d, _ => by
    rw [List.getLastD_cons]
    exact List.mem_cons_of_mem _ (getLastD_mem (l := b :: s) (by simp))
/-- how great the numbers of states grow -/
theorem rn_bd {n : Nat} {ls : List NL} {st : List Int} {rows : List (List Int)} {M : Int} (hM : 0 ≤ M) (hst : ∀ x ∈ st, Bd M x) (hr : ∀ r ∈ rows, ∀ x ∈ r, Bd M x) (hl : ∀ l ∈ ls, Bd 1000000 l.2) (hz : ls.length ≤ 1500) :
    ∀ k, k ≤ rows.length → ∀ s ∈ rn n ls st (rows.take k), ∀ x ∈ s, Bd (M * 1500000000 ^ k) x
  | 0, _, s, hs, x, hx => by
    obtain rfl : s = st := by simpa [rn] using hs
    simpa using hst x hx
  | k + 1, h, s, hs, x, hx => by
    have hk : k < rows.length := h
    have p1 : (1 : Int) ≤ 1500000000 ^ k := by
      have := Int.pow_pos (n := 1500000000) (m := k) (by decide)
      omega
    have p2 : M ≤ M * 1500000000 ^ k := by
      have := Int.mul_le_mul_of_nonneg_left p1 hM
      omega
    have p3 : M * 1500000000 ^ (k + 1) = 1500000000 * (M * 1500000000 ^ k) := by
      rw [Int.pow_succ, ← Int.mul_assoc, Int.mul_comm]
    have p4 : 0 ≤ M * 1500000000 ^ k := by omega
    have ih := rn_bd (n := n) hM hst hr hl hz k (by omega)
    rw [take_snoc (List.getElem?_eq_getElem hk), rn_snoc] at hs
    rw [p3]
    rcases List.mem_append.mp hs with hs | hs
    · exact (ih s hs x hx).mono (by omega)
    · obtain rfl := List.mem_singleton.mp hs
      have h1 := mvs_bd (vals := (rn n ls st (rows.take k)).getLastD [] ++ rows[k]) (M := M * 1500000000 ^ k) p4 (by
        intro v hv
        rcases List.mem_append.mp hv with hv | hv
        · refine ih _ (getLastD_mem ?_) v hv
          intro e
          have := rn_len n ls st rows k (by omega)
          rw [e] at this
          simp at this
        · exact (hr _ (List.getElem_mem hk) v hv).mono p2) ls (List.replicate n 0) 0 (by decide) hl (by
        intro a ha
        obtain ⟨_, rfl⟩ := List.mem_replicate.mp ha
        exact ⟨by decide, by decide⟩)
      refine (h1 x hx).mono ?_
      have h2 : (ls.length : Int) * (1000000 * (M * 1500000000 ^ k)) ≤ 1500 * (1000000 * (M * 1500000000 ^ k)) := Int.mul_le_mul_of_nonneg_right (by omega) (by omega)
      omega
theorem ixN_int {n : Nat} {k : Int} (h0 : 0 ≤ k) (h : k < n) : ixN n k = some k.toNat := by
  unfold ixN
  rw [if_pos h0, if_pos h]
theorem rep_int (m : Nat) : (List.replicate m [V.int 0]).flatten = (List.replicate m (0 : Int)).map V.int := by
  induction m with
  | zero => rfl
  | succ m ih =>
    rw [List.replicate_succ, List.flatten_cons, ih]
    rfl
theorem last_row {α : Type} : ∀ {ns : List α} {n : Nat} {r d : α}, ns[n]? = some r → ns.length = n + 1 → ns.getLastD d = r
  | [], _, _, _, h, _ => by simp at h
  | [a], 0, r, d, h, _ => by simpa [List.getLastD] using h
  | [a], n + 1, r, d, h, g => by simp at h
  | a :: b :: s, 0, r, d, h, g => by simp at g
  | a :: b :: s, n + 1, r, d, h, g => by
    rw [List.getLastD_cons]
    exact last_row (ns := b :: s) (n := n) (by simpa using h) (by simpa using g)
theorem stp_at {vals acc : List Int} {l : NL} {x y : Int} (hx : acc[l.1.2.toNat]? = some x) (hy : vals[l.1.1.toNat]? = some y) : (acc.map V.int).set l.1.2.toNat (V.int (x + l.2 * y)) = (stp vals acc l).map V.int := by
  unfold stp
  rw [List.getD_eq_getElem?_getD, hx, List.getD_eq_getElem?_getD, hy, List.map_set]
  rfl
theorem flat_take {α : Type} {ss : List (List α)} {i : Nat} {r : List α} (h : ss[i]? = some r) : (ss.take (i + 1)).flatten = (ss.take i).flatten ++ r := by
  rw [take_snoc h, List.flatten_append]
  simp
theorem flat_len {α : Type} {ss : List (List α)} {i : Nat} : ((ss.take i).flatten).length ≤ ss.flatten.length := by
  have h : ss.flatten = (ss.take i).flatten ++ (ss.drop i).flatten := by rw [← List.flatten_append, List.take_append_drop]
  rw [h, List.length_append]
  omega
theorem row_len_flat {α : Type} {ss : List (List α)} {r : List α} (h : r ∈ ss) : r.length ≤ ss.flatten.length := by
  obtain ⟨i, hi⟩ := List.mem_iff_getElem?.mp h
  have h1 := flat_len (ss := ss) (i := i + 1)
  rw [flat_take hi, List.length_append] at h1
  omega
theorem dNum_of {K : PySem.W.Frag} {H : Hp} {l : NL} {a : Addr} (h : H a = some (.tup [.int l.1.1, .int l.1.2, .int l.2])) : Da K H (dNum l) (.ref a) :=
  ⟨a, _, rfl, h, _, _, rfl, rfl, _, _, rfl, rfl, _, _, rfl, rfl, rfl⟩
theorem nums_at {K : PySem.W.Frag} {H : Hp} {ls : List NL} {xs : List V} {i : Nat} {x : V} (h : DaAll K H (ls.map dNum) xs) (hx : xs[i]? = some x) :
    ∃ l, ls[i]? = some l ∧ ∃ a, x = .ref a ∧ SqT K H a [.int l.1.1, .int l.1.2, .int l.2] := by
  obtain ⟨d, hd, hdx⟩ := h.at' hx
  obtain ⟨p, hp, rfl⟩ := map_at hd
  obtain ⟨a, ys, rfl, hS, z1, r1, rfl, e1, z2, r2, rfl, e2, z3, r3, rfl, e3, rfl⟩ := hdx
  obtain rfl := e1
  obtain rfl := e2
  obtain rfl := e3
  exact ⟨p, hp, a, rfl, .inl (.inl hS)⟩
end Nw
/-! Fillings, states and rows of states shown. -/
namespace Nw
open PySem PySem.Spec PyProof.Rows L2
theorem rn_rows {n : Nat} {ls : List NL} {st : List Int} {rows : List (List Int)} (h : st.length = n) : ∀ k, k ≤ rows.length → ∀ z ∈ rn n ls st (rows.take k), z.length = n
  | 0, _, z, hz => by
    obtain rfl : z = st := by simpa [rn] using hz
    exact h
  | k + 1, hk, z, hz => by
    rw [take_snoc (List.getElem?_eq_getElem (show k < rows.length from hk)), rn_snoc] at hz
    rcases List.mem_append.mp hz with hz | hz
    · exact rn_rows h k (by omega) z hz
    · obtain rfl := List.mem_singleton.mp hz
      exact mv_len
theorem NewR.da {K : PySem.W.Frag} {H H' : Hp} {ns : List (List Int)} {L : Addr} {bs : List Addr} (h : NewR H H' ns L bs) (h1 : ∀ r ∈ ns, r.length ≤ 100000) (h2 : ns.length ≤ 100000) : Da K H' (dRows ns) (.ref L) := by
  refine ⟨L, _, rfl, h.at_, rows_of h.len fun k b hb => ?_, by rw [List.length_map]; exact h2⟩
  obtain ⟨_, r, e, g⟩ := h.row k b hb
  exact ⟨r, e, g, h1 r (List.mem_of_getElem? e)⟩
theorem lay_fl (f : Fl) : f.d.canLay0 = true := by simp [Fl.d, PyData.canLay0, PyData.canLayAll0, lay_dInts, lay_dRows]
theorem Sh.ints {r : List Int} {k m : Nat} (hk : 0 < k) (h2 : ∀ x ∈ r, x.natAbs < 2 ^ 1920) (h : ∀ x ∈ r, x.natAbs < 10 ^ k) (hm : r.length ≤ m) : Sh (k + 1) (1 + m) 1 (dInts r) := by
  have e : Sh (k + 1) (1 + 1 * m) (0 + 1) (dInts r) := Sh.list (fun x hx => by
    obtain ⟨y, hy, rfl⟩ := List.mem_map.mp hx
    exact Sh.int hk (h2 y hy) (h y hy)) (by rw [List.length_map]; exact hm)
  exact ⟨e.s, e.l, by have := e.n; omega, e.k⟩
theorem Sh.rows {rs : List (List Int)} {k m j : Nat} (hk : 0 < k) (h2 : ∀ r ∈ rs, ∀ x ∈ r, x.natAbs < 2 ^ 1920) (h : ∀ r ∈ rs, ∀ x ∈ r, x.natAbs < 10 ^ k) (hm : ∀ r ∈ rs, r.length ≤ m) (hj : rs.length ≤ j) :
    Sh (k + 1) (1 + (1 + m) * j) 2 (dRows rs) := Sh.list (fun x hx => by
  obtain ⟨y, hy, rfl⟩ := List.mem_map.mp hx
  exact Sh.ints hk (h2 y hy) (h y hy) (hm y hy)) (by rw [List.length_map]; exact hj)
theorem p1920 : (2 : Nat) ^ 1920 < 10 ^ 580 := by decide +kernel
theorem p40_1920 : (10 : Nat) ^ 40 < 2 ^ 1920 := by decide +kernel
theorem p40 : (10 : Nat) ^ 40 = 10000000000000000000000000000000000000000 := by decide +kernel
theorem small40 {x : Int} (h : x.natAbs < 10000000000000000000000000000000000000000) : x.natAbs < 2 ^ 1920 ∧ x.natAbs < 10 ^ 40 := by
  have h1 : x.natAbs < 10 ^ 40 := by
    rw [p40]
    exact h
  exact ⟨Nat.lt_trans h1 p40_1920, h1⟩
theorem sm_40 {x : Int} (h : Sm x) : x.natAbs < 10000000000000000000000000000000000000000 := by
  have := h.1
  have := h.2
  omega
theorem Sh.pair {p : Int × Int} (h1 : Sm p.1) (h2 : Sm p.2) : Sh 41 3 1 (dPair p) := by
  have e : Sh 41 (1 + 1 * 2) (0 + 1) (dPair p) := Sh.tuple (fun x hx => by
    rcases List.mem_cons.mp hx with rfl | hx
    · exact Sh.int (k := 40) (by decide) (small40 (sm_40 h1)).1 (small40 (sm_40 h1)).2
    · obtain rfl := List.mem_singleton.mp hx
      exact Sh.int (k := 40) (by decide) (small40 (sm_40 h2)).1 (small40 (sm_40 h2)).2) (Nat.le_refl 2)
  exact e
theorem Sh.wide {B n k m j : Nat} {d : PyData} (h : Sh B n k d) (hn : n ≤ m) (hk : k ≤ j) : Sh B m j d := ⟨h.s, h.l, Nat.le_trans h.n hn, Nat.le_trans h.k hk⟩
theorem Wb.Ok.sh {u : Wb} (hu : u.Ok) : Sh 41 12000 3 u.d := by
  have b1 := hu.lo
  have b2 := hu.hi
  have e : Sh 41 (1 + 3901 * 3) (2 + 1) u.d := Sh.tuple (fun x hx => by
    rcases List.mem_cons.mp hx with rfl | hx
    · exact (Sh.int (k := 40) (by decide) (small40 (by omega)).1 (small40 (by omega)).2).wide (by decide) (by decide)
    rcases List.mem_cons.mp hx with rfl | hx
    · have e : Sh 41 (1 + 3 * 1300) (1 + 1) (dPairs u.ps) := Sh.list (fun x hx => by
        obtain ⟨y, hy, rfl⟩ := List.mem_map.mp hx
        have := hu.ps y hy
        exact Sh.pair ⟨this.1.1, by omega⟩ ⟨this.2.1, by omega⟩) (by rw [List.length_map]; exact hu.len)
      exact e
    · obtain rfl := List.mem_singleton.mp hx
      have hs : ∀ r ∈ u.ns, ∀ x ∈ r, x.natAbs < 10000000000000000000000000000000000000000 := by
        intro r hr x hx
        have := (hu.ns r hr).2.1 x hx
        omega
      exact (Sh.rows (k := 40) (m := 20) (j := 8) (by decide) (fun r hr x hx => (small40 (hs r hr x hx)).1) (fun r hr x hx => (small40 (hs r hr x hx)).2) (fun r hr => hu.row hr) hu.few).wide (by decide) (by decide)) (Nat.le_refl 3)
  exact e.wide (by decide) (by decide)
theorem Fl.Ok.sh {u : Wb} {f : Fl} (hu : u.Ok) (h : f.Ok u) : Sh 41 12000 3 f.d := by
  have b1 := hu.len
  have b2 := hu.few
  have hn : ∀ x : Int, NumOk x → x.natAbs < 10000000000000000000000000000000000000000 := by
    intro x hx
    have := hx.2.1
    have := hx.2.2
    omega
  have e : Sh 41 (1 + 1301 * 2) (2 + 1) f.d := Sh.tuple (fun x hx => by
    rcases List.mem_cons.mp hx with rfl | hx
    · exact (Sh.ints (k := 40) (m := 1300) (by decide) (fun x hx => (small40 (hn x (h.num x hx))).1) (fun x hx => (small40 (hn x (h.num x hx))).2) (by rw [h.len]; exact b1)).wide (by decide) (by decide)
    · obtain rfl := List.mem_singleton.mp hx
      refine (Sh.rows (k := 40) (m := 20) (j := 8) (by decide) (fun r hr x hx => (small40 (hn x (h.rnum r hr x hx))).1) (fun r hr x hx => (small40 (hn x (h.rnum r hr x hx))).2) (fun r hr => ?_) (by rw [h.slen]; exact b2)).wide (by decide) (by decide)
      obtain ⟨k, hk⟩ := List.mem_iff_getElem?.mp hr
      have hk2 : k < u.ns.length := by
        rw [← h.slen]
        exact (List.getElem?_eq_some_iff.mp hk).1
      rw [h.rlen hk (List.getElem?_eq_getElem hk2)]
      exact hu.row (List.getElem_mem hk2)) (Nat.le_refl 2)
  exact e.wide (by decide) (by decide)
/-- what repr asks of data that stands -/
theorem repr_of {K : PySem.W.Frag} {H : Hp} {d : PyData} {v : V} {B n k : Nat} (hd : Da K H d v) (hn : d.hasDict = false) (h : Sh B n k d) (hB : 8 ≤ B) (hz : (B + 4) * n ≤ 16000000) (hk : k ≤ 60) :
    Dp K H v d ∧ d.showable = true ∧ d.shown.length ≤ sizeLine ∧ d.depth ≤ 60 := ⟨hd.dp _ _ hn, h.s, h.fit hB hz, Nat.le_trans h.k hk⟩
theorem bd_abs {M x : Int} {N : Nat} (h : Bd M x) (hM : M.toNat < N) (h0 : 0 ≤ M) : x.natAbs < N := by
  have := h.1
  have := h.2
  omega
theorem pow1500 {w : Int} {k : Nat} (h0 : 0 ≤ w) {n : Nat} (hk : k ≤ n) : w * 1500000000 ^ k ≤ w * 1500000000 ^ n := by
  refine Int.mul_le_mul_of_nonneg_left ?_ h0
  have h1 : (1500000000 : Nat) ^ k ≤ 1500000000 ^ n := Nat.pow_le_pow_right (by decide) hk
  have h2 := Int.ofNat_le.mpr h1
  rw [Int.natCast_pow, Int.natCast_pow] at h2
  exact h2
end Nw
namespace Nw
open PySem PySem.Spec PyProof.Rows L2
theorem rn_pre {n : Nat} {ls : List NL} {st : List Int} {rows : List (List Int)} {k i : Nat} (hi : i ≤ k) : ∀ j, k ≤ j → j ≤ rows.length → (rn n ls st (rows.take j))[i]? = (rn n ls st (rows.take k))[i]?
  | 0, h, _ => by
    obtain rfl : k = 0 := by omega
    rfl
  | j + 1, h, hj => by
    by_cases e : k = j + 1
    · rw [e]
    · rw [take_snoc (List.getElem?_eq_getElem (show j < rows.length from hj)), rn_snoc, List.getElem?_append_left, rn_pre hi j (by omega) (by omega)]
      rw [rn_len n ls st rows j (by omega)]
      omega
theorem rn_one {n : Nat} {ls : List NL} {st r : List Int} {rows : List (List Int)} (h : rows[0]? = some r) : (rn n ls st rows)[1]? = some (mv n ls (st ++ r)) := by
  have hl : 0 < rows.length := (List.getElem?_eq_some_iff.mp h).1
  have e := rn_pre (n := n) (ls := ls) (st := st) (rows := rows) (k := 1) (i := 1) (by decide) rows.length (by omega) (by omega)
  rw [List.take_length] at e
  rw [e, show rows.take 1 = rows.take (0 + 1) from rfl, take_snoc h]
  rfl
theorem p6 : (10 : Int) ^ Int.toNat 6 = 1000000 := by decide +kernel
theorem p29 : (10 : Int) ^ Int.toNat 29 = 100000000000000000000000000000 := by decide +kernel
end Nw
/-! Any data of bounded size: put together, cut, looked up. -/
namespace Nw
open PySem PySem.Spec PyProof.Rows L2
def rTupQ (K : PySem.W.Frag) : List V → Hp → VK → Prop := fun xs H Q => ∃ p ys, xs = [.ref p] ∧ ((SqL K H p ys ∧ ∀ l, H l = none → Q (.ref l) (upd H l (.tup ys))) ∨ (SqT K H p ys ∧ Q (.ref p) H))
theorem call_tupleK {X : Cx} (K : PySem.W.Frag) (hK : X.K = K := by rfl) : CallR X (.type "tuple") (rTupQ K) := by
  subst hK
  exact call_tuple_of
def shB (n k : Nat) (d : PyData) : Bool := d.showable && (lf 41 d && (decide (nodes d ≤ n) && decide (d.depth ≤ k)))
theorem shB_sh {n k : Nat} {d : PyData} (h : shB n k d = true) : Sh 41 n k d := by
  simp only [shB, Bool.and_eq_true, decide_eq_true_eq] at h
  exact ⟨h.1, h.2.1, h.2.2.1, h.2.2.2⟩
theorem sh_all {n k : Nat} {ds : List PyData} (h : ds.all (shB n k) = true) : ∀ x ∈ ds, Sh 41 n k x := fun x hx => shB_sh (List.all_eq_true.mp h x hx)
section
variable {K : PySem.W.Frag} {H H' : Hp} {n k m j : Nat}
/-- some data of so many nodes, so deep -/
def Gd (K : PySem.W.Frag) (H : Hp) (n k : Nat) (v : V) : Prop := ∃ d, Da K H d v ∧ Sh 41 n k d
def GdAll (K : PySem.W.Frag) (H : Hp) (n k : Nat) (vs : List V) : Prop := ∃ ds, DaAll K H ds vs ∧ ∀ x ∈ ds, Sh 41 n k x
theorem Gd.up {v : V} (h : Gd K H n k v) (e : Ex H H') : Gd K H' n k v := by
  obtain ⟨d, h1, h2⟩ := h
  exact ⟨d, h1.up e, h2⟩
theorem GdAll.up {vs : List V} (h : GdAll K H n k vs) (e : Ex H H') : GdAll K H' n k vs := by
  obtain ⟨d, h1, h2⟩ := h
  exact ⟨d, h1.up e, h2⟩
theorem Gd.wide {v : V} (h : Gd K H n k v) (hn : n ≤ m) (hk : k ≤ j) : Gd K H m j v := by
  obtain ⟨d, h1, h2⟩ := h
  exact ⟨d, h1, h2.wide hn hk⟩
theorem GdAll.wide {vs : List V} (h : GdAll K H n k vs) (hn : n ≤ m) (hk : k ≤ j) : GdAll K H m j vs := by
  obtain ⟨d, h1, h2⟩ := h
  exact ⟨d, h1, fun x hx => (h2 x hx).wide hn hk⟩
theorem GdAll.nil : GdAll K H n k [] := ⟨[], rfl, fun x hx => by cases hx⟩
theorem GdAll.cons {v : V} {vs : List V} (h : Gd K H n k v) (t : GdAll K H n k vs) : GdAll K H n k (v :: vs) := by
  obtain ⟨d, h1, h2⟩ := h
  obtain ⟨ds, t1, t2⟩ := t
  refine ⟨d :: ds, ⟨_, _, rfl, h1, t1⟩, fun x hx => ?_⟩
  rcases List.mem_cons.mp hx with rfl | hx
  · exact h2
  · exact t2 x hx
theorem GdAll.at {vs : List V} {i : Nat} {x : V} (h : GdAll K H n k vs) (hx : vs[i]? = some x) : Gd K H n k x := by
  obtain ⟨ds, h1, h2⟩ := h
  obtain ⟨d, hd, hdx⟩ := h1.at' hx
  exact ⟨d, hdx, h2 d (List.mem_of_getElem? hd)⟩
theorem GdAll.app {vs ws : List V} (h : GdAll K H n k vs) (g : GdAll K H n k ws) : GdAll K H n k (vs ++ ws) := by
  obtain ⟨ds, h1, h2⟩ := h
  obtain ⟨es, g1, g2⟩ := g
  refine ⟨ds ++ es, h1.app g1, fun x hx => ?_⟩
  rcases List.mem_append.mp hx with hx | hx
  · exact h2 x hx
  · exact g2 x hx
theorem DaAll.of_mem : ∀ {ds : List PyData} {vs ws : List V}, DaAll K H ds vs → (∀ x ∈ ws, x ∈ vs) → ∃ es, DaAll K H es ws ∧ ∀ e ∈ es, e ∈ ds
  | ds, vs, [], _, _ => ⟨[], rfl, fun e he => by cases he⟩
  | ds, vs, w :: ws, h, hm => by
    obtain ⟨es, h1, h2⟩ := DaAll.of_mem h (ws := ws) fun x hx => hm x (List.mem_cons_of_mem _ hx)
    obtain ⟨d, hd, hdw⟩ := h.mem w (hm w (by simp))
    refine ⟨d :: es, ⟨_, _, rfl, hdw, h1⟩, fun e he => ?_⟩
    rcases List.mem_cons.mp he with rfl | he
    · exact hd
    · exact h2 e he
theorem GdAll.sub {vs ws : List V} (h : GdAll K H n k vs) (hm : ∀ x ∈ ws, x ∈ vs) : GdAll K H n k ws := by
  obtain ⟨ds, h1, h2⟩ := h
  obtain ⟨es, g1, g2⟩ := DaAll.of_mem h1 hm
  exact ⟨es, g1, fun x hx => h2 x (g2 x hx)⟩
theorem GdAll.cut {vs : List V} {lo hi : Option Int} (h : GdAll K H n k vs) : GdAll K H n k (cutV vs lo hi) := h.sub fun x hx => List.mem_of_mem_drop (List.mem_of_mem_take hx)
theorem GdAll.rev {vs : List V} (h : GdAll K H n k vs) : GdAll K H n k vs.reverse := h.sub fun x hx => List.mem_reverse.mp hx
theorem Gd.list {a : Addr} {vs : List V} (h : H a = some (.lst vs)) (g : GdAll K H n k vs) (hl : vs.length ≤ m) (hm : m ≤ 100000) : Gd K H (1 + n * m) (k + 1) (.ref a) := by
  obtain ⟨ds, h1, h2⟩ := g
  have e := h1.len
  exact ⟨.list ds, ⟨a, vs, rfl, h, h1, by omega⟩, Sh.list h2 (by omega)⟩
theorem Gd.tup {a : Addr} {vs : List V} (h : H a = some (.tup vs)) (g : GdAll K H n k vs) (hl : vs.length ≤ m) : Gd K H (1 + n * m) (k + 1) (.ref a) := by
  obtain ⟨ds, h1, h2⟩ := g
  have e := h1.len
  exact ⟨.tuple ds, ⟨a, vs, rfl, h, h1⟩, Sh.tuple h2 (by omega)⟩
theorem Gd.non : Gd K H (n + 1) k .non := ⟨.none, rfl, ⟨rfl, rfl, by simp only [nodes]; omega, by simp only [PyData.depth]; omega⟩⟩
theorem Gd.bl {b : Bool} : Gd K H (n + 1) k (.bl b) := ⟨.bool b, rfl, ⟨rfl, rfl, by simp only [nodes]; omega, by simp only [PyData.depth]; omega⟩⟩
theorem Gd.int {i : Int} (h : i.natAbs < 10000000000000000000000000000000000000000) : Gd K H (n + 1) k (.int i) :=
  ⟨.int i, rfl, (Sh.int (k := 40) (by decide) (small40 h).1 (small40 h).2).wide (by omega) (by omega)⟩
theorem Gd.str {x : Str} (h : (PyData.shown (.str x)).length ≤ 41) : Gd K H (n + 1) k (.str x) :=
  ⟨.str x, rfl, ⟨rfl, by simpa only [lf, decide_eq_true_eq] using h, by simp only [nodes]; omega, by simp only [PyData.depth]; omega⟩⟩
theorem Gd.dict0 {a : Addr} (h : H a = some (.dK [])) : Gd K H (n + 1) (k + 1) (.ref a) :=
  ⟨.dict [], ⟨a, [], rfl, h, rfl, rfl⟩, ⟨rfl, rfl, by simp only [nodes, nodesKv]; omega, by simp only [PyData.depth, PyData.depthKv]; omega⟩⟩
/-- a dict of one text and one value -/
theorem Gd.dict1 {a : Addr} {x : Str} {v : V} (h : H a = some (.dK [(Sum.inr x, v)])) (hx : (PyData.shown (.str x)).length ≤ 41) (g : Gd K H n k v) : Gd K H (n + 2) (k + 1) (.ref a) := by
  obtain ⟨d, h1, h2⟩ := g
  refine ⟨.dict [(.str x, d)], ⟨a, _, rfl, h, rfl, _, _, rfl, h1, rfl⟩, ⟨?_, ?_, ?_, ?_⟩⟩
  · have := h2.s
    simp only [PyData.showable, PyData.showableKv, this, Bool.and_true]
  · have := h2.l
    simp only [lf, lfKv, this, Bool.and_true, Bool.and_eq_true, decide_eq_true_eq]
    exact hx
  · have := h2.n
    simp only [nodes, nodesKv]
    omega
  · have := h2.k
    simp only [PyData.depth, PyData.depthKv]
    omega
theorem Gd.of {d : PyData} {v : V} (h : Da K H d v) (hs : Sh 41 n k d) : Gd K H n k v := ⟨d, h, hs⟩
end
end Nw
/-! Texts of webs. -/
namespace Nw
open PySem PySem.Spec PyProof.Rows L2 TL
section
variable {X : Cx}
theorem pe_joinK (K : PySem.W.Frag) {o e : Expr} {to te : TE} {apos pos : Pos} (ho : PE X o to) (he : PE X e te) (hK : X.K = K := by rfl) (hs : starEach [e] X.env = [(false, eval e X.env)] := by rfl) (hbase : attributeBase o "join" X.env (eval o X.env) = eval o X.env := by rfl) (hline : (apos.endLine == pos.line) = true := by rfl) :
    PE X (.Call (.Attribute o "join" apos) [e] [] pos) (tM1 (fun x xs H Q => ∃ a p, ∃ ys : List Str, x = .str a ∧ xs = [.ref p] ∧ (SqL K H p (ys.map V.str) ∨ SqT K H p (ys.map V.str)) ∧
      (ys.map (·.length)).sum + ys.length * a.length ≤ 16777216 ∧ Q (.str (Txt.join a ys)) H) to te) := by
  subst hK
  exact pe_join ho he hs hbase hline
theorem pe_orTK (K : PySem.W.Frag) {a b : Expr} {ta tb : TE} {rest : List Expr} {pos : Pos} (ha : PE X a ta) (hb : PE X (.BoolOp .Or (b :: rest) pos) tb) (hK : X.K = K := by rfl) : PE X (.BoolOp .Or (a :: b :: rest) pos) (tOrT K ta tb) := by
  subst hK
  exact pe_orT ha hb
/-- x or y, a text that may be empty, and another one -/
theorem pe_orSK (K : PySem.W.Frag) {a b : Expr} {c : Str} {ta : TE} {rest : List Expr} {pos : Pos} (ha : PE X a ta) (hb : PE X (.BoolOp .Or (b :: rest) pos) (tC (.str c))) (hK : X.K = K := by rfl) :
    PE X (.BoolOp .Or (a :: b :: rest) pos) (fun σ H Q => ta σ H fun x H1 => ∃ y : Str, x = .str y ∧ y.length ≤ sizeLine ∧ Q (.str (if y.length = 0 then c else y)) H1) := by
  refine ⟨fun pins s σ H Q I h => ?_⟩
  refine BoolOp_or (thn (ha.run pins s σ H _ I h) fun v s1 hv => ?_)
  obtain ⟨x, H1, I1, r1, y, rfl, hy, q1⟩ := hv
  refine thn (tru_ok pins s1 σ H1 (.str y) v (fun d H2 => d = ((y.length : Int) != 0) ∧ H2 = H1) I1 r1 ⟨_, ⟨hy, rfl⟩, rfl, rfl⟩) fun d s2 hd => ?_
  obtain ⟨H2, I2, e1, e2⟩ := hd
  subst e2
  by_cases h0 : y.length = 0
  · rw [if_pos h0] at q1
    have e3 : d = false := by
      rw [e1, h0]
      rfl
    subst e3
    exact hb.run pins s2 σ H2 Q I2 q1
  · rw [if_neg h0] at q1
    have e3 : d = true := by
      rw [e1, bne_iff_ne]
      omega
    subst e3
    exact ⟨.str y, H2, I2, r1, q1⟩
/-- f'..' by a name of its own, so that it stands in a comprehension's block -/
def tJoined (ts : List TE) : TE := fun σ H Q => tJs ts Str.empty σ H fun out H1 => Q (.str out) H1
theorem pe_joinedT {v1 v2 : Expr} {rest : List Expr} {ts : List TE} {pos : Pos} (h : PJ X (v1 :: v2 :: rest) ts) : PE X (.JoinedStr (v1 :: v2 :: rest) pos) (tJoined ts) := pe_joined h
theorem pe_globS {x : Str} {n : Str} {pos : Pos} (hm : ∃ t, X.mg x = some (.str n t)) (hg : Gl X x := by rfl)
    (hd : (x == ("__debug__" : Str)) = false := by decide) : PE X (.Name x pos) (tC (.str n)) := by
  obtain ⟨t, h⟩ := hm
  exact pe_glob hg h ⟨t, rfl⟩ hd
end
/-- x if x != '' else '-' -/
theorem if_ne_str {σ : L2.St} {H : Hp} {Q : VK} {i : Nat} {J : Str} (hσ : σ[i]? = some (some (.str J))) (q : Q (.str (if J.length = 0 then "-" else J)) H) :
    tIf (tTest (tOp rNe (tVar i) (tC (.str "")))) (tVar i) (tC (.str "-")) σ H Q := by
  refine ⟨_, hσ, rfl, _, rfl, ite2 (fun h => ⟨_, hσ, ?_⟩) (fun h => ?_)⟩
  · have hn : J.length ≠ 0 := fun e => by
      have : J = "" := TL.ext_tl ((List.length_eq_zero_iff.mp (by rw [← TL.len_tl]; exact e) : TL.tl J = []).trans (by decide +kernel))
      rw [this] at h
      exact absurd h (by decide +kernel)
    rw [if_neg hn] at q
    exact q
  · have he : J = "" := by simpa using h
    subst he
    exact q
/-! ### numbers -/
abbrev nS (i : Int) : Str := toString i
theorem tl_nS {i : Int} (h : 0 ≤ i) : tl (nS i) = numL i.toNat := by
  have e : ((i.toNat : Nat) : Int) = i := Int.toNat_of_nonneg h
  have := tl_num i.toNat
  rw [e] at this
  exact this
theorem digit_lt : ∀ c : Fin 128, Unicode.isDigit c.val = true → 48 ≤ c.val ∧ c.val ≤ 57 := by decide +kernel
theorem ascii_digits {w : Str} (h1 : Txt.isascii w = true) (h2 : Txt.isdigit w = true) : NumText.AllDigits w.cps.toList ∧ w.cps.toList ≠ [] := by
  unfold Txt.isascii at h1
  unfold Txt.isdigit at h2
  rw [Bool.and_eq_true] at h2
  obtain ⟨h3, h4⟩ := h2
  rw [← Array.all_toList, List.all_eq_true] at h1 h4
  refine ⟨fun c hc => ?_, fun e => ?_⟩
  · have a := h1 c hc
    exact digit_lt ⟨c, by simpa using a⟩ (h4 c hc)
  · have a : w.length = 0 := by
      show w.cps.size = 0
      rw [← Array.length_toList, e]
      rfl
    rw [a] at h3
    simp at h3
/-- the number that a word is -/
def numW (w : Str) : Option Int := if !Txt.isascii w || (!Txt.isdigit w || decide ((30 : Int) < (w.length : Int))) then none else if !decide (V.str w = V.str "0") && Txt.startswith w "0" then none else some ((NumText.digitsVal w.cps.toList : Nat) : Int)
def oV : Option Int → V
  | none => .non
  | some i => .int i
theorem num_small : ∀ n : Fin 32, numW (nS (n.val : Int)) = some (n.val : Int) := by decide +kernel
theorem numW_nS {i : Int} (h0 : 0 ≤ i) (h1 : i < 32) : numW (nS i) = some i := by
  have e : ((i.toNat : Nat) : Int) = i := Int.toNat_of_nonneg h0
  have := num_small ⟨i.toNat, by omega⟩
  simp only [e] at this
  exact this
theorem len_nS {i : Int} (h0 : 0 ≤ i) (h1 : i < 100) : (nS i).length ≤ 2 := by
  rw [len_tl, tl_nS h0]
  exact numL_len (by decide) (by omega)
theorem pos_nS {i : Int} (h0 : 0 ≤ i) : 0 < (nS i).length := by
  rw [len_tl, tl_nS h0]
  exact List.length_pos_iff.mpr (numL_ne _)
theorem log_small : ∀ n : Fin 100, ((n.val : Int)).natAbs.log2 < 1920 := by decide +kernel
theorem log_nS {i : Int} (h0 : 0 ≤ i) (h1 : i < 100) : i.natAbs.log2 < 1920 := by
  have e : ((i.toNat : Nat) : Int) = i := Int.toNat_of_nonneg h0
  have := log_small ⟨i.toNat, by omega⟩
  simp only [e] at this
  exact this
theorem app_len (x y : Str) : (x ++ y).length = x.length + y.length := by rw [len_tl, tl_append, List.length_append, ← len_tl, ← len_tl]
theorem le_line {n : Nat} (h : n ≤ 1000000) : n ≤ sizeLine := Nat.le_trans h (by decide)
theorem no_len : Str.empty.length = 0 := rfl
/-! ### joined -/
theorem joinL_len (S : List Nat) : ∀ ps : List (List Nat), (joinL S ps).length ≤ (ps.map (·.length)).sum + ps.length * S.length
  | [] => by simp [joinL]
  | [p] => by simp [joinL]
  | p :: q :: r => by
    have ih := joinL_len S (q :: r)
    simp only [joinL, List.length_append, List.map_cons, List.sum_cons, List.length_cons] at ih ⊢
    have e : (r.length + 1 + 1) * S.length = (r.length + 1) * S.length + S.length := Nat.succ_mul _ _
    omega
theorem mem_joinL {S : List Nat} {c : Nat} : ∀ {ps : List (List Nat)}, c ∈ joinL S ps → c ∈ S ∨ ∃ p ∈ ps, c ∈ p
  | [], h => by cases h
  | [p], h => .inr ⟨p, by simp, h⟩
  | p :: q :: r, h => by
    rcases List.mem_append.mp h with h | h
    · exact .inr ⟨p, by simp, h⟩
    · rcases List.mem_append.mp h with h | h
      · exact .inl h
      · rcases mem_joinL h with h | ⟨z, h1, h2⟩
        · exact .inl h
        · exact .inr ⟨z, List.mem_cons_of_mem _ h1, h2⟩
theorem tl_txtJoin (a : Str) (ys : List Str) : tl (Txt.join a ys) = joinL (tl a) (ys.map tl) := by rw [join_eq, tl_join]
theorem join_len (a : Str) (ys : List Str) : (Txt.join a ys).length ≤ (ys.map (·.length)).sum + ys.length * a.length := by
  rw [len_tl, tl_txtJoin, len_tl a]
  have h := joinL_len (tl a) (ys.map tl)
  rw [List.map_map, List.length_map] at h
  have e : ys.map ((fun x => x.length) ∘ tl) = ys.map (·.length) := List.map_congr_left fun y _ => (len_tl y).symm
  rw [e] at h
  exact h
theorem sum_le {m : Nat} : ∀ {l : List Nat}, (∀ x ∈ l, x ≤ m) → l.sum ≤ l.length * m
  | [], _ => by simp
  | x :: l, h => by
    have h1 := h x (by simp)
    have h2 := sum_le (l := l) fun z hz => h z (List.mem_cons_of_mem _ hz)
    simp only [List.sum_cons, List.length_cons]
    have e : (l.length + 1) * m = l.length * m + m := Nat.succ_mul _ _
    omega
theorem lens_le {ys : List Str} {m : Nat} (h : ∀ y ∈ ys, y.length ≤ m) : (ys.map (·.length)).sum ≤ ys.length * m := by
  have := sum_le (m := m) (l := ys.map (·.length)) fun x hx => by
    obtain ⟨y, hy, rfl⟩ := List.mem_map.mp hx
    exact h y hy
  rw [List.length_map] at this
  exact this
/-- room for a join: k words of at most m signs, the sign between of at most 2 -/
theorem join_room {ys : List Str} {a : Str} {m k : Nat} (h : ∀ y ∈ ys, y.length ≤ m) (hk : ys.length ≤ k) (ha : a.length ≤ 2) (hb : k * (m + 2) ≤ 16777216) : (ys.map (·.length)).sum + ys.length * a.length ≤ 16777216 := by
  have h1 := lens_le h
  have h2 : ys.length * a.length ≤ ys.length * 2 := Nat.mul_le_mul_left _ ha
  have h3 : ys.length * (m + 2) ≤ k * (m + 2) := Nat.mul_le_mul_right _ hk
  have h4 : ys.length * (m + 2) = ys.length * m + ys.length * 2 := Nat.mul_add _ _ _
  omega
theorem join_short {ys : List Str} {a : Str} {m k : Nat} (h : ∀ y ∈ ys, y.length ≤ m) (hk : ys.length ≤ k) (ha : a.length ≤ 2) : (Txt.join a ys).length ≤ k * (m + 2) := by
  have h0 := join_len a ys
  have h1 := lens_le h
  have h2 : ys.length * a.length ≤ ys.length * 2 := Nat.mul_le_mul_left _ ha
  have h3 : ys.length * (m + 2) ≤ k * (m + 2) := Nat.mul_le_mul_right _ hk
  have h4 : ys.length * (m + 2) = ys.length * m + ys.length * 2 := Nat.mul_add _ _ _
  omega
theorem join_none {a : Str} : Txt.join a [] = Str.empty := by rw [join_eq]; rfl
theorem join_pos {a y : Str} {ys : List Str} (h : 0 < y.length) : 0 < (Txt.join a (y :: ys)).length := by
  rw [len_tl, tl_txtJoin]
  rw [len_tl] at h
  cases ys with
  | nil => exact h
  | cons z r =>
    simp only [List.map_cons, joinL, List.length_append]
    omega
/-- the signs of texts of webs -/
def Sign (c : Nat) : Prop := c = 32 ∨ c = 44 ∨ c = 45 ∨ c = 62 ∨ (48 ≤ c ∧ c ≤ 57)
theorem sign_nS {i : Int} (h : 0 ≤ i) : ∀ c ∈ tl (nS i), 48 ≤ c ∧ c ≤ 57 := fun c hc => by
  rw [tl_nS h] at hc
  exact numL_digits _ c hc
/-- a pair's word -/
def pS (p : Int × Int) : Str := Txt.join ">" [nS p.1, nS p.2]
theorem pS_add (a b : Int) : nS a ++ (">" : Str) ++ nS b = pS (a, b) := by
  unfold pS
  rw [join_eq]
  rfl
theorem pS_fmt (a b : Int) : ((Str.empty ++ nS a) ++ (">" : Str)) ++ nS b = pS (a, b) := by
  rw [← pS_add]
  refine ext_tl ?_
  rw [tl_append, tl_append, tl_append, tl_append, tl_append]
  rfl
def rS (r : List Int) : Str := Txt.join "," (r.map nS)
def psS (ps : List (Int × Int)) : Str := if ps = [] then "-" else Txt.join " " (ps.map pS)
def nsS (ns : List (List Int)) : Str := if ns = [] then "-" else Txt.join " " (ns.map rS)
def webS (u : Wb) : Str := Txt.join "; " [nS u.n, psS u.ps, nsS u.ns]
theorem tl_gt : tl (">" : Str) = [62] := by decide +kernel
theorem tl_cm : tl ("," : Str) = [44] := by decide +kernel
theorem tl_sp : tl (" " : Str) = [32] := by decide +kernel
theorem tl_se : tl ("; " : Str) = [59, 32] := by decide +kernel
theorem tl_da : tl ("-" : Str) = [45] := by decide +kernel
theorem sign_pS {p : Int × Int} (h1 : 0 ≤ p.1) (h2 : 0 ≤ p.2) : ∀ c ∈ tl (pS p), c = 62 ∨ (48 ≤ c ∧ c ≤ 57) := fun c hc => by
  unfold pS at hc
  rw [tl_txtJoin, tl_gt] at hc
  rcases mem_joinL hc with h | ⟨z, h, h'⟩
  · exact .inl (List.mem_singleton.mp h)
  · rw [List.map_cons, List.map_cons, List.map_nil] at h
    rcases List.mem_cons.mp h with rfl | h
    · exact .inr (sign_nS h1 c h')
    · obtain rfl := List.mem_singleton.mp h
      exact .inr (sign_nS h2 c h')
theorem sign_rS {r : List Int} (h : ∀ x ∈ r, 0 ≤ x) : ∀ c ∈ tl (rS r), c = 44 ∨ (48 ≤ c ∧ c ≤ 57) := fun c hc => by
  unfold rS at hc
  rw [tl_txtJoin, tl_cm] at hc
  rcases mem_joinL hc with h1 | ⟨z, h1, h2⟩
  · exact .inl (List.mem_singleton.mp h1)
  · rw [List.map_map] at h1
    obtain ⟨x, hx, rfl⟩ := List.mem_map.mp h1
    exact .inr (sign_nS (h x hx) c h2)
theorem sign_psS {ps : List (Int × Int)} (h : ∀ p ∈ ps, 0 ≤ p.1 ∧ 0 ≤ p.2) : ∀ c ∈ tl (psS ps), Sign c := fun c hc => by
  unfold psS at hc
  split at hc
  · rw [tl_da] at hc
    have := List.mem_singleton.mp hc
    exact .inr (.inr (.inl this))
  · rw [tl_txtJoin, tl_sp] at hc
    rcases mem_joinL hc with h1 | ⟨z, h1, h2⟩
    · exact .inl (List.mem_singleton.mp h1)
    · rw [List.map_map] at h1
      obtain ⟨x, hx, rfl⟩ := List.mem_map.mp h1
      rcases sign_pS (h x hx).1 (h x hx).2 c h2 with h3 | h3
      · exact .inr (.inr (.inr (.inl h3)))
      · exact .inr (.inr (.inr (.inr h3)))
theorem sign_nsS {ns : List (List Int)} (h : ∀ r ∈ ns, ∀ x ∈ r, 0 ≤ x) : ∀ c ∈ tl (nsS ns), Sign c := fun c hc => by
  unfold nsS at hc
  split at hc
  · rw [tl_da] at hc
    have := List.mem_singleton.mp hc
    exact .inr (.inr (.inl this))
  · rw [tl_txtJoin, tl_sp] at hc
    rcases mem_joinL hc with h1 | ⟨z, h1, h2⟩
    · exact .inl (List.mem_singleton.mp h1)
    · rw [List.map_map] at h1
      obtain ⟨x, hx, rfl⟩ := List.mem_map.mp h1
      rcases sign_rS (h x hx) c h2 with h3 | h3
      · exact .inr (.inl h3)
      · exact .inr (.inr (.inr (.inr h3)))
/-! ### read back -/
theorem split_pS {p : Int × Int} (h1 : 0 ≤ p.1) (h2 : 0 ≤ p.2) : Txt.split (pS p) ">" = [nS p.1, nS p.2] :=
  split_join tl_gt (by decide +kernel) (by simp) fun w hw => by
    rcases List.mem_cons.mp hw with rfl | hw
    · exact fun hc => by
        have := sign_nS h1 _ hc
        omega
    · obtain rfl := List.mem_singleton.mp hw
      exact fun hc => by
        have := sign_nS h2 _ hc
        omega
theorem split_rS {r : List Int} (hr : r ≠ []) (h : ∀ x ∈ r, 0 ≤ x) : Txt.split (rS r) "," = r.map nS :=
  split_join tl_cm (by decide +kernel) (fun e => hr (List.map_eq_nil_iff.mp e)) fun w hw => by
    obtain ⟨x, hx, rfl⟩ := List.mem_map.mp hw
    exact fun hc => by
      have := sign_nS (h x hx) _ hc
      omega
theorem split_psS {ps : List (Int × Int)} (hn : ps ≠ []) (h : ∀ p ∈ ps, 0 ≤ p.1 ∧ 0 ≤ p.2) : Txt.split (psS ps) " " = ps.map pS := by
  unfold psS
  rw [if_neg hn]
  refine split_join tl_sp (by decide +kernel) (fun e => hn (List.map_eq_nil_iff.mp e)) fun w hw => ?_
  obtain ⟨x, hx, rfl⟩ := List.mem_map.mp hw
  exact fun hc => by
    have := sign_pS (h x hx).1 (h x hx).2 _ hc
    omega
theorem split_nsS {ns : List (List Int)} (hn : ns ≠ []) (h : ∀ r ∈ ns, ∀ x ∈ r, 0 ≤ x) : Txt.split (nsS ns) " " = ns.map rS := by
  unfold nsS
  rw [if_neg hn]
  refine split_join tl_sp (by decide +kernel) (fun e => hn (List.map_eq_nil_iff.mp e)) fun w hw => ?_
  obtain ⟨x, hx, rfl⟩ := List.mem_map.mp hw
  exact fun hc => by
    have := sign_rS (h x hx) _ hc
    omega
theorem split_webS {u : Wb} (hu : u.Ok) : Txt.split (webS u) "; " = [nS u.n, psS u.ps, nsS u.ns] := by
  have b1 := hu.lo
  refine split_join tl_se (by decide +kernel) (by simp) fun w hw => ?_
  have no : ∀ {l : List Nat}, (∀ c ∈ l, Sign c) → 59 ∉ l := fun h hc => by
    have := h _ hc
    unfold Sign at this
    omega
  rcases List.mem_cons.mp hw with rfl | hw
  · exact no fun c hc => .inr (.inr (.inr (.inr (sign_nS (by omega) c hc))))
  · rcases List.mem_cons.mp hw with rfl | hw
    · exact no (sign_psS fun p hp => ⟨(hu.ps p hp).1.1, (hu.ps p hp).2.1⟩)
    · obtain rfl := List.mem_singleton.mp hw
      exact no (sign_nsS fun r hr x hx => ((hu.ns r hr).2.1 x hx).1)
theorem psS_ne {ps : List (Int × Int)} (hn : ps ≠ []) (h : ∀ p ∈ ps, 0 ≤ p.1 ∧ 0 ≤ p.2) : psS ps ≠ "-" := fun e => by
  have e2 := congrArg tl e
  unfold psS at e2
  rw [if_neg hn, tl_da] at e2
  cases ps with
  | nil => exact hn rfl
  | cons p r =>
    have h0 : 45 ∈ tl (Txt.join " " ((p :: r).map pS)) := by rw [e2]; simp
    rw [tl_txtJoin, tl_sp] at h0
    rcases mem_joinL h0 with h1 | ⟨z, h1, h2⟩
    · have := List.mem_singleton.mp h1
      omega
    · rw [List.map_map] at h1
      obtain ⟨x, hx, rfl⟩ := List.mem_map.mp h1
      have := sign_pS (h x hx).1 (h x hx).2 _ h2
      omega
theorem nsS_ne {ns : List (List Int)} (hn : ns ≠ []) (h : ∀ r ∈ ns, ∀ x ∈ r, 0 ≤ x) : nsS ns ≠ "-" := fun e => by
  have e2 := congrArg tl e
  unfold nsS at e2
  rw [if_neg hn, tl_da] at e2
  have h0 : 45 ∈ tl (Txt.join " " (ns.map rS)) := by rw [e2]; simp
  rw [tl_txtJoin, tl_sp] at h0
  rcases mem_joinL h0 with h1 | ⟨z, h1, h2⟩
  · have := List.mem_singleton.mp h1
    omega
  · rw [List.map_map] at h1
    obtain ⟨x, hx, rfl⟩ := List.mem_map.mp h1
    have := sign_rS (h x hx) _ h2
    omega
/-! ### sizes -/
theorem len_pS {p : Int × Int} (h1 : 0 ≤ p.1 ∧ p.1 < 100) (h2 : 0 ≤ p.2 ∧ p.2 < 100) : (pS p).length ≤ 8 ∧ 0 < (pS p).length := by
  have a := len_nS h1.1 h1.2
  have b := len_nS h2.1 h2.2
  refine ⟨?_, join_pos (pos_nS h1.1)⟩
  refine Nat.le_trans (join_short (m := 2) (k := 2) (fun y hy => ?_) (by show 2 ≤ 2; decide) (by decide +kernel)) (by decide)
  rcases List.mem_cons.mp hy with rfl | hy
  · exact a
  · obtain rfl := List.mem_singleton.mp hy
    exact b
theorem len_rS {r : List Int} (h : ∀ x ∈ r, 0 ≤ x ∧ x < 100) (hl : r.length ≤ 20) : (rS r).length ≤ 80 := by
  refine Nat.le_trans (join_short (m := 2) (k := 20) (fun y hy => ?_) (by rw [List.length_map]; exact hl) (by decide +kernel)) (by decide)
  obtain ⟨x, hx, rfl⟩ := List.mem_map.mp hy
  exact len_nS (h x hx).1 (h x hx).2
theorem pos_rS {r : List Int} (hr : r ≠ []) (h : ∀ x ∈ r, 0 ≤ x) : 0 < (rS r).length := by
  cases r with
  | nil => exact absurd rfl hr
  | cons x r => exact join_pos (pos_nS (h x (by simp)))
theorem len_psJ {ps : List (Int × Int)} (h : ∀ p ∈ ps, (0 ≤ p.1 ∧ p.1 < 100) ∧ (0 ≤ p.2 ∧ p.2 < 100)) (hl : ps.length ≤ 1300) : (Txt.join " " (ps.map pS)).length ≤ 13000 :=
  join_short (m := 8) (k := 1300) (fun y hy => by
    obtain ⟨x, hx, rfl⟩ := List.mem_map.mp hy
    exact (len_pS (h x hx).1 (h x hx).2).1) (by rw [List.length_map]; exact hl) (by decide +kernel)
theorem len_nsJ {ns : List (List Int)} (h : ∀ r ∈ ns, r.length ≤ 20 ∧ ∀ x ∈ r, 0 ≤ x ∧ x < 100) (hl : ns.length ≤ 20) : (Txt.join " " (ns.map rS)).length ≤ 1640 :=
  join_short (m := 80) (k := 20) (fun y hy => by
    obtain ⟨x, hx, rfl⟩ := List.mem_map.mp hy
    exact len_rS (h x hx).2 (h x hx).1) (by rw [List.length_map]; exact hl) (by decide +kernel)
theorem or_psS {ps : List (Int × Int)} (h : ∀ p ∈ ps, (0 ≤ p.1 ∧ p.1 < 100) ∧ (0 ≤ p.2 ∧ p.2 < 100)) : (if (Txt.join " " (ps.map pS)).length = 0 then ("-" : Str) else Txt.join " " (ps.map pS)) = psS ps := by
  unfold psS
  cases ps with
  | nil => rfl
  | cons p r =>
    have h1 := join_pos (a := " ") (ys := r.map pS) (len_pS (h p (by simp)).1 (h p (by simp)).2).2
    rw [List.map_cons, if_neg (show ¬ (Txt.join " " (pS p :: r.map pS)).length = 0 by omega), if_neg (show ¬ p :: r = [] by simp)]
theorem or_nsS {ns : List (List Int)} (h : ∀ r ∈ ns, r ≠ [] ∧ ∀ x ∈ r, 0 ≤ x) : (if (Txt.join " " (ns.map rS)).length = 0 then ("-" : Str) else Txt.join " " (ns.map rS)) = nsS ns := by
  unfold nsS
  cases ns with
  | nil => rfl
  | cons p r =>
    have h1 := join_pos (a := " ") (ys := r.map rS) (pos_rS (h p (by simp)).1 (h p (by simp)).2)
    rw [List.map_cons, if_neg (show ¬ (Txt.join " " (rS p :: r.map rS)).length = 0 by omega), if_neg (show ¬ p :: r = [] by simp)]
theorem len_psS {ps : List (Int × Int)} (h : ∀ p ∈ ps, (0 ≤ p.1 ∧ p.1 < 100) ∧ (0 ≤ p.2 ∧ p.2 < 100)) (hl : ps.length ≤ 1300) : (psS ps).length ≤ 13000 := by
  unfold psS
  split
  · decide +kernel
  · exact len_psJ h hl
theorem len_nsS {ns : List (List Int)} (h : ∀ r ∈ ns, r.length ≤ 20 ∧ ∀ x ∈ r, 0 ≤ x ∧ x < 100) (hl : ns.length ≤ 20) : (nsS ns).length ≤ 1640 := by
  unfold nsS
  split
  · decide +kernel
  · exact len_nsJ h hl
/-- what is needed of a web here -/
structure Wb.Sm (u : Wb) : Prop where
  n : 0 ≤ u.n ∧ u.n < 32
  ps : ∀ p ∈ u.ps, (0 ≤ p.1 ∧ p.1 < 32) ∧ (0 ≤ p.2 ∧ p.2 < 32)
  pl : u.ps.length ≤ 1300
  ns : ∀ r ∈ u.ns, r ≠ [] ∧ r.length ≤ 20 ∧ ∀ x ∈ r, 0 ≤ x ∧ x < 32
  nl : u.ns.length ≤ 8
theorem Wb.Ok.sml {u : Wb} (h : u.Ok) : u.Sm := by
  have b1 := h.lo
  have b2 := h.hi
  refine ⟨by omega, fun p hp => by have := h.ps p hp; omega, h.len, fun r hr => ?_, h.few⟩
  obtain ⟨h1, h2, h3⟩ := h.ns r hr
  exact ⟨h1, h.row hr, fun x hx => by have := h2 x hx; omega⟩
theorem len_webS {u : Wb} (h : u.Sm) : (webS u).length ≤ 40000 := by
  refine Nat.le_trans (join_short (m := 13000) (k := 3) (fun y hy => ?_) (by show 3 ≤ 3; decide) (by decide +kernel)) (by decide)
  have hn := h.n
  rcases List.mem_cons.mp hy with rfl | hy
  · exact Nat.le_trans (len_nS hn.1 (by omega)) (by decide)
  · rcases List.mem_cons.mp hy with rfl | hy
    · exact len_psS (fun p hp => by have := h.ps p hp; omega) h.pl
    · obtain rfl := List.mem_singleton.mp hy
      exact Nat.le_trans (len_nsS (fun r hr => ⟨(h.ns r hr).2.1, fun x hx => by have := (h.ns r hr).2.2 x hx; omega⟩) (by have := h.nl; omega)) (by decide)
/-! ### none of the values is None -/
theorem eqv_none (z : PyData) (h : z ≠ .none) : PyData.eqv z .none = false := by
  cases z <;> first | exact absurd rfl h | rfl | simp [PyData.eqv]
theorem any_none {ds : List PyData} (h : ∀ z ∈ ds, z ≠ .none) : (ds.any fun z => PyData.eqv z .none) = false := by
  rw [List.any_eq_false]
  intro z hz
  rw [eqv_none z (h z hz)]
  exact Bool.false_ne_true
end Nw
/-! What the package's looks at values answer, read back; what a call of the package is due. -/
namespace Nw
open PySem PySem.Spec PyProof.Rows L2
theorem targetsB_inv {d : PyData} {m : Int} (h : targetsB d m = true) : ∃ r, d = dInts r ∧ r ≠ [] ∧ (∀ t ∈ r, 0 ≤ t ∧ t < m) ∧ ascB ltIn r = true := by
  cases d with
  | list ds =>
    simp only [targetsB, Bool.and_eq_true, decide_eq_true_eq] at h
    obtain ⟨h1, h2, h3⟩ := h
    obtain ⟨ns, rfl, hn⟩ := ints_of_all h1
    rw [intsOf_map] at h3
    rw [List.length_map] at h2
    exact ⟨ns, rfl, List.length_pos_iff.mp h2, hn, h3⟩
  | _ => simp [targetsB] at h
theorem tuplesB_inv {d : PyData} {m n : Int} (h : tuplesB d m n = true) : ∃ ps, d = dPairs ps ∧ (∀ p ∈ ps, (0 ≤ p.1 ∧ p.1 < m) ∧ (0 ≤ p.2 ∧ p.2 < n)) ∧ ascB ltPr ps = true := by
  cases d with
  | list ds =>
    simp only [tuplesB, Bool.and_eq_true] at h
    obtain ⟨h1, h3⟩ := h
    obtain ⟨ns, rfl, hn⟩ := pairs_of_all h1
    rw [pairsOf_map] at h3
    exact ⟨ns, rfl, hn, h3⟩
  | _ => simp [tuplesB] at h
theorem rows_of_all {m : Int} : ∀ {ds : List PyData}, (ds.all fun d => targetsB d m) = true → ∃ ns : List (List Int), ds = ns.map dInts ∧ ∀ r ∈ ns, r ≠ [] ∧ (∀ t ∈ r, 0 ≤ t ∧ t < m) ∧ ascB ltIn r = true
  | [], _ => ⟨[], rfl, fun _ h => nomatch h⟩
  | d :: ds, h => by
    simp only [List.all_cons, Bool.and_eq_true] at h
    obtain ⟨ns, rfl, hn⟩ := rows_of_all h.2
    obtain ⟨r, rfl, hr⟩ := targetsB_inv h.1
    refine ⟨r :: ns, rfl, fun x hx => ?_⟩
    rcases List.mem_cons.mp hx with rfl | hx
    · exact hr
    · exact hn x hx
theorem webB_inv {d : PyData} (h : webB d = true) : ∃ u : Wb, d = u.d ∧ u.Ok := by
  match d, h with
  | .tuple [.int n, ps, ns], h =>
    simp only [webB, Bool.and_eq_true, decide_eq_true_eq] at h
    obtain ⟨⟨h1, h2⟩, h3, h4⟩ := h
    obtain ⟨L, rfl, hL, ha⟩ := tuplesB_inv h3
    cases ns with
    | list ds =>
      simp only [nudgesB, Bool.and_eq_true, decide_eq_true_eq] at h4
      obtain ⟨R, rfl, hR⟩ := rows_of_all h4.2
      have := h4.1
      rw [List.length_map] at this
      exact ⟨⟨n, L, R⟩, rfl, h1, h2, hL, ha, this, hR⟩
    | _ => simp [nudgesB] at h4
/-- the web that data is -/
noncomputable def wbOf (d : PyData) : Wb := by
  classical exact if h : ∃ u : Wb, d = u.d then h.choose else ⟨1, [], []⟩
theorem dInts_inj {r s : List Int} (h : dInts r = dInts s) : r = s := by
  unfold dInts at h
  have h := PyData.list.inj h
  have e := congrArg intsOf h
  rw [intsOf_map, intsOf_map] at e
  exact Option.some.inj e
theorem dPairs_inj {r s : List (Int × Int)} (h : dPairs r = dPairs s) : r = s := by
  unfold dPairs at h
  have h := PyData.list.inj h
  have e := congrArg pairsOf h
  rw [pairsOf_map, pairsOf_map] at e
  exact Option.some.inj e
theorem dRows_inj : ∀ {r s : List (List Int)}, r.map dInts = s.map dInts → r = s
  | [], [], _ => rfl
  | [], _ :: _, h => by simp at h
  | _ :: _, [], h => by simp at h
  | a :: r, b :: s, h => by
    simp only [List.map_cons, List.cons.injEq] at h
    rw [dInts_inj h.1, dRows_inj h.2]
theorem wbd_inj {u v : Wb} (h : u.d = v.d) : u = v := by
  obtain ⟨a, b, c⟩ := u
  obtain ⟨d, e, f⟩ := v
  unfold Wb.d at h
  have h := PyData.tuple.inj h
  simp only [List.cons.injEq, PyData.int.injEq, and_true] at h
  obtain ⟨rfl, h2, h3⟩ := h
  rw [dPairs_inj h2, dRows_inj (PyData.list.inj h3)]
theorem wbOf_d (u : Wb) : wbOf u.d = u := by
  unfold wbOf
  have h : ∃ v : Wb, u.d = v.d := ⟨u, rfl⟩
  rw [dif_pos h]
  exact (wbd_inj h.choose_spec).symm
/-- what a call is due: an error's name, or none -/
def Out (K : PySem.W.Frag) (H : Hp) (Q : VK) (E : Value → Option Addr → Hp → Prop) : Option Str → Prop
  | none => ∀ v H', Ex H H' → Q v H'
  | some x => ∀ C d H', ErrOf K x C → Ex H H' → (∀ dx, d = some dx → ∃ fs, H' dx = some (.xd fs)) → E (.ref C) d H'
theorem Out.err {K : PySem.W.Frag} {H : Hp} {Q : VK} {E : Value → Option Addr → Hp → Prop} {o : Option Str} {x : Str} (h : Out K H Q E o) (e : o = some x) {C : Addr} {H' : Hp} (hC : ErrOf K x C) (e1 : Ex H H') : E (.ref C) none H' := by
  subst e
  exact h C none H' hC e1 fun dx z => nomatch z
theorem Out.big {K : PySem.W.Frag} {H : Hp} {Q : VK} {E : Value → Option Addr → Hp → Prop} {o : Option Str} {x : Str} (h : Out K H Q E o) (e : o = some x) {C dd : Addr} {H' : Hp} {fs : List (Str × V)} (hC : ErrOf K x C) (e1 : Ex H H') (hd : H' dd = some (.xd fs)) : E (.ref C) (some dd) H' := by
  subst e
  exact h C (some dd) H' hC e1 fun dx z => ⟨fs, (Option.some.inj z) ▸ hd⟩
theorem Out.ok {K : PySem.W.Frag} {H : Hp} {Q : VK} {E : Value → Option Addr → Hp → Prop} {o : Option Str} (h : Out K H Q E o) (e : o = none) {v : V} {H' : Hp} (e1 : Ex H H') : Q v H' := by
  subst e
  exact h v H' e1
theorem Out.webB {K : PySem.W.Frag} {H : Hp} {Q : VK} {E : Value → Option Addr → Hp → Prop} {o : Option Str} (h : Out K H Q E o) {H1 : Hp} (e : Ex H H1) : Out K H1 Q E o := by
  cases o with
  | none => exact fun v H' e1 => h v H' (e.tr e1)
  | some x => exact fun C d H' hC e1 hd => h C d H' hC (e.tr e1) hd
noncomputable def dueWeb (d : PyData) (k : Wb → Option Str) : Option Str := if webB d = true then k (wbOf d) else some ("InvalidWeb" : Str)
theorem dueWeb_no {d : PyData} {k : Wb → Option Str} (h : webB d = false) : dueWeb d k = some ("InvalidWeb" : Str) := by
  unfold dueWeb
  rw [h]
  rfl
theorem dueWeb_of {u : Wb} {k : Wb → Option Str} (h : u.Ok) : dueWeb u.d k = k u := by
  unfold dueWeb
  rw [if_pos h.web, wbOf_d]
def dueIf (b : Bool) (x : Str) (r : Option Str) : Option Str := if b = true then r else some x
/-- a list of all the numbers below n -/
noncomputable def ordB (d : PyData) (n : Int) : Bool := @decide (∃ o, d = dInts o ∧ IsOrd n o) (Classical.propDecidable _)
theorem ordB_of {d : PyData} {n : Int} : ordB d n = true ↔ ∃ o, d = dInts o ∧ IsOrd n o := by
  unfold ordB
  exact @decide_eq_true_iff _ (Classical.propDecidable _)
/-- the pair of two ints -/
def pairOf : PyData → PyData → Int × Int
  | .int a, .int b => (a, b)
  | _, _ => (0, 0)
noncomputable def dueCall (way : Nat) (d x y : PyData) : Option Str :=
  match way with
  | 0 => dueWeb d fun u => dueIf (numB x (u.n + u.ns.length)) "InvalidSource" none
  | 1 => dueWeb d fun u => dueIf (numB x u.n) "InvalidQuantity" none
  | 2 => dueWeb d fun u => dueIf (numB x u.n) "InvalidQuantity" (dueIf (numB y u.n) "InvalidQuantity" (dueIf (decide (pairOf x y ∉ u.ps)) "LineThere" none))
  | 3 => dueWeb d fun u => dueIf (numB x u.n) "InvalidQuantity" (dueIf (numB y u.n) "InvalidQuantity" (dueIf (decide (pairOf x y ∈ u.ps)) "NoLine" none))
  | 4 => dueWeb d fun u => dueIf (targetsB x u.n) "InvalidTargets" (dueIf (decide (u.ns.length ≠ 8)) "TooLarge" none)
  | 5 => dueWeb d fun u => dueIf (numB x u.ns.length) "InvalidNudge" none
  | 6 => dueWeb d fun u => dueIf (ordB x u.n) "InvalidOrder" none
  | 7 => dueWeb d fun u => dueWeb x fun v => dueIf (tuplesB y u.n v.n) "InvalidLinks" (dueIf (decide (u.n + v.n ≤ 20)) "TooLarge" (dueIf (decide (u.ns.length + v.ns.length ≤ 8)) "TooLarge" none))
  | _ => dueWeb d fun _ => none
theorem due0 (d x y : PyData) : dueCall 0 d x y = dueWeb d fun u => dueIf (numB x (u.n + u.ns.length)) "InvalidSource" none := rfl
theorem due1 (d x y : PyData) : dueCall 1 d x y = dueWeb d fun u => dueIf (numB x u.n) "InvalidQuantity" none := rfl
theorem due2 (d x y : PyData) : dueCall 2 d x y = dueWeb d fun u => dueIf (numB x u.n) "InvalidQuantity" (dueIf (numB y u.n) "InvalidQuantity" (dueIf (decide (pairOf x y ∉ u.ps)) "LineThere" none)) := rfl
theorem due3 (d x y : PyData) : dueCall 3 d x y = dueWeb d fun u => dueIf (numB x u.n) "InvalidQuantity" (dueIf (numB y u.n) "InvalidQuantity" (dueIf (decide (pairOf x y ∈ u.ps)) "NoLine" none)) := rfl
theorem due4 (d x y : PyData) : dueCall 4 d x y = dueWeb d fun u => dueIf (targetsB x u.n) "InvalidTargets" (dueIf (decide (u.ns.length ≠ 8)) "TooLarge" none) := rfl
theorem due5 (d x y : PyData) : dueCall 5 d x y = dueWeb d fun u => dueIf (numB x u.ns.length) "InvalidNudge" none := rfl
theorem due6 (d x y : PyData) : dueCall 6 d x y = dueWeb d fun u => dueIf (ordB x u.n) "InvalidOrder" none := rfl
theorem due7 (d x y : PyData) : dueCall 7 d x y = dueWeb d fun u => dueWeb x fun v => dueIf (tuplesB y u.n v.n) "InvalidLinks" (dueIf (decide (u.n + v.n ≤ 20)) "TooLarge" (dueIf (decide (u.ns.length + v.ns.length ≤ 8)) "TooLarge" none)) := rfl
theorem due8 (d x y : PyData) : dueCall 8 d x y = dueWeb d fun _ => none := rfl
theorem due9 (d x y : PyData) : dueCall 9 d x y = dueWeb d fun _ => none := rfl
theorem dueno (way : Nat) (d x y : PyData) (h : webB d = false) : dueCall way d x y = some ("InvalidWeb" : Str) := by
  unfold dueCall
  split <;> exact dueWeb_no h
end Nw
namespace Nw
open PySem PySem.Spec PyProof.Rows L2
theorem pg_lstK {X : Cx} (K : PySem.W.Frag) {es : List Expr} {k : Nat} {pos : Pos} {t : TGs} {n : Nat} (hc : X.calm = true) (h : PGs X es t)
    (hn : (assignEach es X.env).length = n := by rfl)
    (hst : (assignEach es X.env).findIdx? (·.1) = none := by rfl) (hK : X.K = K := by rfl) : PG X (.Tuple es k pos) (gLst K n t) := by
  subst hK
  exact pg_lst hc h hn hst
/-- a list of bools: how many are k -/
theorem mt_countB {X : Cx} (K : PySem.W.Frag) (hK : X.K = K := by rfl) : MtR X "list.count" (fun x xs H Q => ∃ (a : Addr) (bs : List Bool) (k : Bool), x = .ref a ∧ xs = [.bl k] ∧ SqL K H a (bs.map V.bl) ∧ Q (.int (Spec.countIn (.bool k) (bs.map PyData.bool))) H) := by
  subst hK
  intro pins s σ H x xs v us Q I rx rv h
  obtain ⟨a, bs, k, rfl, rfl, hS, q⟩ := h
  cases rx
  cases rv with
  | cons r1 r2 =>
    cases r2
    cases r1
    obtain ⟨its, rs, ⟨o, n, g1, g2, g3, g4⟩, _⟩ := I.list hS
    have hp : ∀ (bs : List Bool) (its : List Value), Vals (bs.map V.bl) its → ∃ as, ReadsAll s.heap its (bs.map PyData.bool) as := by
      intro bs
      induction bs with
      | nil =>
        intro its r
        cases r
        exact ⟨_, .nil⟩
      | cons b bs ih =>
        intro its r
        cases r with
        | cons ra rb =>
          cases ra
          obtain ⟨as, h⟩ := ih _ rb
          exact ⟨_, .cons (.bool b) h⟩
    obtain ⟨as, hr⟩ := hp bs its rs
    exact PyProof.Rows.count_list_bools ⟨o, g1, g2, n, g4⟩ hr (by
      rw [List.all_map, List.all_eq_true]
      intro b _
      cases b <;> rfl) ⟨.int _, H, I.tok _, ⟨_, rfl⟩, q⟩
theorem idx_bools {bs : List Bool} {j : Nat} (hm : ∀ m, m < j → bs[m]? = some false) : ∀ (m : Nat) (z' : V), m < j → (bs.map V.bl)[m]? = some z' → eqV z' (.bl true) = false := fun m z' h e => by
  rw [List.getElem?_map, hm m h] at e
  obtain rfl := Option.some.inj e
  rfl
/-- an error of a called def is the caller's -/
theorem passE {X : Cx} {E : XK} (tk : Takes X (fun cls d _ H => E cls d H)) : Passes (L2.CX X.prog X.w) X E := fun pins σ H s e s' I c => tk e s' (XE.of_call (W := fun cls d _ H => E cls d H) I (fun _ _ _ h => h) c)
theorem asc_code20 : ∀ {ps : List (Int × Int)}, (∀ p ∈ ps, 0 ≤ p.2 ∧ p.2 < 20) → ascB ltPr ps = true → ascB ltIn (ps.map fun p => 20 * p.1 + p.2) = true
  | [], _, _ => rfl
  | [_], _, _ => rfl
  | p :: q :: r, h, ha => by
    simp only [ascB, Bool.and_eq_true] at ha
    have hp := h p (by simp)
    have hq := h q (by simp)
    have h1 := ltPr_iff.mp ha.1
    have ih := asc_code20 (ps := q :: r) (fun z hz => h z (List.mem_cons_of_mem _ hz)) ha.2
    simp only [List.map_cons, ascB, Bool.and_eq_true, ltIn, decide_eq_true_eq] at ih ⊢
    exact ⟨by omega, ih⟩
theorem pairs_400 {L : List (Int × Int)} (h : ∀ p ∈ L, (0 ≤ p.1 ∧ p.1 < 20) ∧ (0 ≤ p.2 ∧ p.2 < 20)) (ha : ascB ltPr L = true) : L.length ≤ 400 := by
  have h1 := asc_code20 (fun p hp => (h p hp).2) ha
  have h2 := asc_len _ 0 (m := 400) (by
    intro t ht
    obtain ⟨p, hp, rfl⟩ := List.mem_map.mp ht
    have := h p hp
    omega) h1
  rw [List.length_map] at h2
  omega
/-- what a check is due -/
def ChkO (K : PySem.W.Frag) (H : Hp) (Q : VK) (E : Value → Option Addr → Hp → Prop) (b : Bool) (x : Str) : Prop :=
  (b = false → ∀ C H', ErrOf K x C → Ex H H' → E (.ref C) none H') ∧ (b = true → ∀ H', Ex H H' → Q .non H')
theorem cat_len {x y : Str} {m n : Nat} (hx : x.length ≤ m) (hy : y.length ≤ n) (h : m + n ≤ 1000) : (x ++ y).length ≤ sizeLine ∧ (x ++ y).length ≤ m + n := by
  rw [show (x ++ y).length = x.length + y.length from strLen_append ..]
  exact ⟨mil (by omega), by omega⟩
end Nw
/-! The words of any text, as numbers (for texts of no webs). -/
namespace Nw
open PySem PySem.Spec PyProof.Rows L2
/-- what the words of a text are as numbers -/
def numsW (w sep : Str) : List (Option Int) := (Txt.split w sep).map numW
def oD : Option Int → PyData
  | some i => .int i
  | none => .none
theorem any_oD (l : List (Option Int)) : ((l.map oD).any fun z => PyData.eqv z .none) = l.any Option.isNone := by
  induction l with
  | nil => rfl
  | cons x l ih =>
    rw [List.map_cons, List.any_cons, ih, List.any_cons]
    cases x with
    | none => rfl
    | some i => rfl
theorem dpAll_oD {K : PySem.W.Frag} {H : Hp} : ∀ l : List (Option Int), DpAll K H (l.map oV) (l.map oD)
  | [] => .nil
  | none :: l => .cons .non (dpAll_oD l)
  | some i :: l => .cons (.int i) (dpAll_oD l)
theorem lay_oD : ∀ l : List (Option Int), PyData.canLayAll0 (l.map oD) = true
  | [] => rfl
  | none :: l => by
    rw [List.map_cons]
    simp only [PyData.canLayAll0, oD, PyData.canLay0, lay_oD l, Bool.and_true]
  | some i :: l => by
    rw [List.map_cons]
    simp only [PyData.canLayAll0, oD, PyData.canLay0, lay_oD l, Bool.and_true]
theorem dep_oD : ∀ l : List (Option Int), PyData.depthAll (l.map oD) ≤ 1
  | [] => by simp [PyData.depthAll]
  | none :: l => by
    have := dep_oD l
    simp only [List.map_cons, PyData.depthAll, oD, PyData.depth]
    omega
  | some i :: l => by
    have := dep_oD l
    simp only [List.map_cons, PyData.depthAll, oD, PyData.depth]
    omega
theorem shaped_oD (l : List (Option Int)) : SeqAt.shaped (.list (l.map oD)) = true := by
  refine shaped_of (by simp only [PyData.canLay0, lay_oD]) ?_
  have := dep_oD l
  simp only [PyData.depth]
  omega
theorem mem_sum : ∀ {l : List Nat} {n : Nat}, n ∈ l → n ≤ l.sum
  | a :: l, n, h => by
    rw [List.sum_cons]
    rcases List.mem_cons.mp h with rfl | h
    · omega
    · have := mem_sum h
      omega
/-- the words of a text are short, and not many -/
theorem word_len {w sep x : Str} (hs : 1 ≤ sep.length) (h : x ∈ Txt.split w sep) : x.length ≤ w.length := by
  have h1 := split_weight w sep hs
  have h2 : x.length ≤ ((Txt.split w sep).map (·.length)).sum := mem_sum (List.mem_map.mpr ⟨x, h, rfl⟩)
  have h3 := split_pos w sep
  omega
theorem words_few {w sep : Str} (hs : 1 ≤ sep.length) : (Txt.split w sep).length ≤ w.length + 1 := by
  have h1 := split_weight w sep hs
  omega
end Nw
/-! Texts that are read: what their parts tell, and the place of the error. -/
namespace Nw
open PySem PySem.Spec PyProof.Rows L2
/-! ### the heap of what is new -/
/-- of H', what is not in H -/
def newH (H H' : Hp) : Hp := fun a => if (H a).isSome then none else H' a
section
variable {H H0 H1 H' H'' : Hp} {a B : Addr} {o : HO}
theorem newH.sub : Ex (newH H H') H' := fun a o h => by
  unfold newH at h
  split at h
  · cases h
  · exact h
theorem newH.at_ (h : H a = none) : newH H H' a = H' a := by
  unfold newH
  rw [h]
  rfl
theorem newH.up (e : Ex H' H'') : Ex (newH H H') (newH H H'') := fun a o h => by
  unfold newH at h ⊢
  split at h
  · cases h
  · rename_i q
    rw [if_neg q]
    exact e a o h
theorem newH.base (e : ∀ a, H1 a = none → H0 a = none) : Ex (newH H1 H') (newH H0 H') := fun a o h => by
  unfold newH at h ⊢
  cases q : H1 a with
  | some x =>
    rw [q] at h
    cases h
  | none =>
    rw [q] at h
    rw [e a q]
    exact h
theorem newH.wr (h : H B ≠ none) : newH H (upd H' B o) = newH H H' := by
  funext a
  unfold newH
  by_cases q : a = B
  · subst q
    cases z : H a with
    | none => exact absurd z h
    | some x => rfl
  · rw [upd_ne q]
theorem newH.rm (h : H B ≠ none) : Ex (newH H H') (rm H' B) := fun a o q => by
  have ne : a ≠ B := fun z => by
    subst z
    unfold newH at q
    cases z : H a with
    | none => exact h z
    | some x =>
      rw [z] at q
      cases q
  rw [rm_ne ne]
  exact newH.sub _ _ q
theorem fr_upd (e : Ex H H') (hB : H' B ≠ none) (h : H' a = none) : (upd H B o) a = none := by
  have ne : a ≠ B := fun z => by
    subst z
    exact hB h
  rw [upd_ne ne]
  exact e.fr h
end
/-! ### all or none -/
def allO {α : Type} : List (Option α) → Option (List α)
  | [] => some []
  | none :: _ => none
  | some x :: l => match allO l with
    | some r => some (x :: r)
    | none => none
theorem allO_some {α : Type} : ∀ {l : List (Option α)}, l.any Option.isNone = false → ∃ r, allO l = some r ∧ l = r.map some
  | [], _ => ⟨[], rfl, rfl⟩
  | none :: l, h => by simp at h
  | some x :: l, h => by
    rw [List.any_cons] at h
    obtain ⟨r, h1, h2⟩ := allO_some (l := l) (by simpa using h)
    refine ⟨x :: r, ?_, by rw [List.map_cons, ← h2]⟩
    rw [allO, h1]
theorem allO_none {α : Type} : ∀ {l : List (Option α)}, l.any Option.isNone = true → allO l = none
  | [], h => by simp at h
  | none :: l, _ => rfl
  | some x :: l, h => by
    rw [List.any_cons] at h
    rw [allO, allO_none (l := l) (by simpa using h)]
theorem allO_inv {α : Type} {l : List (Option α)} {r : List α} (h : allO l = some r) : l = r.map some ∧ l.any Option.isNone = false := by
  cases q : l.any Option.isNone with
  | true =>
    rw [allO_none q] at h
    cases h
  | false =>
    obtain ⟨r', h1, h2⟩ := allO_some q
    rw [h1] at h
    obtain rfl := Option.some.inj h
    exact ⟨h2, rfl⟩
theorem allO_isNone {α : Type} (l : List (Option α)) : (allO l).isNone = l.any Option.isNone := by
  cases q : l.any Option.isNone with
  | true => rw [allO_none q]; rfl
  | false =>
    obtain ⟨r, h1, _⟩ := allO_some q
    rw [h1]
    rfl
/-- the data of a value that may be none -/
def oDat {α : Type} (f : α → PyData) : Option α → PyData
  | none => .none
  | some x => f x
theorem any_oDat {α : Type} {f : α → PyData} (hf : ∀ x, f x ≠ .none) (l : List (Option α)) : ((l.map (oDat f)).any fun z => PyData.eqv z .none) = l.any Option.isNone := by
  induction l with
  | nil => rfl
  | cons x l ih =>
    rw [List.map_cons, List.any_cons, ih, List.any_cons]
    cases x with
    | none => rfl
    | some i =>
      show (PyData.eqv (f i) .none || _) = _
      rw [eqv_none _ (hf i)]
      rfl
theorem lay_oDat {α : Type} {f : α → PyData} (hf : ∀ x, (f x).canLay0 = true) : ∀ l : List (Option α), PyData.canLayAll0 (l.map (oDat f)) = true
  | [] => rfl
  | none :: l => by
    rw [List.map_cons]
    simp only [PyData.canLayAll0, oDat, PyData.canLay0, lay_oDat hf l, Bool.and_true]
  | some i :: l => by
    rw [List.map_cons]
    simp only [PyData.canLayAll0, oDat, hf i, lay_oDat hf l, Bool.and_true]
theorem dep_oDat {α : Type} {f : α → PyData} (hf : ∀ x, (f x).depth ≤ 10) : ∀ l : List (Option α), PyData.depthAll (l.map (oDat f)) ≤ 12
  | [] => by simp [PyData.depthAll]
  | none :: l => by
    have := dep_oDat hf l
    simp only [List.map_cons, PyData.depthAll, oDat, PyData.depth]
    omega
  | some i :: l => by
    have := dep_oDat hf l
    have := hf i
    simp only [List.map_cons, PyData.depthAll, oDat]
    omega
theorem lay_oList {α : Type} {f : α → PyData} (hf : ∀ x, (f x).canLay0 = true) (l : List (Option α)) : (PyData.list (l.map (oDat f))).canLay0 = true := by simp only [PyData.canLay0, lay_oDat hf]
theorem shaped_oDat {α : Type} {f : α → PyData} (hf : ∀ x, (f x).canLay0 = true) (hd : ∀ x, (f x).depth ≤ 10) (l : List (Option α)) : SeqAt.shaped (.list (l.map (oDat f))) = true := by
  refine shaped_of (lay_oList hf l) ?_
  have := dep_oDat hd l
  simp only [PyData.depth]
  omega
theorem dep_dPair' (p : Int × Int) : (dPair p).depth ≤ 10 := Nat.le_trans (dep_dPair p) (by decide)
theorem dep_dInts' (r : List Int) : (dInts r).depth ≤ 10 := Nat.le_trans (dep_dInts r) (by decide)
/-! ### the parts of a text -/
def pairW (w : Str) : Option (Int × Int) :=
  match numsW w ">" with
  | [some a, some b] => some (a, b)
  | _ => none
def rowW (w : Str) : Option (List Int) := allO (numsW w ",")
theorem pairW_of {w : Str} {a b : Int} (h : numsW w ">" = [some a, some b]) : pairW w = some (a, b) := by
  unfold pairW
  rw [h]
theorem pairW_no {w : Str} (h : ∀ a b : Int, numsW w ">" ≠ [some a, some b]) : pairW w = none := by
  unfold pairW
  split
  · rename_i a b q
    exact absurd q (h a b)
  · rfl
theorem pairW_inv {w : Str} {p : Int × Int} (h : pairW w = some p) : numsW w ">" = [some p.1, some p.2] := by
  unfold pairW at h
  split at h
  · rename_i a b q
    obtain rfl := Option.some.inj h
    exact q
  · cases h
def partP (s : Str) : Option (List (Int × Int)) := if s = "-" then some [] else allO ((Txt.split s " ").map pairW)
def partN (s : Str) : Option (List (List Int)) := if s = "-" then some [] else allO ((Txt.split s " ").map rowW)
/-- what a part of a text tells, at its place -/
def partD (place : Nat) (s : Str) : Option PyData :=
  match place with
  | 0 => (numW s).map PyData.int
  | 1 => (partP s).map dPairs
  | _ => (partN s).map dRows
/-- the first of three parts whose form is wrong -/
def badAt (ps : List Str) : Option Nat := (List.range (min 3 ps.length)).find? fun i => (partD i (ps.getD i "")).isNone
theorem badAt_of {ps : List Str} {i : Nat} {s : Str} (hi : i < 3) (hs : ps[i]? = some s) (hn : partD i s = none) (ok : ∀ j t, j < i → ps[j]? = some t → partD j t ≠ none) : badAt ps = some i := by
  unfold badAt
  have hl : i < ps.length := (List.getElem?_eq_some_iff.mp hs).1
  rw [List.find?_range_eq_some]
  refine ⟨?_, ?_, fun j hj => ?_⟩
  · rw [List.getD_eq_getElem?_getD, hs]
    show (partD i s).isNone = true
    rw [hn]
    rfl
  · rw [List.mem_range]
    omega
  · have hjl : j < ps.length := by omega
    have := ok j ps[j] hj (List.getElem?_eq_getElem hjl)
    rw [List.getD_eq_getElem?_getD, List.getElem?_eq_getElem hjl]
    show (!(partD j ps[j]).isNone) = true
    cases q : partD j ps[j] with
    | none => exact absurd q this
    | some d => rfl
theorem badAt_no {ps : List Str} (ok : ∀ j t, j < 3 → ps[j]? = some t → partD j t ≠ none) : badAt ps = none := by
  unfold badAt
  rw [List.find?_eq_none]
  intro j hj
  rw [List.mem_range] at hj
  have hjl : j < ps.length := by omega
  have := ok j ps[j] (by omega) (List.getElem?_eq_getElem hjl)
  rw [List.getD_eq_getElem?_getD, List.getElem?_eq_getElem hjl]
  show ¬ (partD j ps[j]).isNone = true
  cases q : partD j ps[j] with
  | none => exact absurd q this
  | some d => exact Bool.false_ne_true
/-- three parts that have their forms are a web -/
def webP (ps : List Str) : Bool :=
  match partD 0 (ps.getD 0 ""), partD 1 (ps.getD 1 ""), partD 2 (ps.getD 2 "") with
  | some a, some b, some c => webB (.tuple [a, b, c])
  | _, _, _ => false
/-- the place of a text's error; none for the text of a web -/
def dueP (ps : List Str) : Option Int :=
  match badAt ps with
  | some i => some (i : Int)
  | none => if ps.length = 3 ∧ webP ps = true then none else some (ps.length : Int)
def dueS (t : Str) : Option Int := dueP (Txt.split t "; ")
/-- what read_web is due: nothing, or an error with its place -/
def dueT : PyData → Option (Option Int)
  | .str t => (dueS t).map some
  | _ => some none
/-- what a call of read_web is due -/
def OutT (K : PySem.W.Frag) (H : Hp) (Q : VK) (E : Value → Option Addr → Hp → Prop) : Option (Option Int) → Prop
  | none => ∀ v H', Ex H H' → Q v H'
  | some p => ∀ C d H', ErrOf K "InvalidText" C → Ex H H' → H' d = some (.xd [(("place" : Str), oV p)]) → E (.ref C) (some d) H'
/-! ### >= of lists -/
theorem op_geL (K : PySem.W.Frag) {X : Cx} (hu : X.A.units < cLine) (hK : X.K = K := by rfl) : OpR X (compareOp .GtE) (fun x y H Q => ∃ (a b : Addr) (ns ms : List Int), x = .ref a ∧ y = .ref b ∧ SqL K H a (ns.map V.int) ∧ SqL K H b (ms.map V.int) ∧
    Q (.bl (SeqAt.firstLt (fun j => decide (ns.getD j 0 = ms.getD j 0)) (fun j => decide (ms.getD j 0 ≤ ns.getD j 0)) (decide (ns.length ≥ ms.length)) (List.range (min ns.length ms.length)))) H) := by
  subst hK
  intro pins s σ H x y v u Q I rx ry h
  obtain ⟨a, b, ns, ms, rfl, rfl, ha, hb, q⟩ := h
  cases rx
  cases ry
  obtain ⟨its, r1, p1, _⟩ := I.list ha
  obtain ⟨its2, r2, p2, _⟩ := I.list hb
  have i1 : IntsAre its ns := Vals.ints r1
  have i2 : IntsAre its2 ms := Vals.ints r2
  have e1 : its.toArray.size = ns.length := by rw [List.size_toArray]; exact i1.length
  have e2 : its2.toArray.size = ms.length := by rw [List.size_toArray]; exact i2.length
  have at1 : ∀ j (h1 : j < its.toArray.size), ∃ t, its.toArray[j] = .int (ns.getD j 0) t := fun j h1 => PyProof.Rows.IntsAre.int_at i1 _ _ (by simp at h1; simp [h1])
  have at2 : ∀ j (h1 : j < its2.toArray.size), ∃ t, its2.toArray[j] = .int (ms.getD j 0) t := fun j h1 => PyProof.Rows.IntsAre.int_at i2 _ _ (by simp at h1; simp [h1])
  have R := SeqAt.RcOp.lists_ge (A := X.A) (s := s) (e := fun j => decide (ns.getD j 0 = ms.getD j 0)) (r := fun j => decide (ms.getD j 0 ≤ ns.getD j 0)) p1.isList p2.isList hu (fun j h1 h2 => by
    obtain ⟨t, et⟩ := at1 j h1
    obtain ⟨t', et'⟩ := at2 j h2
    rw [et, et']
    have z : (ns.getD j 0 == ms.getD j 0) = decide (ns.getD j 0 = ms.getD j 0) := by
      by_cases q : ns.getD j 0 = ms.getD j 0
      · rw [decide_eq_true q]; exact beq_iff_eq.mpr q
      · rw [decide_eq_false q]; exact beq_eq_false_iff_ne.mpr q
    rw [← z]
    exact SeqAt.EqAt.int_int _ _ _ _) (fun j h1 h2 _ => by
    obtain ⟨t, et⟩ := at1 j h1
    obtain ⟨t', et'⟩ := at2 j h2
    rw [et, et']
    exact fun _ _ _ _ h => PyProof.Rows.ge_int h)
  rw [e1, e2] at R
  have z : wpAny (model X.prog X.w) X.A (compareOp .GtE (.ref a) (.ref b)) (EP X pins σ Q) X.xe s := R X.prog X.w X.xe (EP X pins σ Q) ⟨.bl _, H, I, rfl, q⟩
  exact z
/-- >= of two numbers, or of two lists of numbers -/
def rGeA (K : PySem.W.Frag) : R2 := fun x y H Q => (∃ i j, x = .int i ∧ y = .int j ∧ Q (.bl (decide (j ≤ i))) H) ∨ (∃ (a b : Addr) (p q : Int × Int), x = .ref a ∧ y = .ref b ∧ SqL K H a [.int p.1, .int p.2] ∧ SqL K H b [.int q.1, .int q.2] ∧ Q (.bl (!ltPr p q)) H)
theorem ge_pair (p q : Int × Int) : SeqAt.firstLt (fun j => decide ([p.1, p.2].getD j 0 = [q.1, q.2].getD j 0)) (fun j => decide ([q.1, q.2].getD j 0 ≤ [p.1, p.2].getD j 0)) (decide ([p.1, p.2].length ≥ [q.1, q.2].length)) (List.range (min [p.1, p.2].length [q.1, q.2].length)) = !ltPr p q := by
  have e : List.range (min [p.1, p.2].length [q.1, q.2].length) = [0, 1] := rfl
  rw [e, Bool.eq_iff_iff, Bool.not_eq_true', ← Bool.not_eq_true, ltPr_iff]
  simp only [SeqAt.firstLt, List.getD_cons_zero, List.getD_cons_succ, List.length_cons, List.length_nil]
  by_cases h1 : p.1 = q.1
  · by_cases h2 : p.2 = q.2
    · simp [h1, h2]
    · simp [h1, h2]
  · simp [h1]
    try omega
theorem op_geA (K : PySem.W.Frag) {X : Cx} (hu : X.A.units < cLine) (hK : X.K = K := by rfl) : OpR X (compareOp .GtE) (rGeA K) := by
  intro pins s σ H x y v u Q I rx ry h
  rcases h with ⟨i, j, rfl, rfl, q⟩ | ⟨a, b, p, p', rfl, rfl, ha, hb, q⟩
  · exact op_ge pins s σ H _ _ v u Q I rx ry ⟨i, j, rfl, rfl, q⟩
  · refine op_geL K hu hK pins s σ H _ _ v u Q I rx ry ⟨a, b, [p.1, p.2], [p'.1, p'.2], rfl, rfl, ha, hb, ?_⟩
    rw [ge_pair]
    exact q
/-! ### numbers, sign by sign -/
def digB (c : Nat) : Bool := decide (48 ≤ c) && decide (c ≤ 57)
theorem uni_digit : ∀ c : Fin 10, Unicode.isDigit (48 + c.val) = true := by decide +kernel
theorem mem_ten (c : Nat) : decide (c ∈ ("0123456789" : Str).cps.toList) = digB c := by
  have e : ("0123456789" : Str).cps.toList = [48, 49, 50, 51, 52, 53, 54, 55, 56, 57] := by decide +kernel
  rw [e, Bool.eq_iff_iff, decide_eq_true_eq]
  unfold digB
  rw [Bool.and_eq_true, decide_eq_true_eq, decide_eq_true_eq]
  simp only [List.mem_cons, List.not_mem_nil, or_false]
  omega
theorem no_ten (c : Nat) : (!(!(Builtin.Str.occurrences ("0123456789" : Str) ⟨#[c]⟩ 0 ("0123456789" : Str).length 1).isEmpty)) = !digB c := by rw [StrLaws.found_one, mem_ten]
theorem ascii_digit (w : Str) : (Txt.isascii w && Txt.isdigit w) = (decide (0 < w.length) && w.cps.toList.all digB) := by
  rw [Bool.eq_iff_iff]
  constructor
  · intro h
    rw [Bool.and_eq_true] at h
    obtain ⟨h1, h2⟩ := ascii_digits h.1 h.2
    rw [Bool.and_eq_true, decide_eq_true_eq, List.all_eq_true]
    refine ⟨?_, fun c hc => ?_⟩
    · show 0 < w.cps.size
      rw [← Array.length_toList]
      exact List.length_pos_iff.mpr h2
    · have := h1 c hc
      unfold digB
      rw [Bool.and_eq_true, decide_eq_true_eq, decide_eq_true_eq]
      exact this
  · intro h
    rw [Bool.and_eq_true, decide_eq_true_eq, List.all_eq_true] at h
    have hb : ∀ c ∈ w.cps.toList, 48 ≤ c ∧ c ≤ 57 := fun c hc => by
      have := h.2 c hc
      unfold digB at this
      rw [Bool.and_eq_true, decide_eq_true_eq, decide_eq_true_eq] at this
      exact this
    rw [Bool.and_eq_true]
    unfold Txt.isascii Txt.isdigit
    rw [Bool.and_eq_true, ← Array.all_toList, ← Array.all_toList, List.all_eq_true, List.all_eq_true]
    refine ⟨fun c hc => by have := hb c hc; simp; omega, by simpa using h.1, fun c hc => ?_⟩
    have := hb c hc
    have z := uni_digit ⟨c - 48, by omega⟩
    simp only [show 48 + (c - 48) = c by omega] at z
    exact z
/-- a word is a number, as its signs tell -/
theorem numW_some (w : Str) : (numW w).isSome = (decide (1 ≤ w.length ∧ w.length ≤ 30) && w.cps.toList.all digB && (decide (V.str w = V.str "0") || !Txt.startswith w "0")) := by
  have ad := ascii_digit w
  unfold numW
  by_cases h1 : (!Txt.isascii w || (!Txt.isdigit w || decide ((30 : Int) < (w.length : Int)))) = true
  · rw [if_pos h1]
    symm
    show _ = false
    rw [Bool.and_eq_false_iff]
    left
    cases ha : Txt.isascii w && Txt.isdigit w with
    | false =>
      rw [ha] at ad
      by_cases hp : 0 < w.length
      · rw [decide_eq_true hp, Bool.true_and] at ad
        rw [← ad, Bool.and_false]
      · rw [decide_eq_false (by omega), Bool.false_and]
    | true =>
      rw [Bool.and_eq_true] at ha
      rw [ha.1, ha.2] at h1
      have : (30 : Int) < (w.length : Int) := by simpa using h1
      rw [decide_eq_false (by omega), Bool.false_and]
  · rw [if_neg h1]
    simp only [Bool.or_eq_true, Bool.not_eq_true', decide_eq_true_eq, not_or, Bool.not_eq_false] at h1
    obtain ⟨a1, a2, a3⟩ := h1
    rw [a1, a2] at ad
    have ad := ad.symm
    rw [Bool.and_true, Bool.and_eq_true, decide_eq_true_eq] at ad
    have rng : decide (1 ≤ w.length ∧ w.length ≤ 30) = true := decide_eq_true (by have := ad.1; omega)
    rw [ad.2, rng, Bool.true_and, Bool.true_and]
    cases b1 : decide (V.str w = V.str "0") <;> cases b2 : Txt.startswith w "0" <;> rfl
/-- its value is what int() reads -/
theorem numW_int {w : Str} {i : Int} (h : numW w = some i) : intText? w = some i ∧ w.length ≤ 30 := by
  unfold numW at h
  split at h
  · cases h
  · rename_i h1
    simp only [Bool.or_eq_true, Bool.not_eq_true', decide_eq_true_eq, not_or, Bool.not_eq_false] at h1
    obtain ⟨a1, a2, a3⟩ := h1
    split at h
    · cases h
    · obtain rfl := Option.some.inj h
      obtain ⟨d1, d2⟩ := ascii_digits a1 a2
      exact ⟨intText_digits d1 d2 (by omega), by omega⟩
/-- the first sign is 0 -/
theorem first_zero {w : Str} {c : Nat} (h : w.cps.toList[0]? = some c) : Txt.startswith w "0" = decide (V.str ⟨#[c]⟩ = V.str "0") := by
  have hs : (1 : Nat) ≤ w.length := by
    show 1 ≤ w.cps.size
    rw [← Array.length_toList]
    have := (List.getElem?_eq_some_iff.mp h).1
    omega
  have hc : w.cps[0]? = some c := by rw [← Array.getElem?_toList]; exact h
  have z : ("0" : Str) = ⟨#[48]⟩ := by decide +kernel
  have l1 : ("0" : Str).length = 1 := by decide +kernel
  have one := StrLaws.subAt_one w 48 0
  rw [Bool.eq_iff_iff, decide_eq_true_eq]
  unfold Txt.startswith
  rw [z, Bool.and_eq_true, decide_eq_true_eq, one, h]
  constructor
  · intro q
    rw [Option.some.inj q]
  · intro q
    have := V.str.inj q
    injection this with q2
    have := congrArg Array.toList q2
    simp at this
    rw [this]
/-! ### reading -/
theorem none_upd {H : Hp} {a B : Addr} {o : HO} (h : (upd H B o) a = none) : H a = none := by
  by_cases q : a = B
  · rw [q, upd_same] at h
    cases h
  · rw [upd_ne q] at h
    exact h
theorem cut3 (ps : List Str) : cutV (ps.map V.str) none (some 3) = (ps.take 3).map V.str := by
  by_cases h : 3 ≤ ps.length
  · have := cut_take (ps.map V.str) 3 (by rw [List.length_map]; exact h)
    rw [List.map_take]
    exact this
  · match ps, h with
    | [], _ => rfl
    | [a], _ => rfl
    | [a, b], _ => rfl
    | a :: b :: c :: r, h => exact absurd (by simp) h
theorem is_str {d : PyData} (h : isA "str" d = true) : ∃ t, d = .str t := by
  cases d <;> first | exact ⟨_, rfl⟩ | (exfalso; exact absurd h (by unfold isA isN tyName; simp))
theorem not_str {d : PyData} (h : isA "str" d = false) : dueT d = some none := by
  cases d with
  | str t =>
    exfalso
    rw [show isA "str" (PyData.str t) = true from by unfold isA isN tyName; rfl] at h
    cases h
  | _ => rfl
theorem part_some {p : Nat} {s : Str} {d : PyData} {K : PySem.W.Frag} {H : Hp} (h : partD p s = some d) (hv : Da K H d .non) : False := by
  unfold partD at h
  split at h
  · cases q : numW s with
    | none =>
      rw [q] at h
      cases h
    | some i =>
      rw [q] at h
      obtain rfl := Option.some.inj h
      cases hv
  · cases q : partP s with
    | none =>
      rw [q] at h
      cases h
    | some i =>
      rw [q] at h
      obtain rfl := Option.some.inj h
      obtain ⟨a, xs, z, _⟩ := hv
      cases z
  · cases q : partN s with
    | none =>
      rw [q] at h
      cases h
    | some i =>
      rw [q] at h
      obtain rfl := Option.some.inj h
      obtain ⟨a, xs, z, _⟩ := hv
      cases z
end Nw
/-! Text times a number; isinstance of an error and several classes. -/
namespace Nw
open PySem PySem.Spec PyProof.Rows L2
theorem op_mulS {X : Cx} : OpR X (binaryOp .Mult) (fun x y H Q => ∃ (a : Str) (n : Int), x = .str a ∧ y = .int n ∧ MulOk a n ∧ Q (.str (Txt.mul a n)) H) := by
  intro pins s σ H x y v u Q I rx ry h
  obtain ⟨a, n, rfl, rfl, hm, q⟩ := h
  obtain ⟨t, rfl⟩ := rx
  obtain ⟨t', rfl⟩ := ry
  exact PySem.SB.mul hm fun t' k => ⟨.str (Txt.mul a n), H, I.tok _, ⟨_, rfl⟩, q⟩
/-- isinstance(x, (c1, c2, ..)), x an error's object, the tuple just laid -/
def rIsVT (K : PySem.W.Frag) : List V → Hp → VK → Prop := fun xs H Q => ∃ (a D tp : Addr) (cs : List Addr) (b : Bool), xs = [.ref a, .ref tp] ∧ ErrAt H a D ∧ ExcC K D ∧ H tp = some (.tup (cs.map V.ref)) ∧ PySem.W.kitAny K (.ref D) (cs.map Value.ref) = some b ∧ Q (.bl b) H
theorem paired_refs : ∀ cs : List Addr, Paired ClsV (cs.map V.ref) (cs.map Value.ref)
  | [] => .nil
  | c :: cs => .cons (.own c) (paired_refs cs)
theorem call_isVT {X : Cx} (K : PySem.W.Frag) (hK : X.K = K := by rfl) : CallR X (.builtin "isinstance") (rIsVT K) := by
  subst hK
  intro pins s σ H xs us Q I r h
  obtain ⟨a, D, tp, cs, b, rfl, ha, C, hT, e, q⟩ := h
  obtain ⟨u1, u2, rfl, r1, r2⟩ := vals2 r
  cases (show u1 = Value.ref a from r1)
  cases (show u2 = Value.ref tp from r2)
  obtain ⟨oe, od, J⟩ := instV I ha
  have hcl : (PySem.W.clsIn X.K D).isSome = true := by
    obtain ⟨cd, hc, _⟩ := PySem.W.any_some C.hd
    rw [hc]
    rfl
  obtain ⟨_, its, rv, o, h1, h2, n, h3⟩ := (show ObjOk X.prog X.w H s.heap tp (.tup (cs.map V.ref)) from I.hok tp _ hT)
  have e3 := ClsV.all (paired_refs cs) rv
  subst e3
  obtain ⟨oc, od, dt, sl⟩ := o
  simp only at h2 h3
  subst h2 h3
  exact PySem.W.kia_tup (PySem.W.kitx_exc hcl C.hg C.hk C.hs C.ha C.hn C.ht C.hm) I.kIn J h1 e (fun z => nomatch z) fun tk => ⟨.bl b, H, I.kept (t' := tk) fun _ _ z => z, rfl, q⟩
theorem any_refs {K : PySem.W.Frag} {t : Value} {f : Addr → Bool} : ∀ {cs : List Addr}, (∀ c ∈ cs, PySem.W.kitOne K t (.ref c) = some (f c)) → PySem.W.kitAny K t (cs.map Value.ref) = some (cs.any f)
  | [], _ => rfl
  | c :: cs, h => by
    refine kitAny_cons (b := f c) (h c (by simp)) (fun hb => ?_) fun hb => ?_
    · rw [any_refs (cs := cs) fun x hx => h x (List.mem_cons_of_mem _ hx), List.any_cons, hb, Bool.false_or]
    · rw [List.any_cons, hb, Bool.true_or]
section
def rEqNil (K : PySem.W.Frag) : R2 := fun x y H Q => ∃ a b xs, x = .ref a ∧ y = .ref b ∧ SqL K H a xs ∧ SqL K H b [] ∧ Q (.bl xs.isEmpty) H
theorem op_eqNil {X : Cx} (K : PySem.W.Frag) {k : Nat} (hr : Room k X.A) (hK : X.K = K := by rfl) : OpR X (compareOp .Eq) (rEqNil K) := by
  subst hK
  intro pins s σ H x y v u Q I rx ry h
  obtain ⟨a, b, xs, rfl, rfl, ha, hb, q⟩ := h
  cases rx
  cases ry
  obtain ⟨its, r, p1, _⟩ := I.list ha
  obtain ⟨its2, r2, p2, _⟩ := I.list hb
  cases r2
  have hu : X.A.units < cLine := hr.units0
  obtain ⟨o1, n1, g1, c1, _, d1⟩ := p1
  obtain ⟨o2, n2, g2, c2, _, d2⟩ := p2
  have il : s.heap.IsList a its.toArray := ⟨o1, g1, c1, n1, d1⟩
  have ib : s.heap.IsList b #[] := ⟨o2, g2, c2, n2, d2⟩
  cases r with
  | nil =>
    exact PySem.SeqAt.eq_listAt (e := fun _ => true) il ib rfl hu (fun j h1 _ => by simp at h1) ⟨.bl true, H, I, rfl, q⟩
  | cons r1 rr =>
    exact PySem.SeqAt.eq_list_lengthsAt il ib (by simp) hu ⟨.bl false, H, I, rfl, q⟩
def rNeNil (K : PySem.W.Frag) : R2 := fun x y H Q => ∃ a b xs, x = .ref a ∧ y = .ref b ∧ SqL K H a xs ∧ SqL K H b [] ∧ Q (.bl (!xs.isEmpty)) H
theorem op_neNil {X : Cx} (K : PySem.W.Frag) {k : Nat} (hr : Room k X.A) (hK : X.K = K := by rfl) : OpR X (compareOp .NotEq) (rNeNil K) := by
  subst hK
  intro pins s σ H x y v u Q I rx ry h
  obtain ⟨a, b, xs, rfl, rfl, ha, hb, q⟩ := h
  cases rx
  cases ry
  obtain ⟨its, r, p1, _⟩ := I.list ha
  obtain ⟨its2, r2, p2, _⟩ := I.list hb
  cases r2
  have hu : X.A.units < cLine := hr.units0
  obtain ⟨o1, n1, g1, c1, _, d1⟩ := p1
  obtain ⟨o2, n2, g2, c2, _, d2⟩ := p2
  have il : s.heap.IsList a its.toArray := ⟨o1, g1, c1, n1, d1⟩
  have ib : s.heap.IsList b #[] := ⟨o2, g2, c2, n2, d2⟩
  cases r with
  | nil => exact PySem.SeqAt.RcNeAt.lists (e := fun _ => true) il ib rfl hu (fun j h1 _ => by simp at h1) _ _ _ _ ⟨.bl false, H, I, rfl, q⟩
  | cons r1 rr => exact PySem.SeqAt.RcNeAt.lists_lengths il ib (by simp) hu _ _ _ _ ⟨.bl true, H, I, rfl, q⟩
end
end Nw
namespace K48
open PySem PySem.Spec PyProof.Rows L2 Nw
def topS (i : Nat) : Stmt := PySem.Challenge.pw_nudgewebs_k48_texts_of_no_webs.main.body.getD i (.Pass ⟨0, 0, 0, 0⟩)
def errNm (i : Nat) : Str := (["WebError", "InvalidWeb", "InvalidNumber", "InvalidCommand", "InvalidText"] : List Str).getD i ""
theorem bt_ValueError : bootBuiltins "ValueError" = some (.type "ValueError") := by rfl
structure Fam (K : PySem.W.Frag) (mg : Str → Option Value) (c : Nat → Addr) (fB fP : Addr) : Prop where
  g_WebError : mg "WebError" = some (.ref (c 0))
  g_InvalidWeb : mg "InvalidWeb" = some (.ref (c 1))
  g_InvalidNumber : mg "InvalidNumber" = some (.ref (c 2))
  g_InvalidCommand : mg "InvalidCommand" = some (.ref (c 3))
  g_InvalidText : mg "InvalidText" = some (.ref (c 4))
  n : ∀ i, i < 5 → ErrOf K (errNm i) (c i)
  k : ∀ i, i < 5 → PySem.W.keepIn K (.ref (c i)) = true
  x : ∀ i, i < 4 → PySem.W.excIn K (c i) [.type "ValueError", .type "Exception", .type "BaseException", .type "object"] "ValueError.__new__" = true
  e : ∀ i, i < 5 → L2.ExcC K (c i)
  s : ∀ i j, i < 5 → j < 5 → PySem.W.kitOne K (.ref (c i)) (.ref (c j)) = some (decide (i = j ∨ j = 0))
  v : ∀ i, i < 5 → PySem.W.kitOne K (.ref (c i)) (.type "ValueError") = some true
  m : ∀ i, i < 5 → PySem.W.exmOne K (.ref (c i)) (.ref (c 0)) = some true
  t : ∀ i, i < 5 → PySem.W.typeIn K (.ref (c i)) = some (.type "type")
  plc : PySem.PlcX.PlcTxt K mg (c 4) fP
structure Txt (K : PySem.W.Frag) (mg : Str → Option Value) : Prop where
  b_isinstance : mg "isinstance" = none
  b_len : mg "len" = none
  b_all : mg "all" = none
  b_repr : mg "repr" = none
  b_abs : mg "abs" = none
  b_max : mg "max" = none
  b_min : mg "min" = none
  b_int : mg "int" = none
  b_bool : mg "bool" = none
  b_str : mg "str" = none
  b_list : mg "list" = none
  b_tuple : mg "tuple" = none
  b_range : mg "range" = none
  b_enumerate : mg "enumerate" = none
  b_zip : mg "zip" = none
  b_ValueError : mg "ValueError" = none
  c_MOST_QUANTITIES : ∃ t, mg "MOST_QUANTITIES" = some (.int 20 t)
  c_MOST_NUDGES : ∃ t, mg "MOST_NUDGES" = some (.int 8 t)
  c_MOST_DIGITS : ∃ t, mg "MOST_DIGITS" = some (.int 30 t)
  c_BETWEEN : ∃ t, mg "BETWEEN" = some (.str "; " t)
  c_NOTHING : ∃ t, mg "NOTHING" = some (.str "-" t)
  fam : ∃ c fB fP, Fam K mg c fB fP
/-! is_integer: slots 0 value -/
abbrev s_is_integer : Stmt := topS 9
abbrev N_is_integer : List Str := ["value"]
abbrev P_is_integer : List Str := ["value"]
theorem sc_is_integer : FnScope N_is_integer P_is_integer (defScope s_is_integer) := ⟨rfl, rfl, rfl, by decide +kernel, rfl, by decide +kernel, by decide +kernel⟩
def sp_is_integer (K : PySem.W.Frag) : Sp := fun vs H Q _ => ∃ v d, vs = [v] ∧ Da K H d v ∧ Q (.bl (isInt d)) H
section
variable {P : Program} {w : World} {K : PySem.W.Frag} {mg : Str → Option Value} {base : Heap}
theorem ok_is_integer {f : Addr} {fd : FuncData} (T : Txt K mg) (F : Fun K "is_integer" "is_integer" s_is_integer f fd) :
    FnG P w K mg base CX0 1 f fd P_is_integer (sp_is_integer K) := by
  refine okG0 F sc_is_integer (fun vs H Q E h => ?_) (fun cdv A outer s H vs Q E hr hq h => ?_)
  · obtain ⟨v, d, rfl, _⟩ := h
    rfl
  · obtain ⟨v, d, rfl, hd, q⟩ := h
    refine ⟨_, (pss_one (ps_ret (pe_and (pe_callB (call_isiK K) (by rfl) T.b_isinstance bt_isinstance (pa_cons (pv 0) (pa_cons (pe_bty T.b_int bt_int) pa_nil))) (pe_one (pe_not (pe_callB (call_isiK K) (by rfl) T.b_isinstance bt_isinstance (pa_cons (pv 0) (pa_cons (pe_bty T.b_bool bt_bool) pa_nil)))))))), ?_⟩
    refine ⟨_, rfl, _, _, _, _, _, rfl, .ty _, hd.ty, isa_int d, _, rfl, ?_⟩
    rw [← isInt_eq] at q
    refine ite2 (fun h1 => ?_) (fun h1 => ?_)
    · refine ⟨_, rfl, _, _, _, _, _, rfl, .ty _, hd.ty, isa_bool d, _, rfl, ?_⟩
      rw [h1, Bool.true_and] at q
      exact q
    · rw [Bool.not_eq_true] at h1
      rw [h1, Bool.false_and] at q
      exact q
end

/-! is_number_below: slots 0 value, 1 limit -/
abbrev s_is_number_below : Stmt := topS 10
abbrev N_is_number_below : List Str := ["value", "limit"]
abbrev P_is_number_below : List Str := ["value", "limit"]
theorem sc_is_number_below : FnScope N_is_number_below P_is_number_below (defScope s_is_number_below) := ⟨rfl, rfl, rfl, by decide +kernel, rfl, by decide +kernel, by decide +kernel⟩
def sp_is_number_below (K : PySem.W.Frag) : Sp := fun vs H Q _ => ∃ v d m, vs = [v, .int m] ∧ Da K H d v ∧ Q (.bl (numB d m)) H
section
variable {P : Program} {w : World} {K : PySem.W.Frag} {mg : Str → Option Value} {base : Heap}
theorem ok_is_number_below {f : Addr} {fd : FuncData} (T : Txt K mg) (F : Fun K "is_number_below" "is_number_below" s_is_number_below f fd)
    (D_is_integer : DefOk P w K mg base CX0 1 "is_integer" P_is_integer (sp_is_integer K)) :
    FnG P w K mg base CX0 2 f fd P_is_number_below (sp_is_number_below K) := by
  refine okG0 F sc_is_number_below (fun vs H Q E h => ?_) (fun cdv A outer s H vs Q E hr hq h => ?_)
  · obtain ⟨v, d, m, rfl, _⟩ := h
    rfl
  · obtain ⟨v, d, m, rfl, hd, q⟩ := h
    refine ⟨_, (pss_one (ps_ret (pe_and (pe_callD D_is_integer (hr.mono (by decide)) hq pass0 (pa_cons (pv 0) pa_nil)) (pe_one (pe_chain op_le op_lt pe_int (pv 0) (pv 1)))))), ?_⟩
    refine ⟨_, rfl, _, _, rfl, hd, _, rfl, ?_⟩
    cases d with
    | int i =>
      obtain rfl := hd
      refine ⟨_, rfl, _, _, rfl, rfl, _, rfl, ?_⟩
      refine ite2 (fun h1 => ?_) (fun h1 => ?_)
      · refine ⟨_, rfl, _, _, rfl, rfl, ?_⟩
        simp only [numB, h1, Bool.true_and] at q
        exact q
      · rw [Bool.not_eq_true] at h1
        simp only [numB, h1, Bool.false_and] at q
        exact q
    | _ => exact q
end

/-! is_tuple_below: slots 0 value, 1 first_limit, 2 second_limit -/
abbrev s_is_tuple_below : Stmt := topS 11
abbrev N_is_tuple_below : List Str := ["value", "first_limit", "second_limit"]
abbrev P_is_tuple_below : List Str := ["value", "first_limit", "second_limit"]
theorem sc_is_tuple_below : FnScope N_is_tuple_below P_is_tuple_below (defScope s_is_tuple_below) := ⟨rfl, rfl, rfl, by decide +kernel, rfl, by decide +kernel, by decide +kernel⟩
def sp_is_tuple_below (K : PySem.W.Frag) : Sp := fun vs H Q _ => ∃ v d m n, vs = [v, .int m, .int n] ∧ Da K H d v ∧ Q (.bl (tupB d m n)) H
section
variable {P : Program} {w : World} {K : PySem.W.Frag} {mg : Str → Option Value} {base : Heap}
theorem ok_is_tuple_below {f : Addr} {fd : FuncData} (T : Txt K mg) (F : Fun K "is_tuple_below" "is_tuple_below" s_is_tuple_below f fd)
    (D_is_number_below : DefOk P w K mg base CX0 2 "is_number_below" P_is_number_below (sp_is_number_below K)) :
    FnG P w K mg base CX0 3 f fd P_is_tuple_below (sp_is_tuple_below K) := by
  refine okG0 F sc_is_tuple_below (fun vs H Q E h => ?_) (fun cdv A outer s H vs Q E hr hq h => ?_)
  · obtain ⟨v, d, m, n, rfl, _⟩ := h
    rfl
  · obtain ⟨v, d, m, n, rfl, hd, q⟩ := h
    refine ⟨_, (pss_cons (ps_if (PW.pt (pw_or (pt_not (pt_val (pe_callB (call_isiK K) (by rfl) T.b_isinstance bt_isinstance (pa_cons (pv 0) (pa_cons (pe_bty T.b_tuple bt_tuple) pa_nil))))) (pw_or1 (pt_cmpR op_ne (pe_callB (call_lenK K) (by rfl) T.b_len bt_len (pa_cons (pv 0) pa_nil)) pe_int (nomark _))))) (pss_one (ps_ret pe_bl)) pss_nil)
      (pss_one (ps_ret (pe_and (pe_callD D_is_number_below (hr.mono (by decide)) hq pass0 (pa_cons (pe_ix (ix_seqK K) (pv 0) pe_int (fun _ _ => rfl)) (pa_cons (pv 1) pa_nil))) (pe_one (pe_callD D_is_number_below (hr.mono (by decide)) hq pass0 (pa_cons (pe_ix (ix_seqK K) (pv 0) pe_int (fun _ _ => rfl)) (pa_cons (pv 2) pa_nil)))))))), ?_⟩
    refine ⟨_, rfl, _, _, _, _, _, rfl, .ty _, hd.ty, isa_tuple d, _, rfl, ?_⟩
    cases d with
    | tuple ds =>
      obtain ⟨a, xs, rfl, hS0, hA⟩ := hd
      have hS : SqT K _ a xs := .inl (.inl hS0)
      have hl := hA.len
      refine ⟨_, rfl, a, _, rfl, .inr hS, rfl, _, rfl, ?_⟩
      refine ite2 (fun h1 => ?_) (fun h1 => ?_)
      · have e : tupB (.tuple ds) m n = false := by
          unfold tupB
          split
          · rename_i heq
            cases heq
            rw [← hl] at h1
            simp at h1
          · rfl
        rw [e] at q
        exact q
      · have h2 : ds.length = 2 := by
          simp at h1
          omega
        obtain ⟨d1, d2, rfl⟩ : ∃ d1 d2, ds = [d1, d2] := by
          match ds, h2 with
          | [d1, d2], _ => exact ⟨d1, d2, rfl⟩
        obtain ⟨x1, r1, rfl, g1, x2, r2, rfl, g2, rfl⟩ := hA
        refine ⟨_, rfl, .inr (.inl ⟨a, _, 0, x1, rfl, rfl, hS, rfl, _, rfl, _, _, _, rfl, g1, _, rfl, ?_⟩)⟩
        refine ite2 (fun h3 => ?_) (fun h3 => ?_)
        · refine ⟨_, rfl, .inr (.inl ⟨a, _, 1, x2, rfl, rfl, hS, rfl, _, rfl, _, _, _, rfl, g2, ?_⟩)⟩
          simp only [tupB, h3, Bool.true_and] at q
          exact q
        · rw [Bool.not_eq_true] at h3
          simp only [tupB, h3, Bool.false_and] at q
          exact q
    | _ => exact q
end

/-! are_below: slots 0 value, 1 limit, 2 one -/
abbrev s_are_below : Stmt := topS 12
abbrev N_are_below : List Str := ["value", "limit", "one"]
abbrev P_are_below : List Str := ["value", "limit"]
theorem sc_are_below : FnScope N_are_below P_are_below (defScope s_are_below) := ⟨rfl, rfl, rfl, by decide +kernel, rfl, by decide +kernel, by decide +kernel⟩
def sp_are_below (K : PySem.W.Frag) : Sp := fun vs H Q _ => ∃ v d m, vs = [v, .int m] ∧ Da K H d v ∧ ∀ H', Ex H H' → Q (.bl (listB d m)) H'
section
variable {P : Program} {w : World} {K : PySem.W.Frag} {mg : Str → Option Value} {base : Heap}
theorem ok_are_below {f : Addr} {fd : FuncData} (T : Txt K mg) (F : Fun K "are_below" "are_below" s_are_below f fd)
    (D_is_number_below : DefOk P w K mg base CX0 2 "is_number_below" P_is_number_below (sp_is_number_below K)) :
    FnG P w K mg base CX0 3 f fd P_are_below (sp_are_below K) := by
  refine okG0 F sc_are_below (fun vs H Q E h => ?_) (fun cdv A outer s H vs Q E hr hq h => ?_)
  · obtain ⟨v, d, m, rfl, _⟩ := h
    rfl
  · obtain ⟨v, d, m, rfl, hd, q⟩ := h
    refine ⟨_, (pss_one (ps_ret (pe_and (pe_callB (call_isiK K) (by rfl) T.b_isinstance bt_isinstance (pa_cons (pv 0) (pa_cons (pe_bty T.b_list bt_list) pa_nil))) (pe_one (pe_callB (cr_allK K rfl) (by rfl) T.b_all bt_all (pa_cons (pe_lc (own := [("one", 2)]) rfl sc_are_below.nd (pi_listK K (pv 0)) (blkOk_by (N := N_are_below) (sc := defScope s_are_below) (by decide +kernel)) (fun _ _ _ _ _ => (pg_name (i := 2) sc_are_below.nd rfl (by first | exact .inl rfl | exact .inr rfl))) (fun _ _ _ _ _ => pts_nil) (fun _ _ _ _ _ => (pe_callD D_is_number_below (hr.mono (by decide)) hq pass0 (pa_cons (pv 2) (pa_cons (pv 1) pa_nil))))) pa_nil)))))), ?_⟩
    refine ⟨_, rfl, _, _, _, _, _, rfl, .ty _, hd.ty, isa_list d, _, rfl, ?_⟩
    cases d with
    | list ds =>
      obtain ⟨a, xs, rfl, hS0, hA, hz⟩ := hd
      have hS : SqL K _ a xs := .inl (.inl hS0)
      have hl := hA.len
      refine ⟨_, rfl, a, rfl, ⟨_, hS⟩, fun D hD => ?_⟩
      refine lc_ev xs.length (fun _ => true) (fun i y _ => y = .bl (numB (ds.getD i .none) m)) (by omega) hD (fun _ _ _ _ _ h => h)
        (fun i H' hi e => itl_go hS e hi) (fun H' e => itl_stop hS e) ?_ ?_
      · intro i H' x H'' hi e _ y Q' N' hQ _
        obtain ⟨rfl, hx⟩ := itl_yld y hS e
        obtain ⟨d, hd, hx'⟩ := hA.at' hx
        refine ⟨rfl, _, rfl, _, rfl, _, _, _, rfl, hx'.up e, ?_⟩
        refine hQ rfl _ _ Ex.rfl ?_
        rw [List.getD_eq_getElem?_getD, hd]
        rfl
      · intro ys H' e hy gv
        refine ⟨D, (List.range xs.length).map fun i => numB (ds.getD i .none) m, rfl, .inl (.inl ?_), ?_⟩
        · rw [hy, gv.all, given_bl]
        · rw [← hl, all_range_get (fun d => numB d m) .none ds]
          exact q _ e
    | _ => exact q _ Ex.rfl
end

/-! are_ascending: slots 0 values, 1 one, 2 following -/
abbrev s_are_ascending : Stmt := topS 13
abbrev N_are_ascending : List Str := ["values", "one", "following"]
abbrev P_are_ascending : List Str := ["values"]
theorem sc_are_ascending : FnScope N_are_ascending P_are_ascending (defScope s_are_ascending) := ⟨rfl, rfl, rfl, by decide +kernel, rfl, by decide +kernel, by decide +kernel⟩
def sp_are_ascending (K : PySem.W.Frag) : Sp := fun vs H Q _ => ∃ v, vs = [v] ∧
  ((∃ ns : List Int, Da K H (.list (ns.map PyData.int)) v ∧ ∀ H', Ex H H' → Q (.bl (ascB ltIn ns)) H') ∨
   (∃ ps : List (Int × Int), Da K H (.list (ps.map dPair)) v ∧ ∀ H', Ex H H' → Q (.bl (ascB ltPr ps)) H'))
section
variable {P : Program} {w : World} {K : PySem.W.Frag} {mg : Str → Option Value} {base : Heap}
theorem ok_are_ascending {f : Addr} {fd : FuncData} (T : Txt K mg) (F : Fun K "are_ascending" "are_ascending" s_are_ascending f fd) :
    FnG P w K mg base CX0 1 f fd P_are_ascending (sp_are_ascending K) := by
  refine okG0 F sc_are_ascending (fun vs H Q E h => ?_) (fun cdv A outer s H vs Q E hr hq h => ?_)
  · obtain ⟨v, rfl, _⟩ := h
    rfl
  · obtain ⟨v, rfl, h⟩ := h
    refine ⟨_, (pss_one (ps_ret (pe_callB (cr_allK K rfl) (by rfl) T.b_all bt_all (pa_cons (pe_lc (own := [("one", 1), ("following", 2)]) rfl sc_are_ascending.nd (pi_zip (by rfl) T.b_zip (pa_cons (pv 0) (pa_cons (pe_slice (sl_listK K) (pv 0) (po_some pe_int) po_none) pa_nil))) (blkOk_by (N := N_are_ascending) (sc := defScope s_are_ascending) (by decide +kernel)) (fun _ _ _ _ _ => (pg_tupK (n := 2) K rfl (pgs_cons (pg_name (i := 1) sc_are_ascending.nd rfl (by first | exact .inl rfl | exact .inr rfl)) (pgs_cons (pg_name (i := 2) sc_are_ascending.nd rfl (by first | exact .inl rfl | exact .inr rfl)) pgs_nil)))) (fun _ _ _ _ _ => pts_nil) (fun _ _ _ _ _ => (pe_cmpR (op_ltA K hr.units0) (pv 1) (pv 2) (nomark _)))) pa_nil)))), ?_⟩
    rcases h with ⟨ns, ⟨a, xs, rfl, hS0, hA, hz⟩, q⟩ | ⟨ps, ⟨a, xs, rfl, hS0, hA, hz⟩, q⟩
    · obtain rfl := DaAll.ints.mp hA
      have hS : SqL K _ a (ns.map V.int) := .inl (.inl hS0)
      rw [List.length_map] at hz
      refine ⟨_, rfl, .ref a, rfl, 1, rfl, a, _, rfl, hS, fun p hp => ?_⟩
      have hS' := (Ex.nw (o := .lst (cutV (ns.map V.int) (some 1) none)) hp).l hS
      have hC : SqL K (upd H p (.lst (cutV (ns.map V.int) (some 1) none))) p ((ns.map V.int).drop 1) := .inl (.inl (by rw [upd_same, cut1]))
      refine ⟨a, p, _, _, rfl, hS', hC, fun D hD => ?_⟩
      refine lc_ev (min (ns.map V.int).length ((ns.map V.int).drop 1).length) (fun _ => true) (fun i y _ => y = .bl (ascAt ltIn ns i)) (by rw [List.length_map]; omega) hD
        (fun _ _ _ _ _ h => h) (fun i H' hi e => itz_go hS' hC e hi) (fun H' e => itz_stop hS' hC e) ?_ ?_
      · rintro i H' x H'' hi e _ ⟨T', x1, x2, rfl, hT, rfl, h1, h2⟩ Q' N' hQ _
        obtain ⟨n1, g1, rfl⟩ := map_at (h1 _ (e.l hS'))
        obtain ⟨n2, g2, rfl⟩ := map_at (drop1_at (h2 _ (e.l hC)))
        refine ⟨T', _, rfl, .inl (.inl upd_same), rfl, _, _, rfl, _, _, rfl, rfl, rfl, _, rfl, _, rfl, .inl ⟨_, _, rfl, rfl, hQ rfl _ _ (Ex.nw hT) ?_⟩⟩
        show V.bl (decide (n1 < n2)) = V.bl (ascAt ltIn ns i)
        simp only [ascAt, g1, g2, ltIn]
      · intro ys H' e hy gv
        refine ⟨D, (List.range (min (ns.map V.int).length ((ns.map V.int).drop 1).length)).map fun i => ascAt ltIn ns i, rfl, .inl (.inl ?_), ?_⟩
        · rw [hy, gv.all, given_bl]
        · rw [min_drop1, List.length_map, ascB_range]
          exact q _ ((Ex.nw hp).tr e)
    · have hS : SqL K _ a xs := .inl (.inl hS0)
      have hl : ps.length = xs.length := by
        have := hA.len
        rw [List.length_map] at this
        exact this
      rw [List.length_map] at hz
      refine ⟨_, rfl, .ref a, rfl, 1, rfl, a, _, rfl, hS, fun p hp => ?_⟩
      have e0 : Ex H (upd H p (.lst (cutV xs (some 1) none))) := Ex.nw hp
      have hS' := e0.l hS
      have hC : SqL K (upd H p (.lst (cutV xs (some 1) none))) p (xs.drop 1) := .inl (.inl (by rw [upd_same, cut1]))
      refine ⟨a, p, _, _, rfl, hS', hC, fun D hD => ?_⟩
      refine lc_ev (min xs.length (xs.drop 1).length) (fun _ => true) (fun i y _ => y = .bl (ascAt ltPr ps i)) (by omega) hD
        (fun _ _ _ _ _ h => h) (fun i H' hi e => itz_go hS' hC e hi) (fun H' e => itz_stop hS' hC e) ?_ ?_
      · rintro i H' x H'' hi e _ ⟨T', x1, x2, rfl, hT, rfl, h1, h2⟩ Q' N' hQ _
        obtain ⟨p1, g1, a1, rfl, t1⟩ := pairs_at hA (h1 _ (e.l hS'))
        obtain ⟨p2, g2, a2, rfl, t2⟩ := pairs_at hA (drop1_at (h2 _ (e.l hC)))
        have e3 := (e0.tr e).tr (Ex.nw (o := .tup [.ref a1, .ref a2]) hT)
        refine ⟨T', _, rfl, .inl (.inl upd_same), rfl, _, _, rfl, _, _, rfl, rfl, rfl, _, rfl, _, rfl,
          .inr ⟨a1, a2, [p1.1, p1.2], [p2.1, p2.2], rfl, rfl, e3.t t1, e3.t t2, hQ rfl _ _ (Ex.nw hT) ?_⟩⟩
        show V.bl (HT.lexLt [p1.1, p1.2] [p2.1, p2.2]) = V.bl (ascAt ltPr ps i)
        simp only [ascAt, g1, g2, ltPr]
      · intro ys H' e hy gv
        refine ⟨D, (List.range (min xs.length (xs.drop 1).length)).map fun i => ascAt ltPr ps i, rfl, .inl (.inl ?_), ?_⟩
        · rw [hy, gv.all, given_bl]
        · rw [min_drop1, ← hl, ascB_range]
          exact q _ ((Ex.nw hp).tr e)
end

/-! are_ascending_tuples: slots 0 value, 1 first_limit, 2 second_limit, 3 one -/
abbrev s_are_ascending_tuples : Stmt := topS 14
abbrev N_are_ascending_tuples : List Str := ["value", "first_limit", "second_limit", "one"]
abbrev P_are_ascending_tuples : List Str := ["value", "first_limit", "second_limit"]
theorem sc_are_ascending_tuples : FnScope N_are_ascending_tuples P_are_ascending_tuples (defScope s_are_ascending_tuples) := ⟨rfl, rfl, rfl, by decide +kernel, rfl, by decide +kernel, by decide +kernel⟩
def sp_are_ascending_tuples (K : PySem.W.Frag) : Sp := fun vs H Q _ => ∃ v d m n, vs = [v, .int m, .int n] ∧ Da K H d v ∧ ∀ H', Ex H H' → Q (.bl (tuplesB d m n)) H'
section
variable {P : Program} {w : World} {K : PySem.W.Frag} {mg : Str → Option Value} {base : Heap}
theorem ok_are_ascending_tuples {f : Addr} {fd : FuncData} (T : Txt K mg) (F : Fun K "are_ascending_tuples" "are_ascending_tuples" s_are_ascending_tuples f fd)
    (D_is_tuple_below : DefOk P w K mg base CX0 3 "is_tuple_below" P_is_tuple_below (sp_is_tuple_below K))
    (D_are_ascending : DefOk P w K mg base CX0 1 "are_ascending" P_are_ascending (sp_are_ascending K)) :
    FnG P w K mg base CX0 4 f fd P_are_ascending_tuples (sp_are_ascending_tuples K) := by
  refine okG0 F sc_are_ascending_tuples (fun vs H Q E h => ?_) (fun cdv A outer s H vs Q E hr hq h => ?_)
  · obtain ⟨v, d, m, n, rfl, _⟩ := h
    rfl
  · obtain ⟨v, d, m, n, rfl, hd, q⟩ := h
    refine ⟨_, (pss_cons (ps_if (pt_not (pt_val (pe_callB (call_isiK K) (by rfl) T.b_isinstance bt_isinstance (pa_cons (pv 0) (pa_cons (pe_bty T.b_list bt_list) pa_nil))))) (pss_one (ps_ret pe_bl)) pss_nil)
      (pss_cons (ps_if (pt_not (pt_val (pe_callB (cr_allK K rfl) (by rfl) T.b_all bt_all (pa_cons (pe_lc (own := [("one", 3)]) rfl sc_are_ascending_tuples.nd (pi_listK K (pv 0)) (blkOk_by (N := N_are_ascending_tuples) (sc := defScope s_are_ascending_tuples) (by decide +kernel)) (fun _ _ _ _ _ => (pg_name (i := 3) sc_are_ascending_tuples.nd rfl (by first | exact .inl rfl | exact .inr rfl))) (fun _ _ _ _ _ => pts_nil) (fun _ _ _ _ _ => (pe_callD D_is_tuple_below (hr.mono (by decide)) hq pass0 (pa_cons (pv 3) (pa_cons (pv 1) (pa_cons (pv 2) pa_nil)))))) pa_nil)))) (pss_one (ps_ret pe_bl)) pss_nil)
      (pss_one (ps_ret (pe_callD D_are_ascending (hr.mono (by decide)) hq pass0 (pa_cons (pv 0) pa_nil)))))), ?_⟩
    refine ⟨_, rfl, _, _, _, _, _, rfl, .ty _, hd.ty, isa_list d, _, rfl, ?_⟩
    cases d with
    | list ds =>
      have hd0 := hd
      obtain ⟨a, xs, rfl, hS0, hA, hz⟩ := hd
      have hS : SqL K _ a xs := .inl (.inl hS0)
      have hl := hA.len
      refine ⟨_, rfl, a, rfl, ⟨_, hS⟩, fun D hD => ?_⟩
      refine lc_ev xs.length (fun _ => true) (fun i y _ => y = .bl (tupB (ds.getD i .none) m n)) (by omega) hD (fun _ _ _ _ _ h => h)
        (fun i H' hi e => itl_go hS e hi) (fun H' e => itl_stop hS e) ?_ ?_
      · intro i H' x H'' hi e _ y Q' N' hQ _
        obtain ⟨rfl, hx⟩ := itl_yld y hS e
        obtain ⟨d, hd, hx'⟩ := hA.at' hx
        refine ⟨rfl, _, rfl, _, rfl, _, rfl, _, _, _, _, rfl, hx'.up e, ?_⟩
        refine hQ rfl _ _ Ex.rfl ?_
        rw [List.getD_eq_getElem?_getD, hd]
        rfl
      · intro ys H' e hy gv
        refine ⟨D, (List.range xs.length).map fun i => tupB (ds.getD i .none) m n, rfl, .inl (.inl ?_), _, rfl, ?_⟩
        · rw [hy, gv.all, given_bl]
        · rw [← hl, all_range_get (fun d => tupB d m n) .none ds]
          refine ite2 (fun h1 => ?_) (fun h1 => ?_)
          · rw [Bool.not_eq_true'] at h1
            have e2 : tuplesB (.list ds) m n = false := by simp only [tuplesB, h1, Bool.false_and]
            rw [e2] at q
            exact q _ e
          · rw [Bool.not_eq_true', Bool.not_eq_false] at h1
            obtain ⟨ps, rfl, _⟩ := pairs_of_all h1
            refine ⟨_, rfl, _, rfl, .inr ⟨ps, hd0.up e, fun H2 e2 => ?_⟩⟩
            have e3 : tuplesB (.list (ps.map dPair)) m n = ascB ltPr ps := by simp only [tuplesB, h1, Bool.true_and, pairsOf_map]
            rw [e3] at q
            exact q _ (e.tr e2)
    | _ => exact q _ Ex.rfl
end

/-! are_targets: slots 0 value, 1 count -/
abbrev s_are_targets : Stmt := topS 15
abbrev N_are_targets : List Str := ["value", "count"]
abbrev P_are_targets : List Str := ["value", "count"]
theorem sc_are_targets : FnScope N_are_targets P_are_targets (defScope s_are_targets) := ⟨rfl, rfl, rfl, by decide +kernel, rfl, by decide +kernel, by decide +kernel⟩
def sp_are_targets (K : PySem.W.Frag) : Sp := fun vs H Q _ => ∃ v d m, vs = [v, .int m] ∧ Da K H d v ∧ ∀ H', Ex H H' → Q (.bl (targetsB d m)) H'
section
variable {P : Program} {w : World} {K : PySem.W.Frag} {mg : Str → Option Value} {base : Heap}
theorem ok_are_targets {f : Addr} {fd : FuncData} (T : Txt K mg) (F : Fun K "are_targets" "are_targets" s_are_targets f fd)
    (D_are_below : DefOk P w K mg base CX0 3 "are_below" P_are_below (sp_are_below K))
    (D_are_ascending : DefOk P w K mg base CX0 1 "are_ascending" P_are_ascending (sp_are_ascending K)) :
    FnG P w K mg base CX0 4 f fd P_are_targets (sp_are_targets K) := by
  refine okG0 F sc_are_targets (fun vs H Q E h => ?_) (fun cdv A outer s H vs Q E hr hq h => ?_)
  · obtain ⟨v, d, m, rfl, _⟩ := h
    rfl
  · obtain ⟨v, d, m, rfl, hd, q⟩ := h
    refine ⟨_, (pss_one (ps_ret (pe_and (pe_callD D_are_below (hr.mono (by decide)) hq pass0 (pa_cons (pv 0) (pa_cons (pv 1) pa_nil))) (pe_and (pe_cmpR op_gt (pe_callB (call_lenK K) (by rfl) T.b_len bt_len (pa_cons (pv 0) pa_nil)) pe_int (nomark _)) (pe_one (pe_callD D_are_ascending (hr.mono (by decide)) hq pass0 (pa_cons (pv 0) pa_nil))))))), ?_⟩
    refine ⟨_, rfl, _, rfl, _, _, _, rfl, hd, fun H1 e1 => ⟨_, rfl, ?_⟩⟩
    refine ite2 (fun h1 => ?_) (fun h1 => ?_)
    · cases d with
      | list ds =>
        obtain ⟨ns, rfl, _⟩ := ints_of_all (show (ds.all fun d => numB d m) = true from h1)
        have hd1 := hd.up e1
        obtain ⟨a, xs, rfl, hS0, hA, hz⟩ := hd1
        have hS : SqL K _ a xs := .inl (.inl hS0)
        have hl := hA.len
        refine ⟨_, rfl, a, _, rfl, .inl hS, _, _, rfl, rfl, _, rfl, ?_⟩
        refine ite2 (fun h2 => ?_) (fun h2 => ?_)
        · refine ⟨_, rfl, _, rfl, .inl ⟨ns, hd.up e1, fun H2 e2 => ?_⟩⟩
          have e3 : targetsB (.list (ns.map PyData.int)) m = ascB ltIn ns := by
            have h3 : ((ns.map PyData.int).all fun d => numB d m) = true := h1
            have h4 : decide (0 < (ns.map PyData.int).length) = true := by
              rw [hl]
              simpa using h2
            simp only [targetsB, h3, h4, Bool.true_and, intsOf_map]
          rw [e3] at q
          exact q _ (e1.tr e2)
        · have e3 : targetsB (.list (ns.map PyData.int)) m = false := by
            have h4 : decide (0 < (ns.map PyData.int).length) = false := by
              rw [hl]
              simpa using h2
            simp only [targetsB, h4, Bool.false_and, Bool.and_false]
          rw [e3] at q
          exact q _ e1
      | _ => exact (Bool.noConfusion h1 : False).elim
    · rw [Bool.not_eq_true] at h1
      have e3 : targetsB d m = false := by
        cases d with
        | list ds =>
          have h3 : (ds.all fun d => numB d m) = false := h1
          simp only [targetsB, h3, Bool.false_and]
        | _ => rfl
      rw [e3] at q
      exact q _ e1
end

/-! are_nudges: slots 0 value, 1 count, 2 nudge -/
abbrev s_are_nudges : Stmt := topS 16
abbrev N_are_nudges : List Str := ["value", "count", "nudge"]
abbrev P_are_nudges : List Str := ["value", "count"]
theorem sc_are_nudges : FnScope N_are_nudges P_are_nudges (defScope s_are_nudges) := ⟨rfl, rfl, rfl, by decide +kernel, rfl, by decide +kernel, by decide +kernel⟩
def sp_are_nudges (K : PySem.W.Frag) : Sp := fun vs H Q _ => ∃ v d m, vs = [v, .int m] ∧ Da K H d v ∧ ∀ H', Ex H H' → Q (.bl (nudgesB d m)) H'
section
variable {P : Program} {w : World} {K : PySem.W.Frag} {mg : Str → Option Value} {base : Heap}
theorem ok_are_nudges {f : Addr} {fd : FuncData} (T : Txt K mg) (F : Fun K "are_nudges" "are_nudges" s_are_nudges f fd)
    (D_are_targets : DefOk P w K mg base CX0 4 "are_targets" P_are_targets (sp_are_targets K)) :
    FnG P w K mg base CX0 5 f fd P_are_nudges (sp_are_nudges K) := by
  refine okG0 F sc_are_nudges (fun vs H Q E h => ?_) (fun cdv A outer s H vs Q E hr hq h => ?_)
  · obtain ⟨v, d, m, rfl, _⟩ := h
    rfl
  · obtain ⟨v, d, m, rfl, hd, q⟩ := h
    refine ⟨_, (pss_cons (ps_if (PW.pt (pw_or (pt_not (pt_val (pe_callB (call_isiK K) (by rfl) T.b_isinstance bt_isinstance (pa_cons (pv 0) (pa_cons (pe_bty T.b_list bt_list) pa_nil))))) (pw_or1 (pt_cmpR op_gt (pe_callB (call_lenK K) (by rfl) T.b_len bt_len (pa_cons (pv 0) pa_nil)) (pe_globI T.c_MOST_NUDGES) (nomark _))))) (pss_one (ps_ret pe_bl)) pss_nil)
      (pss_one (ps_ret (pe_callB (cr_allK K rfl) (by rfl) T.b_all bt_all (pa_cons (pe_lc (own := [("nudge", 2)]) rfl sc_are_nudges.nd (pi_listK K (pv 0)) (blkOk_by (N := N_are_nudges) (sc := defScope s_are_nudges) (by decide +kernel)) (fun _ _ _ _ _ => (pg_name (i := 2) sc_are_nudges.nd rfl (by first | exact .inl rfl | exact .inr rfl))) (fun _ _ _ _ _ => pts_nil) (fun _ _ _ _ _ => (pe_callD D_are_targets (hr.mono (by decide)) hq pass0 (pa_cons (pv 2) (pa_cons (pv 1) pa_nil))))) pa_nil))))), ?_⟩
    refine ⟨_, rfl, _, _, _, _, _, rfl, .ty _, hd.ty, isa_list d, _, rfl, ?_⟩
    cases d with
    | list ds =>
      obtain ⟨a, xs, rfl, hS0, hA, hz⟩ := hd
      have hS : SqL K _ a xs := .inl (.inl hS0)
      have hl := hA.len
      refine ⟨_, rfl, a, _, rfl, .inl hS, _, _, rfl, rfl, _, rfl, ?_⟩
      refine ite2 (fun h1 => ?_) (fun h1 => ?_)
      · have e3 : nudgesB (.list ds) m = false := by
          have h4 : decide (ds.length ≤ 8) = false := by
            rw [hl]
            simp at h1
            simp
            omega
          simp only [nudgesB, h4, Bool.false_and]
        rw [e3] at q
        exact q _ Ex.rfl
      · have e3 : nudgesB (.list ds) m = ds.all fun d => targetsB d m := by
          have h4 : decide (ds.length ≤ 8) = true := by
            rw [hl]
            simp at h1
            simp
            omega
          simp only [nudgesB, h4, Bool.true_and]
        rw [e3] at q
        refine ⟨_, rfl, a, rfl, ⟨_, hS⟩, fun D hD => ?_⟩
        refine lc_ev xs.length (fun _ => true) (fun i y _ => y = .bl (targetsB (ds.getD i .none) m)) (by omega) hD (fun _ _ _ _ _ h => h)
          (fun i H' hi e => itl_go hS e hi) (fun H' e => itl_stop hS e) ?_ ?_
        · intro i H' x H'' hi e _ y Q' N' hQ _
          obtain ⟨rfl, hx⟩ := itl_yld y hS e
          obtain ⟨d, hd, hx'⟩ := hA.at' hx
          refine ⟨rfl, _, rfl, _, rfl, _, _, _, rfl, hx'.up e, fun H2 e2 => ?_⟩
          refine hQ rfl _ _ e2 ?_
          rw [List.getD_eq_getElem?_getD, hd]
          rfl
        · intro ys H' e hy gv
          refine ⟨D, (List.range xs.length).map fun i => targetsB (ds.getD i .none) m, rfl, .inl (.inl ?_), ?_⟩
          · rw [hy, gv.all, given_bl]
          · rw [← hl, all_range_get (fun d => targetsB d m) .none ds]
            exact q _ e
    | _ => exact q _ Ex.rfl
end

/-! has_web_shape: slots 0 value, 1 count, 2 pairs, 3 nudges -/
abbrev s_has_web_shape : Stmt := topS 17
abbrev N_has_web_shape : List Str := ["value", "count", "pairs", "nudges"]
abbrev P_has_web_shape : List Str := ["value"]
theorem sc_has_web_shape : FnScope N_has_web_shape P_has_web_shape (defScope s_has_web_shape) := ⟨rfl, rfl, rfl, by decide +kernel, rfl, by decide +kernel, by decide +kernel⟩
def sp_has_web_shape (K : PySem.W.Frag) : Sp := fun vs H Q _ => ∃ v d, vs = [v] ∧ Da K H d v ∧ ∀ H', Ex H H' → Q (.bl (webB d)) H'
section
variable {P : Program} {w : World} {K : PySem.W.Frag} {mg : Str → Option Value} {base : Heap}
theorem ok_has_web_shape {f : Addr} {fd : FuncData} (T : Txt K mg) (F : Fun K "has_web_shape" "has_web_shape" s_has_web_shape f fd)
    (D_is_integer : DefOk P w K mg base CX0 1 "is_integer" P_is_integer (sp_is_integer K))
    (D_are_ascending_tuples : DefOk P w K mg base CX0 4 "are_ascending_tuples" P_are_ascending_tuples (sp_are_ascending_tuples K))
    (D_are_nudges : DefOk P w K mg base CX0 5 "are_nudges" P_are_nudges (sp_are_nudges K)) :
    FnG P w K mg base CX0 6 f fd P_has_web_shape (sp_has_web_shape K) := by
  refine okG0 F sc_has_web_shape (fun vs H Q E h => ?_) (fun cdv A outer s H vs Q E hr hq h => ?_)
  · obtain ⟨v, d, rfl, _⟩ := h
    rfl
  · obtain ⟨v, d, rfl, hd, q⟩ := h
    refine ⟨_, (pss_cons (ps_if (PW.pt (pw_or (pt_not (pt_val (pe_callB (call_isiK K) (by rfl) T.b_isinstance bt_isinstance (pa_cons (pv 0) (pa_cons (pe_bty T.b_tuple bt_tuple) pa_nil))))) (pw_or1 (pt_cmpR op_ne (pe_callB (call_lenK K) (by rfl) T.b_len bt_len (pa_cons (pv 0) pa_nil)) pe_int (nomark _))))) (pss_one (ps_ret pe_bl)) pss_nil)
      (pss_cons (ps_asg (pv 0) (pg_tupK (n := 3) K rfl (pgs_cons (pg_name (i := 1) sc_has_web_shape.nd rfl (by first | exact .inl rfl | exact .inr rfl)) (pgs_cons (pg_name (i := 2) sc_has_web_shape.nd rfl (by first | exact .inl rfl | exact .inr rfl)) (pgs_cons (pg_name (i := 3) sc_has_web_shape.nd rfl (by first | exact .inl rfl | exact .inr rfl)) pgs_nil)))))
      (pss_cons (ps_if (PW.pt (pw_or (pt_not (pt_val (pe_callD D_is_integer (hr.mono (by decide)) hq pass0 (pa_cons (pv 1) pa_nil)))) (pw_or1 (pt_not (pt_chain op_le op_le pe_int (pv 1) (pe_globI T.c_MOST_QUANTITIES)))))) (pss_one (ps_ret pe_bl)) pss_nil)
      (pss_one (ps_ret (pe_and (pe_callD D_are_ascending_tuples (hr.mono (by decide)) hq pass0 (pa_cons (pv 2) (pa_cons (pv 1) (pa_cons (pv 1) pa_nil)))) (pe_one (pe_callD D_are_nudges (hr.mono (by decide)) hq pass0 (pa_cons (pv 3) (pa_cons (pv 1) pa_nil)))))))))), ?_⟩
    refine ⟨_, rfl, _, _, _, _, _, rfl, .ty _, hd.ty, isa_tuple d, _, rfl, ?_⟩
    cases d with
    | tuple ds =>
      obtain ⟨a, xs, rfl, hS0, hA⟩ := hd
      have hS : SqT K _ a xs := .inl (.inl hS0)
      have hl := hA.len
      refine ⟨_, rfl, a, _, rfl, .inr hS, rfl, _, rfl, ?_⟩
      refine ite2 (fun h1 => ?_) (fun h1 => ?_)
      · have e : webB (.tuple ds) = false := by
          unfold webB
          split
          · rename_i heq
            cases heq
            rw [← hl] at h1
            simp at h1
          · rfl
        rw [e] at q
        exact q _ Ex.rfl
      · have h2 : ds.length = 3 := by
          simp at h1
          omega
        obtain ⟨d1, d2, d3, rfl⟩ : ∃ d1 d2 d3, ds = [d1, d2, d3] := by
          match ds, h2 with
          | [d1, d2, d3], _ => exact ⟨d1, d2, d3, rfl⟩
        obtain ⟨x1, r1, rfl, g1, x2, r2, rfl, g2, x3, r3, rfl, g3, rfl⟩ := hA
        refine ⟨_, rfl, a, _, rfl, hS, rfl, _, _, rfl, _, _, rfl, _, _, rfl, rfl, ?_⟩
        refine ⟨_, rfl, _, _, rfl, g1, _, rfl, ?_⟩
        cases d1 with
        | int n =>
          obtain rfl := g1
          refine ⟨_, rfl, _, _, rfl, rfl, _, rfl, ?_⟩
          refine ite2 (fun h3 => ?_) (fun h3 => ?_)
          · refine ⟨_, _, rfl, rfl, _, rfl, ?_⟩
            refine ite2 (fun h4 => ?_) (fun h4 => ?_)
            · have e : webB (.tuple [.int n, d2, d3]) = false := by
                have h5 : decide (n ≤ 20) = false := by simpa using h4
                simp only [webB, h5, Bool.and_false, Bool.false_and]
              rw [e] at q
              exact q _ Ex.rfl
            · have e : webB (.tuple [.int n, d2, d3]) = (tuplesB d2 n n && nudgesB d3 n) := by
                have h5 : decide (n ≤ 20) = true := by simpa using h4
                simp only [webB, h5, h3, Bool.true_and]
              rw [e] at q
              refine ⟨_, rfl, _, rfl, _, rfl, _, _, _, _, rfl, g2, fun H1 e1 => ⟨_, rfl, ?_⟩⟩
              refine ite2 (fun h6 => ?_) (fun h6 => ?_)
              · refine ⟨_, rfl, _, rfl, _, _, _, rfl, g3.up e1, fun H2 e2 => ?_⟩
                rw [h6, Bool.true_and] at q
                exact q _ (e1.tr e2)
              · rw [Bool.not_eq_true] at h6
                rw [h6, Bool.false_and] at q
                exact q _ e1
          · have e : webB (.tuple [.int n, d2, d3]) = false := by
              rw [Bool.not_eq_true] at h3
              simp only [webB, h3, Bool.false_and]
            rw [e] at q
            exact ⟨_, rfl, q _ Ex.rfl⟩
        | _ => exact q _ Ex.rfl
    | _ => exact q _ Ex.rfl
end

/-! check_web: slots 0 web -/
abbrev s_check_web : Stmt := topS 19
abbrev N_check_web : List Str := ["web"]
abbrev P_check_web : List Str := ["web"]
theorem sc_check_web : FnScope N_check_web P_check_web (defScope s_check_web) := ⟨rfl, rfl, rfl, by decide +kernel, rfl, by decide +kernel, by decide +kernel⟩
def sp_check_web (K : PySem.W.Frag) : Sp := fun vs H Q E => ∃ v d, vs = [v] ∧ Da K H d v ∧ ChkO K H Q E (webB d) "InvalidWeb"
section
variable {P : Program} {w : World} {K : PySem.W.Frag} {mg : Str → Option Value} {base : Heap}
theorem ok_check_web {f : Addr} {fd : FuncData} (T : Txt K mg) (F : Fun K "check_web" "check_web" s_check_web f fd)
    (D_has_web_shape : DefOk P w K mg base CX0 6 "has_web_shape" P_has_web_shape (sp_has_web_shape K)) :
    FnG P w K mg base (L2.CX P w) 7 f fd P_check_web (sp_check_web K) := by
  obtain ⟨c, fB, fP, hc⟩ := T.fam
  refine okG F sc_check_web (fun vs H Q E h => ?_) (fun cdv A outer s H vs Q E hr hq h => ?_)
  · obtain ⟨v, d, rfl, _⟩ := h
    rfl
  · obtain ⟨v, d, rfl, hd, q⟩ := h
    refine ⟨_, (pss_one (ps_if (pt_not (pt_val (pe_callD D_has_web_shape (hr.mono (by decide)) hq pass0 (pa_cons (pv 0) pa_nil)))) (pss_one (ps_raise rfl (takes_of rfl rfl rfl rfl) (SkE.pmk_own1 PySem.F.excBase_ValueError (hc.x 1 (by decide)) hc.g_InvalidWeb (hc.k 1 (by decide)) (raises_own (hc.e 1 (by decide)).hs (hc.t 1 (by decide))) (by rfl) pe_str))) pss_nil)), ?_⟩
    refine ⟨_, rfl, _, _, rfl, hd, fun H1 e1 => ⟨_, rfl, ?_⟩⟩
    cases hb : webB d with
    | false => exact ite2 (fun _ => q.1 hb _ _ (hc.n 1 (by decide)) e1) (fun h => absurd rfl h)
    | true => exact ite2 (fun h => Bool.noConfusion h) (fun _ => q.2 hb _ e1)
end

/-! number_of: slots 0 word -/
abbrev s_number_of : Stmt := topS 29
abbrev N_number_of : List Str := ["word"]
abbrev P_number_of : List Str := ["word"]
theorem sc_number_of : FnScope N_number_of P_number_of (defScope s_number_of) := ⟨rfl, rfl, rfl, by decide +kernel, rfl, by decide +kernel, by decide +kernel⟩
def sp_number_of (K : PySem.W.Frag) : Sp := fun vs H Q _ => ∃ w : Str, vs = [.str w] ∧ w.length ≤ sizeLine ∧ Q (oV (numW w)) H
section
variable {P : Program} {w : World} {K : PySem.W.Frag} {mg : Str → Option Value} {base : Heap}
theorem ok_number_of {f : Addr} {fd : FuncData} (T : Txt K mg) (F : Fun K "number_of" "number_of" s_number_of f fd) :
    FnG P w K mg base CX0 1 f fd P_number_of (sp_number_of K) := by
  refine okG0 F sc_number_of (fun vs H Q E h => ?_) (fun cdv A outer s H vs Q E hr hq h => ?_)
  · obtain ⟨x, rfl, _⟩ := h
    rfl
  · obtain ⟨x, rfl, hz, q⟩ := h
    refine ⟨_, (pss_cons (ps_if (PW.pt (pw_or (pt_not (pt_val (pe_m0 PySem.F.slot_str_isascii PySem.F.type_str_isascii mt_isascii (pv 0)))) (pw_or (pt_not (pt_val (pe_m0 PySem.F.slot_str_isdigit PySem.F.type_str_isdigit mt_isdigit (pv 0)))) (pw_or1 (pt_cmpR op_gt (pe_callB call_len_str (by rfl) T.b_len bt_len (pa_cons (pv 0) pa_nil)) (pe_globI T.c_MOST_DIGITS) (nomark _)))))) (pss_one (ps_ret pe_non)) pss_nil)
      (pss_cons (ps_if (PW.pt (pw_and (pt_cmpR op_ne (pv 0) pe_str (nomark _)) (pw_and1 (pt_val (pe_m1 PySem.F.slot_str_startswith PySem.F.type_str_startswith mt_startswith (pv 0) pe_str))))) (pss_one (ps_ret pe_non)) pss_nil)
      (pss_one (ps_ret (pe_callTy call_int_str (by rfl) T.b_int bt_int (pa_cons (pv 0) pa_nil)))))), ?_⟩
    have no : (!Txt.isascii x || (!Txt.isdigit x || decide ((30 : Int) < (x.length : Int)))) = true → Q .non H := fun h => by
      unfold numW at q
      rw [if_pos h] at q
      exact q
    refine ⟨_, rfl, ⟨_, rfl⟩, _, rfl, rfl, trivial, _, rfl, ite2 (fun h => no (by rw [h]; rfl)) (fun h1 => ?_)⟩
    refine ⟨_, rfl, ⟨_, rfl⟩, _, rfl, rfl, trivial, _, rfl, ite2 (fun h => no (by rw [h]; simp)) (fun h2 => ?_)⟩
    refine ⟨_, rfl, _, rfl, hz, _, _, rfl, rfl, _, rfl, ite2 (fun h => no (by rw [show decide ((30 : Int) < (x.length : Int)) = true from h]; simp)) (fun h3 => ?_)⟩
    have a1 : Txt.isascii x = true := by simpa using h1
    have a2 : Txt.isdigit x = true := by simpa using h2
    have a3 : ¬ ((30 : Int) < (x.length : Int)) := by simpa using h3
    unfold numW at q
    rw [if_neg (by rw [a1, a2]; simpa using a3)] at q
    obtain ⟨d1, d2⟩ := ascii_digits a1 a2
    have ht := intText_digits d1 d2 (by omega)
    have fin : (if (!decide (V.str x = V.str "0") && Txt.startswith x "0") = true then none else some ((NumText.digitsVal x.cps.toList : Nat) : Int)) = some ((NumText.digitsVal x.cps.toList : Nat) : Int) → Q (.int ((NumText.digitsVal x.cps.toList : Nat) : Int)) H := fun e => by
      rw [e] at q
      exact q
    refine ⟨_, rfl, rfl, _, rfl, ite2 (fun h4 => ?_) (fun h4 => ?_)⟩
    · refine ⟨_, rfl, ⟨_, rfl⟩, _, _, rfl, rfl, _, rfl, ite2 (fun h5 => ?_) (fun h5 => ?_)⟩
      · rw [if_pos (by rw [h4, h5]; rfl)] at q
        exact q
      · exact ⟨_, rfl, _, _, rfl, ht, by omega, fin (if_neg (by rw [Bool.not_eq_true] at h5; rw [h5, Bool.and_false]; exact Bool.false_ne_true))⟩
    · exact ⟨_, rfl, _, _, rfl, ht, by omega, fin (if_neg (by rw [Bool.not_eq_true] at h4; rw [h4, Bool.false_and]; exact Bool.false_ne_true))⟩
end

/-! all_or_none: slots 0 values -/
abbrev s_all_or_none : Stmt := topS 32
abbrev N_all_or_none : List Str := ["values"]
abbrev P_all_or_none : List Str := ["values"]
theorem sc_all_or_none : FnScope N_all_or_none P_all_or_none (defScope s_all_or_none) := ⟨rfl, rfl, rfl, by decide +kernel, rfl, by decide +kernel, by decide +kernel⟩
def sp_all_or_none (K : PySem.W.Frag) : Sp := fun vs H Q _ => ∃ (a : Addr) (ds : List PyData), vs = [.ref a] ∧ Dp K H (.ref a) (.list ds) ∧ SeqAt.shaped (.list ds) = true ∧ Q (if (ds.any fun z => PyData.eqv z .none) = true then .non else .ref a) H
section
variable {P : Program} {w : World} {K : PySem.W.Frag} {mg : Str → Option Value} {base : Heap}
theorem ok_all_or_none {f : Addr} {fd : FuncData} (T : Txt K mg) (F : Fun K "all_or_none" "all_or_none" s_all_or_none f fd) :
    FnG P w K mg base CX0 1 f fd P_all_or_none (sp_all_or_none K) := by
  refine okG0 F sc_all_or_none (fun vs H Q E h => ?_) (fun cdv A outer s H vs Q E hr hq h => ?_)
  · obtain ⟨a, ds, rfl, _⟩ := h
    rfl
  · obtain ⟨a, ds, rfl, hd, hs, q⟩ := h
    refine ⟨_, (pss_one (ps_ret (pe_ifExp (pt_cmpR (op_inDk K hr) pe_non (pv 0) (by rfl)) pe_non (pv 0)))), ?_⟩
    have dn : Dp K H .non .none := Da.dp .none .non rfl rfl
    refine ⟨_, rfl, .none, ds, dn, hd, by decide, hs, _, rfl, ite2 (fun h => ?_) (fun h => ?_)⟩
    · rw [if_pos h] at q
      exact q
    · rw [if_neg h] at q
      exact ⟨_, rfl, q⟩
end

end K48
namespace K48
open PySem PySem.Spec PyProof.Rows L2 Nw
/-! numbers_of: slots 0 word, 1 one -/
abbrev s_numbers_of : Stmt := topS 31
abbrev N_numbers_of : List Str := ["word", "one"]
abbrev P_numbers_of : List Str := ["word"]
theorem sc_numbers_of : FnScope N_numbers_of P_numbers_of (defScope s_numbers_of) := ⟨rfl, rfl, rfl, by decide +kernel, rfl, by decide +kernel, by decide +kernel⟩
def sp_numbers_of (K : PySem.W.Frag) : Sp := fun vs H Q _ => ∃ w : Str, vs = [.str w] ∧ w.length ≤ 90000 ∧
  ((numsW w ",").any Option.isNone = true → ∀ H', Ex H H' → Q .non H') ∧
  ((numsW w ",").any Option.isNone = false → ∀ B H', Ex H H' → H B = none → H' B = some (.lst ((numsW w ",").map oV)) → Q (.ref B) H')
section
variable {P : Program} {w : World} {K : PySem.W.Frag} {mg : Str → Option Value} {base : Heap}
theorem ok_numbers_of {f : Addr} {fd : FuncData} (T : Txt K mg) (F : Fun K "numbers_of" "numbers_of" s_numbers_of f fd)
    (D_number_of : DefOk P w K mg base CX0 1 "number_of" P_number_of (sp_number_of K))
    (D_all_or_none : DefOk P w K mg base CX0 1 "all_or_none" P_all_or_none (sp_all_or_none K)) :
    FnG P w K mg base CX0 2 f fd P_numbers_of (sp_numbers_of K) := by
  refine okG0 F sc_numbers_of (fun vs H Q E h => ?_) (fun cdv A outer s H vs Q E hr hq h => ?_)
  · obtain ⟨x, rfl, _⟩ := h
    rfl
  · obtain ⟨x, rfl, hx, q0, q1⟩ := h
    have wf := words_few (w := x) (sep := ",") (by decide)
    have nl : (numsW x ",").length = (Txt.split x ",").length := List.length_map ..
    refine ⟨_, (pss_one (ps_ret (pe_callD D_all_or_none (hr.mono (by decide)) hq pass0 (pa_cons (pe_lc (own := [("one", 1)]) rfl sc_numbers_of.nd (pi_listK K (pe_split (pv 0) pe_str)) (blkOk_by (N := N_numbers_of) (sc := defScope s_numbers_of) (by decide +kernel)) (fun _ _ _ _ _ => (pg_name (i := 1) sc_numbers_of.nd rfl (by first | exact .inl rfl | exact .inr rfl))) (fun _ _ _ _ _ => pts_nil) (fun _ _ _ _ _ => (pe_callD D_number_of (hr.mono (by decide)) hq pass0 (pa_cons (pv 1) pa_nil)))) pa_nil)))), ?_⟩
    refine ⟨_, rfl, ⟨_, rfl⟩, _, _, rfl, rfl, by decide +kernel, le_line (by omega), fun S hS => ?_⟩
    have e1 : Ex H (upd H S (.lst ((Txt.split x ",").map V.str))) := Ex.nw hS
    have f1 : (upd H S (.lst ((Txt.split x ",").map V.str))) S = some (.lst ((Txt.split x ",").map V.str)) := upd_same
    generalize upd H S (.lst ((Txt.split x ",").map V.str)) = H1 at e1 f1
    have sS : SqL K H1 S ((Txt.split x ",").map V.str) := .inl (.inl f1)
    refine ⟨S, rfl, ⟨_, sS⟩, fun D hD => ?_⟩
    refine lc_by ((Txt.split x ",").map V.str).length (fun i H' => Ex H1 H' ∧ H' D = some (.lst (((numsW x ",").take i).map oV)))
      ⟨Ex.nw hD, upd_same⟩ (fun i H' hi p => itl_go sS p.1 hi) (fun H' p => itl_stop sS p.1) ?_ ?_
    · rintro i H9 y H2 hi ⟨e2, hD2⟩ yy
      obtain ⟨rfl, hy⟩ := itl_yld yy sS e2
      obtain ⟨k, hk, rfl⟩ := map_at hy
      have hl := word_len (w := x) (sep := ",") (by decide) (List.mem_of_getElem? hk)
      have hn : (numsW x ",")[i]? = some (numW k) := by
        unfold numsW
        rw [List.getElem?_map, hk]
        rfl
      rw [take_snoc hn, List.map_append]
      refine ⟨rfl, _, rfl, k, rfl, le_line (by omega), ?_⟩
      refine ⟨_, hD2, mil' ?_, e2.wr hD, upd_same⟩
      rw [List.length_map, List.length_take]
      omega
    · rintro H2 ⟨e2, hD2⟩
      rw [List.length_map, ← nl, List.take_length] at hD2
      have e12 := e1.tr e2
      refine ⟨D, (numsW x ",").map oD, rfl, .lst (.inl (.inl hD2)) (dpAll_oD _), shaped_oD _, ?_⟩
      rw [any_oD]
      cases hb : (numsW x ",").any Option.isNone with
      | true => exact q0 hb H2 e12
      | false => exact q1 hb D H2 e12 (e1.fr hD) hD2
end

end K48
namespace K48
open PySem PySem.Spec PyProof.Rows L2 Nw
/-! pair_of: slots 0 word, 1 numbers, 2 one -/
abbrev s_pair_of : Stmt := topS 30
abbrev N_pair_of : List Str := ["word", "numbers", "one"]
abbrev P_pair_of : List Str := ["word"]
theorem sc_pair_of : FnScope N_pair_of P_pair_of (defScope s_pair_of) := ⟨rfl, rfl, rfl, by decide +kernel, rfl, by decide +kernel, by decide +kernel⟩
def sp_pair_of (K : PySem.W.Frag) : Sp := fun vs H Q _ => ∃ w : Str, vs = [.str w] ∧ w.length ≤ 90000 ∧
  (∀ a b : Int, numsW w ">" = [some a, some b] → ∀ T H', Ex H H' → H T = none → H' T = some (.tup [.int a, .int b]) → Q (.ref T) H') ∧
  ((∀ a b : Int, numsW w ">" ≠ [some a, some b]) → ∀ H', Ex H H' → Q .non H')
section
variable {P : Program} {w : World} {K : PySem.W.Frag} {mg : Str → Option Value} {base : Heap}
theorem ok_pair_of {f : Addr} {fd : FuncData} (T : Txt K mg) (F : Fun K "pair_of" "pair_of" s_pair_of f fd)
    (D_number_of : DefOk P w K mg base CX0 1 "number_of" P_number_of (sp_number_of K))
    (D_all_or_none : DefOk P w K mg base CX0 1 "all_or_none" P_all_or_none (sp_all_or_none K)) :
    FnG P w K mg base CX0 2 f fd P_pair_of (sp_pair_of K) := by
  refine okG0 F sc_pair_of (fun vs H Q E h => ?_) (fun cdv A outer s H vs Q E hr hq h => ?_)
  · obtain ⟨x, rfl, _⟩ := h
    rfl
  · obtain ⟨x, rfl, hx, q1, q0⟩ := h
    have wf := words_few (w := x) (sep := ">") (by decide)
    have nl : (numsW x ">").length = (Txt.split x ">").length := List.length_map ..
    refine ⟨_, (pss_cons (ps_set (i := 1) sc_pair_of.nd rfl (by first | exact .inl rfl | exact .inr rfl) (pe_callD D_all_or_none (hr.mono (by decide)) hq pass0 (pa_cons (pe_lc (own := [("one", 2)]) rfl sc_pair_of.nd (pi_listK K (pe_split (pv 0) pe_str)) (blkOk_by (N := N_pair_of) (sc := defScope s_pair_of) (by decide +kernel)) (fun _ _ _ _ _ => (pg_name (i := 2) sc_pair_of.nd rfl (by first | exact .inl rfl | exact .inr rfl))) (fun _ _ _ _ _ => pts_nil) (fun _ _ _ _ _ => (pe_callD D_number_of (hr.mono (by decide)) hq pass0 (pa_cons (pv 2) pa_nil)))) pa_nil)))
      (pss_cons (ps_if (PW.pt (pw_or (pt_cmpR op_isN (pv 1) pe_non (nomark _)) (pw_or1 (pt_cmpR op_ne (pe_callB (call_lenK K) (by rfl) T.b_len bt_len (pa_cons (pv 1) pa_nil)) pe_int (nomark _))))) (pss_one (ps_ret pe_non)) pss_nil)
      (pss_one (ps_ret (pe_callTy (call_tupleK K) (by rfl) T.b_tuple bt_tuple (pa_cons (pv 1) pa_nil)))))), ?_⟩
    refine ⟨_, rfl, ⟨_, rfl⟩, _, _, rfl, rfl, by decide +kernel, le_line (by omega), fun S hS => ?_⟩
    have e1 : Ex H (upd H S (.lst ((Txt.split x ">").map V.str))) := Ex.nw hS
    have f1 : (upd H S (.lst ((Txt.split x ">").map V.str))) S = some (.lst ((Txt.split x ">").map V.str)) := upd_same
    generalize upd H S (.lst ((Txt.split x ">").map V.str)) = H1 at e1 f1
    have sS : SqL K H1 S ((Txt.split x ">").map V.str) := .inl (.inl f1)
    refine ⟨S, rfl, ⟨_, sS⟩, fun D hD => ?_⟩
    refine lc_by ((Txt.split x ">").map V.str).length (fun i H' => Ex H1 H' ∧ H' D = some (.lst (((numsW x ">").take i).map oV)))
      ⟨Ex.nw hD, upd_same⟩ (fun i H' hi p => itl_go sS p.1 hi) (fun H' p => itl_stop sS p.1) ?_ ?_
    · rintro i H9 y H2 hi ⟨e2, hD2⟩ yy
      obtain ⟨rfl, hy⟩ := itl_yld yy sS e2
      obtain ⟨k, hk, rfl⟩ := map_at hy
      have hl := word_len (w := x) (sep := ">") (by decide) (List.mem_of_getElem? hk)
      have hn : (numsW x ">")[i]? = some (numW k) := by
        unfold numsW
        rw [List.getElem?_map, hk]
        rfl
      rw [take_snoc hn, List.map_append]
      refine ⟨rfl, _, rfl, k, rfl, le_line (by omega), ?_⟩
      refine ⟨_, hD2, mil' ?_, e2.wr hD, upd_same⟩
      rw [List.length_map, List.length_take]
      omega
    · rintro H2 ⟨e2, hD2⟩
      rw [List.length_map, ← nl, List.take_length] at hD2
      have e12 := e1.tr e2
      refine ⟨D, (numsW x ">").map oD, rfl, .lst (.inl (.inl hD2)) (dpAll_oD _), shaped_oD _, ?_⟩
      rw [any_oD]
      cases hb : (numsW x ">").any Option.isNone with
      | true =>
        refine ⟨_, rfl, rfl, true, rfl, ite2 (fun _ => ?_) (fun h => absurd rfl h)⟩
        exact q0 (fun a b e => by rw [e] at hb; cases hb) H2 e12
      | false =>
        refine ⟨_, rfl, rfl, false, rfl, ite2 (fun h => Bool.noConfusion h) (fun _ => ?_)⟩
        refine ⟨_, rfl, D, _, rfl, .inl (.inl (.inl hD2)), rfl, _, rfl, ite2 (fun h => ?_) (fun h => ?_)⟩
        · refine q0 (fun a b e => ?_) H2 e12
          rw [e] at h
          simp at h
        · obtain ⟨a, b, e⟩ : ∃ a b, numsW x ">" = [some a, some b] := by
            match hm : numsW x ">", hb, h with
            | [some a, some b], _, _ => exact ⟨a, b, rfl⟩
            | [], _, h => simp at h
            | [_], _, h => simp at h
            | none :: _ :: _, hb, _ => simp at hb
            | some _ :: none :: _, hb, _ => simp at hb
            | some _ :: some _ :: _ :: l, _, h => simp at h; omega
          rw [e] at hD2
          refine ⟨_, rfl, D, _, rfl, .inl ⟨.inl (.inl hD2), fun T hT => ?_⟩⟩
          exact q1 a b e T _ (e12.tr (Ex.nw hT)) (e12.fr hT) upd_same
end

end K48
namespace K48
open PySem PySem.Spec PyProof.Rows L2 Nw
/-! number_words: slots 0 numbers, 1 number -/
abbrev s_number_words : Stmt := topS 26
abbrev N_number_words : List Str := ["numbers", "number"]
abbrev P_number_words : List Str := ["numbers"]
theorem sc_number_words : FnScope N_number_words P_number_words (defScope s_number_words) := ⟨rfl, rfl, rfl, by decide +kernel, rfl, by decide +kernel, by decide +kernel⟩
def sp_number_words (K : PySem.W.Frag) : Sp := fun vs H Q _ => ∃ (a : Addr) (r : List Int), vs = [.ref a] ∧ SqL K H a (r.map V.int) ∧ (∀ x ∈ r, 0 ≤ x ∧ x < 100) ∧ r.length ≤ 1000 ∧
  ∀ B H', Ex H H' → H B = none → H' B = some (.lst ((r.map nS).map V.str)) → Q (.ref B) H'
section
variable {P : Program} {w : World} {K : PySem.W.Frag} {mg : Str → Option Value} {base : Heap}
theorem ok_number_words {f : Addr} {fd : FuncData} (T : Txt K mg) (F : Fun K "number_words" "number_words" s_number_words f fd) :
    FnG P w K mg base CX0 1 f fd P_number_words (sp_number_words K) := by
  refine okG0 F sc_number_words (fun vs H Q E h => ?_) (fun cdv A outer s H vs Q E hr hq h => ?_)
  · obtain ⟨a, r, rfl, _⟩ := h
    rfl
  · obtain ⟨a, r, rfl, hS, hb, hl, q⟩ := h
    refine ⟨_, (pss_one (ps_ret (pe_lc (own := [("number", 1)]) rfl sc_number_words.nd (pi_listK K (pv 0)) (blkOk_by (N := N_number_words) (sc := defScope s_number_words) (by decide +kernel)) (fun _ _ _ _ _ => (pg_name (i := 1) sc_number_words.nd rfl (by first | exact .inl rfl | exact .inr rfl))) (fun _ _ _ _ _ => pts_nil) (fun _ _ _ _ _ => (pe_callTy call_str_int (by rfl) T.b_str bt_str (pa_cons (pv 1) pa_nil)))))), ?_⟩
    refine ⟨_, rfl, a, rfl, ⟨_, hS⟩, fun D hD => ?_⟩
    refine lc_by (r.map V.int).length (fun i H' => Ex H H' ∧ H' D = some (.lst (((r.take i).map nS).map V.str)))
      ⟨Ex.nw hD, upd_same⟩ (fun i H' hi p => itl_go hS p.1 hi) (fun H' p => itl_stop hS p.1) ?_ ?_
    · rintro i H9 x H2 hi ⟨e2, hD2⟩ y
      obtain ⟨rfl, hx⟩ := itl_yld y hS e2
      obtain ⟨k, hk, rfl⟩ := map_at hx
      have hkb := hb k (List.mem_of_getElem? hk)
      rw [take_snoc hk, List.map_append, List.map_append]
      refine ⟨rfl, _, rfl, k, rfl, log_nS hkb.1 hkb.2, _, hD2, mil' ?_, e2.wr hD, upd_same⟩
      rw [List.length_map, List.length_map, List.length_take]
      omega
    · rintro H2 ⟨e2, hD2⟩
      rw [List.length_map, List.take_length] at hD2
      exact q D H2 e2 hD hD2
end

/-! line_words: slots 0 lines, 1 source, 2 target -/
abbrev s_line_words : Stmt := topS 27
abbrev N_line_words : List Str := ["lines", "source", "target"]
abbrev P_line_words : List Str := ["lines"]
theorem sc_line_words : FnScope N_line_words P_line_words (defScope s_line_words) := ⟨rfl, rfl, rfl, by decide +kernel, rfl, by decide +kernel, by decide +kernel⟩
def sp_line_words (K : PySem.W.Frag) : Sp := fun vs H Q _ => ∃ (v : V) (ps : List (Int × Int)), vs = [v] ∧ Da K H (dPairs ps) v ∧ (∀ p ∈ ps, (0 ≤ p.1 ∧ p.1 < 100) ∧ (0 ≤ p.2 ∧ p.2 < 100)) ∧ ps.length ≤ 1300 ∧
  ∀ B H', Ex H H' → H B = none → H' B = some (.lst ((ps.map pS).map V.str)) → Q (.ref B) H'
section
variable {P : Program} {w : World} {K : PySem.W.Frag} {mg : Str → Option Value} {base : Heap}
theorem ok_line_words {f : Addr} {fd : FuncData} (T : Txt K mg) (F : Fun K "line_words" "line_words" s_line_words f fd) :
    FnG P w K mg base CX0 1 f fd P_line_words (sp_line_words K) := by
  refine okG0 F sc_line_words (fun vs H Q E h => ?_) (fun cdv A outer s H vs Q E hr hq h => ?_)
  · obtain ⟨v, ps, rfl, _⟩ := h
    rfl
  · obtain ⟨v, ps, rfl, hd, hb, hl, q⟩ := h
    obtain ⟨a, xs, rfl, ha, hA, hz⟩ := hd
    have hxl := hA.len
    rw [List.length_map] at hxl
    have hS : SqL K H a xs := .inl (.inl ha)
    refine ⟨_, (pss_one (ps_ret (pe_lc (own := [("source", 1), ("target", 2)]) rfl sc_line_words.nd (pi_listK K (pv 0)) (blkOk_by (N := N_line_words) (sc := defScope s_line_words) (by decide +kernel)) (fun _ _ _ _ _ => (pg_tupK (n := 2) K rfl (pgs_cons (pg_name (i := 1) sc_line_words.nd rfl (by first | exact .inl rfl | exact .inr rfl)) (pgs_cons (pg_name (i := 2) sc_line_words.nd rfl (by first | exact .inl rfl | exact .inr rfl)) pgs_nil)))) (fun _ _ _ _ _ => pts_nil) (fun _ _ _ _ _ => (pe_joinedT (PJ.cons (pe_fmt (pv 1)) (PJ.cons pe_str (PJ.cons (pe_fmt (pv 2)) PJ.nil)))))))), ?_⟩
    refine ⟨_, rfl, a, rfl, ⟨_, hS⟩, fun D hD => ?_⟩
    refine lc_by xs.length (fun i H' => Ex H H' ∧ H' D = some (.lst (((ps.take i).map pS).map V.str)))
      ⟨Ex.nw hD, upd_same⟩ (fun i H' hi p => itl_go hS p.1 hi) (fun H' p => itl_stop hS p.1) ?_ ?_
    · rintro i H9 x H2 hi ⟨e2, hD2⟩ y
      obtain ⟨rfl, hx⟩ := itl_yld y hS e2
      obtain ⟨p, hp, b, rfl, hSb⟩ := pairs_at hA hx
      have hkb := hb p (List.mem_of_getElem? hp)
      have l1 : (Str.ofString (toString p.1)).length ≤ 2 := len_nS hkb.1.1 hkb.1.2
      have l2 : (Str.ofString (toString p.2)).length ≤ 2 := len_nS hkb.2.1 hkb.2.2
      have l0 : (">" : Str).length = 1 := by decide +kernel
      rw [take_snoc hp, List.map_append, List.map_append]
      refine ⟨b, _, rfl, e2.t hSb, rfl, _, _, rfl, _, _, rfl, rfl, rfl, ?_⟩
      refine ⟨_, rfl, .inr ⟨_, rfl, log_nS hkb.1.1 hkb.1.2, _, rfl, le_line (by rw [app_len, no_len]; omega), _, rfl, le_line (by rw [app_len, app_len, no_len, l0]; omega), _, rfl, .inr ⟨_, rfl, log_nS hkb.2.1 hkb.2.2, _, rfl, le_line (by rw [app_len, app_len, app_len, no_len, l0]; omega), _, hD2, mil' ?_, e2.wr hD, ?_⟩⟩⟩
      · rw [List.length_map, List.length_map, List.length_take]
        omega
      · rw [upd_same, pS_fmt]
        rfl
    · rintro H2 ⟨e2, hD2⟩
      rw [← hxl, List.take_length] at hD2
      exact q D H2 e2 hD hD2
end

/-! show_web: slots 0 web, 1 count, 2 pairs, 3 nudges, 4 nudge_words, 5 nudge, 6 parts -/
abbrev s_show_web : Stmt := topS 24
abbrev N_show_web : List Str := ["web", "count", "pairs", "nudges", "nudge_words", "nudge", "parts"]
abbrev P_show_web : List Str := ["web"]
theorem sc_show_web : FnScope N_show_web P_show_web (defScope s_show_web) := ⟨rfl, rfl, rfl, by decide +kernel, rfl, by decide +kernel, by decide +kernel⟩
def sp_show_web (K : PySem.W.Frag) : Sp := fun vs H Q E => ∃ v d, vs = [v] ∧ Da K H d v ∧ (webB d = false → ∀ C H', ErrOf K "InvalidWeb" C → Ex H H' → E (.ref C) none H') ∧ (∀ u : Wb, d = u.d → u.Ok → ∀ H', Ex H H' → Q (.str (webS u)) H')
section
variable {P : Program} {w : World} {K : PySem.W.Frag} {mg : Str → Option Value} {base : Heap}
theorem ok_show_web {f : Addr} {fd : FuncData} (T : Txt K mg) (F : Fun K "show_web" "show_web" s_show_web f fd)
    (D_check_web : DefOk P w K mg base (L2.CX P w) 7 "check_web" P_check_web (sp_check_web K))
    (D_number_words : DefOk P w K mg base CX0 1 "number_words" P_number_words (sp_number_words K))
    (D_line_words : DefOk P w K mg base CX0 1 "line_words" P_line_words (sp_line_words K)) :
    FnG P w K mg base (L2.CX P w) 8 f fd P_show_web (sp_show_web K) := by
  obtain ⟨c, fB, fP, hc⟩ := T.fam
  refine okG F sc_show_web (fun vs H Q E h => ?_) (fun cdv A outer s H vs Q E hr hq h => ?_)
  · obtain ⟨v, d, rfl, _⟩ := h
    rfl
  · obtain ⟨v, d, rfl, hd, qE, qo⟩ := h
    refine ⟨_, (pss_cons (ps_expr (pe_callD D_check_web (hr.mono (by decide)) hq (passE (takes_of rfl rfl rfl rfl)) (pa_cons (pv 0) pa_nil)))
      (pss_cons (ps_asg (pv 0) (pg_tupK (n := 3) K rfl (pgs_cons (pg_name (i := 1) sc_show_web.nd rfl (by first | exact .inl rfl | exact .inr rfl)) (pgs_cons (pg_name (i := 2) sc_show_web.nd rfl (by first | exact .inl rfl | exact .inr rfl)) (pgs_cons (pg_name (i := 3) sc_show_web.nd rfl (by first | exact .inl rfl | exact .inr rfl)) pgs_nil)))))
      (pss_cons (ps_setLc (i := 4) (own := [("nudge", 5)]) rfl sc_show_web.nd rfl rfl (sw_true rfl rfl rfl (by decide +kernel)) (pi_listK K (pv 3)) (blkOk_by (N := N_show_web) (sc := defScope s_show_web) (by decide +kernel)) (fun _ _ _ _ _ => (pg_name (i := 5) sc_show_web.nd rfl (by first | exact .inl rfl | exact .inr rfl))) (fun _ _ _ _ _ => pts_nil) (fun _ _ _ _ _ => (pe_joinK K pe_str (pe_callD D_number_words (hr.mono (by decide)) hq pass0 (pa_cons (pv 5) pa_nil)))))
      (pss_cons (ps_set (i := 6) sc_show_web.nd rfl (by first | exact .inl rfl | exact .inr rfl) (pe_lst (pa_cons (pe_callTy call_str_int (by rfl) T.b_str bt_str (pa_cons (pv 1) pa_nil)) (pa_cons (pe_orSK K (pe_joinK K pe_str (pe_callD D_line_words (hr.mono (by decide)) hq pass0 (pa_cons (pv 2) pa_nil))) (pe_one (pe_globS T.c_NOTHING))) (pa_cons (pe_orSK K (pe_joinK K pe_str (pv 4)) (pe_one (pe_globS T.c_NOTHING))) pa_nil)))))
      (pss_one (ps_ret (pe_joinK K (pe_globS T.c_BETWEEN) (pv 6)))))))), ?_⟩
    refine ⟨_, rfl, v, d, rfl, hd, fun hw C H' hC e => qE hw C H' hC e, fun hw H1 e1 => ?_⟩
    obtain ⟨u, rfl, hu⟩ := webB_inv hw
    have q := qo u rfl hu
    have sm := hu.sml
    have hn := sm.n
    have hpb : ∀ p ∈ u.ps, (0 ≤ p.1 ∧ p.1 < 100) ∧ (0 ≤ p.2 ∧ p.2 < 100) := fun p hp => by
      have := sm.ps p hp
      omega
    have hnb : ∀ r ∈ u.ns, r.length ≤ 20 ∧ ∀ x ∈ r, 0 ≤ x ∧ x < 100 := fun r hr => ⟨(sm.ns r hr).2.1, fun x hx => by
      have := (sm.ns r hr).2.2 x hx
      omega⟩
    obtain ⟨tw, x2, x3, rfl, hS, g2, ⟨a3, xs3, rfl, hL3, hA3, hz3⟩⟩ := Wb.at hd
    have hl3 := hA3.len
    rw [List.length_map] at hl3
    refine ⟨_, rfl, tw, _, rfl, e1.t hS, rfl, _, _, rfl, _, _, rfl, _, _, rfl, rfl, ?_⟩
    have sL : SqL K H1 a3 xs3 := .inl (.inl (e1 _ _ hL3))
    refine ⟨_, rfl, a3, rfl, ⟨_, sL⟩, fun D hD => ?_⟩
    refine lc_by xs3.length (fun i H' => Ex H1 H' ∧ H' D = some (.lst (((u.ns.take i).map rS).map V.str)))
      ⟨Ex.nw hD, upd_same⟩ (fun i H' hi p => itl_go sL p.1 hi) (fun H' p => itl_stop sL p.1) ?_ ?_
    · rintro i H9 x H2 hi ⟨e2, hD2⟩ y
      obtain ⟨rfl, hx⟩ := itl_yld y sL e2
      obtain ⟨d, hd2, hdx⟩ := hA3.at' hx
      obtain ⟨r, hrr, rfl⟩ := map_at hd2
      have hrb := hnb r (List.mem_of_getElem? hrr)
      obtain ⟨b, zs, rfl, hb, hbA, _⟩ := (hdx.up e1).up e2
      obtain rfl := DaAll.ints.mp hbA
      rw [take_snoc hrr, List.map_append, List.map_append]
      refine ⟨rfl, ⟨_, rfl⟩, _, rfl, b, r, rfl, .inl (.inl hb), hrb.2, Nat.le_trans hrb.1 (by decide), fun B H3 e3 hB hB3 => ?_⟩
      refine ⟨_, B, r.map nS, rfl, rfl, .inl (.inl (.inl hB3)), join_room (m := 2) (k := 20) (fun y hy => ?_) (by rw [List.length_map]; exact hrb.1) (by decide +kernel) (by decide), _, e3 _ _ hD2, mil' ?_, (e2.tr e3).wr hD, upd_same⟩
      · obtain ⟨x, hx, rfl⟩ := List.mem_map.mp hy
        exact len_nS (hrb.2 x hx).1 (hrb.2 x hx).2
      · rw [List.length_map, List.length_map, List.length_take]
        have := sm.nl
        omega
    · rintro H2 ⟨e2, hD2⟩
      rw [← hl3, List.take_length] at hD2
      have e12 := e1.tr e2
      refine ⟨_, rfl, _, rfl, log_nS hn.1 (by omega), ⟨_, rfl⟩, _, rfl, x2, u.ps, rfl, g2.up e12, hpb, sm.pl, fun B H3 e3 hB hB3 => ?_⟩
      refine ⟨_, B, u.ps.map pS, rfl, rfl, .inl (.inl (.inl hB3)), join_room (m := 8) (k := 1300) (fun y hy => ?_) (by rw [List.length_map]; exact sm.pl) (by decide +kernel) (by decide), _, rfl, le_line (Nat.le_trans (len_psJ hpb sm.pl) (by decide)), ?_⟩
      · obtain ⟨x, hx, rfl⟩ := List.mem_map.mp hy
        exact (len_pS (hpb x hx).1 (hpb x hx).2).1
      rw [or_psS hpb]
      have hD3 := e3 _ _ hD2
      refine ⟨⟨_, rfl⟩, _, rfl, _, D, u.ns.map rS, rfl, rfl, .inl (.inl (.inl hD3)), join_room (m := 80) (k := 20) (fun y hy => ?_) (by rw [List.length_map]; have := sm.nl; omega) (by decide +kernel) (by decide), _, rfl, le_line (Nat.le_trans (len_nsJ hnb (by have := sm.nl; omega)) (by decide)), ?_⟩
      · obtain ⟨x, hx, rfl⟩ := List.mem_map.mp hy
        exact len_rS (hnb x hx).2 (hnb x hx).1
      rw [or_nsS (fun r hr => ⟨(sm.ns r hr).1, fun x hx => ((hnb r hr).2 x hx).1⟩)]
      refine ⟨by show 3 ≤ sizeLine; decide, fun L hL => ?_⟩
      have e4 : Ex H3 (upd H3 L (.lst [.str (nS u.n), .str (psS u.ps), .str (nsS u.ns)])) := Ex.nw hL
      refine ⟨⟨_, rfl⟩, _, rfl, _, L, [nS u.n, psS u.ps, nsS u.ns], rfl, rfl, .inl (.inl (.inl upd_same)), join_room (m := 13000) (k := 3) (fun y hy => ?_) (by show 3 ≤ 3; decide) (by decide +kernel) (by decide), q _ ((e12.tr e3).tr e4)⟩
      rcases List.mem_cons.mp hy with rfl | hy
      · exact Nat.le_trans (len_nS hn.1 (by omega)) (by decide)
      · rcases List.mem_cons.mp hy with rfl | hy
        · exact len_psS hpb sm.pl
        · obtain rfl := List.mem_singleton.mp hy
          exact Nat.le_trans (len_nsS hnb (by have := sm.nl; omega)) (by decide)
end

end K48
namespace K48
open PySem PySem.Spec PyProof.Rows L2 Nw
/-! part_value: slots 0 place, 1 part, 2 word -/
abbrev s_part_value : Stmt := topS 28
abbrev N_part_value : List Str := ["place", "part", "word"]
abbrev P_part_value : List Str := ["place", "part"]
theorem sc_part_value : FnScope N_part_value P_part_value (defScope s_part_value) := ⟨rfl, rfl, rfl, by decide +kernel, rfl, by decide +kernel, by decide +kernel⟩
def sp_part_value (K : PySem.W.Frag) : Sp := fun vs H Q _ => ∃ (p : Nat) (s : Str), vs = [.int (p : Int), .str s] ∧ p < 3 ∧ s.length ≤ 90000 ∧
  (partD p s = none → ∀ H', Ex H H' → Q .non H') ∧ (∀ d, partD p s = some d → ∀ v H', Ex H H' → Da K (newH H H') d v → Q v H')
section
variable {P : Program} {w : World} {K : PySem.W.Frag} {mg : Str → Option Value} {base : Heap}
theorem ok_part_value {f : Addr} {fd : FuncData} (T : Txt K mg) (F : Fun K "part_value" "part_value" s_part_value f fd)
    (D_number_of : DefOk P w K mg base CX0 1 "number_of" P_number_of (sp_number_of K))
    (D_pair_of : DefOk P w K mg base CX0 2 "pair_of" P_pair_of (sp_pair_of K))
    (D_numbers_of : DefOk P w K mg base CX0 2 "numbers_of" P_numbers_of (sp_numbers_of K))
    (D_all_or_none : DefOk P w K mg base CX0 1 "all_or_none" P_all_or_none (sp_all_or_none K)) :
    FnG P w K mg base CX0 3 f fd P_part_value (sp_part_value K) := by
  refine okG0 F sc_part_value (fun vs H Q E h => ?_) (fun cdv A outer s H vs Q E hr hq h => ?_)
  · obtain ⟨a, b, rfl, _⟩ := h
    rfl
  · obtain ⟨place, part, rfl, hp, hl, q0, q1⟩ := h
    refine ⟨_, (pss_cons (ps_if (pt_cmpR op_eq (pv 0) pe_int (nomark _)) (pss_one (ps_ret (pe_callD D_number_of (hr.mono (by decide)) hq pass0 (pa_cons (pv 1) pa_nil)))) pss_nil)
      (pss_cons (ps_if (pt_cmpR op_eq (pv 1) (pe_globS T.c_NOTHING) (nomark _)) (pss_one (ps_ret (pe_lst pa_nil))) pss_nil)
      (pss_cons (ps_if (pt_cmpR op_eq (pv 0) pe_int (nomark _)) (pss_one (ps_ret (pe_callD D_all_or_none (hr.mono (by decide)) hq pass0 (pa_cons (pe_lc (own := [("word", 2)]) rfl sc_part_value.nd (pi_listK K (pe_split (pv 1) pe_str)) (blkOk_by (N := N_part_value) (sc := defScope s_part_value) (by decide +kernel)) (fun _ _ _ _ _ => (pg_name (i := 2) sc_part_value.nd rfl (by first | exact .inl rfl | exact .inr rfl))) (fun _ _ _ _ _ => pts_nil) (fun _ _ _ _ _ => (pe_callD D_pair_of (hr.mono (by decide)) hq pass0 (pa_cons (pv 2) pa_nil)))) pa_nil)))) pss_nil)
      (pss_one (ps_ret (pe_callD D_all_or_none (hr.mono (by decide)) hq pass0 (pa_cons (pe_lc (own := [("word", 2)]) rfl sc_part_value.nd (pi_listK K (pe_split (pv 1) pe_str)) (blkOk_by (N := N_part_value) (sc := defScope s_part_value) (by decide +kernel)) (fun _ _ _ _ _ => (pg_name (i := 2) sc_part_value.nd rfl (by first | exact .inl rfl | exact .inr rfl))) (fun _ _ _ _ _ => pts_nil) (fun _ _ _ _ _ => (pe_callD D_numbers_of (hr.mono (by decide)) hq pass0 (pa_cons (pv 2) pa_nil)))) pa_nil))))))), ?_⟩
    have wf := words_few (w := part) (sep := " ") (by decide)
    have cases3 : place = 0 ∨ place = 1 ∨ place = 2 := by omega
    rcases cases3 with rfl | rfl | rfl
    · refine ⟨_, rfl, rfl, _, rfl, ite2 (fun _ => ?_) (fun h => by simp at h)⟩
      refine ⟨_, rfl, _, rfl, le_line (by omega), ?_⟩
      have e : partD 0 part = (numW part).map PyData.int := rfl
      rw [e] at q0 q1
      cases hn : numW part with
      | none => exact q0 (by rw [hn]; rfl) H Ex.rfl
      | some i => exact q1 (.int i) (by rw [hn]; rfl) _ H Ex.rfl rfl
    · refine ⟨_, rfl, rfl, _, rfl, ite2 (fun h => by simp at h) (fun _ => ?_)⟩
      have e : partD 1 part = (partP part).map dPairs := rfl
      rw [e] at q0 q1
      refine ⟨_, rfl, rfl, _, rfl, ite2 (fun h => ?_) (fun h => ?_)⟩
      · have hp : part = "-" := by simpa using h
        refine ⟨Nat.zero_le _, fun L hL => q1 (dPairs []) (by unfold partP; rw [if_pos hp]; rfl) (.ref L) _ (Ex.nw hL) ⟨L, [], rfl, (newH.at_ hL).trans upd_same, rfl, by decide⟩⟩
      have hn : part ≠ "-" := fun z => by
        subst z
        exact h rfl
      refine ⟨_, rfl, rfl, _, rfl, ite2 (fun _ => ?_) (fun h => by simp at h)⟩
      refine ⟨_, rfl, ⟨_, rfl⟩, _, _, rfl, rfl, by decide +kernel, le_line (by omega), fun S hS => ?_⟩
      have e1 : Ex H (upd H S (.lst ((Txt.split part " ").map V.str))) := Ex.nw hS
      have f1 : (upd H S (.lst ((Txt.split part " ").map V.str))) S = some (.lst ((Txt.split part " ").map V.str)) := upd_same
      generalize upd H S (.lst ((Txt.split part " ").map V.str)) = H1 at e1 f1
      have sS : SqL K H1 S ((Txt.split part " ").map V.str) := .inl (.inl f1)
      refine ⟨S, rfl, ⟨_, sS⟩, fun D hD => ?_⟩
      have nB : (upd H1 D (.lst [])) D ≠ none := by
        rw [upd_same]
        exact fun z => nomatch z
      refine lc_by ((Txt.split part " ").map V.str).length (fun i H' => Ex H1 H' ∧ ∃ xs, H' D = some (.lst xs) ∧ DaAll K (newH (upd H1 D (.lst [])) H') (((Txt.split part " ").take i).map fun w => oDat dPair (pairW w)) xs)
        ⟨Ex.nw hD, [], upd_same, rfl⟩ (fun i H' hi p => itl_go sS p.1 hi) (fun H' p => itl_stop sS p.1) ?_ ?_
      · rintro i H9 x H2 hi ⟨e2, xs, hD2, hA2⟩ y
        obtain ⟨rfl, hx⟩ := itl_yld y sS e2
        obtain ⟨k, hk, rfl⟩ := map_at hx
        have hkl := word_len (w := part) (sep := " ") (by decide) (List.mem_of_getElem? hk)
        have l3 := hA2.len
        rw [List.length_map, List.length_take] at l3
        have put : ∀ (x : V) (H3 : Hp), Ex H2 H3 → Da K (newH (upd H1 D (.lst [])) H3) (oDat dPair (pairW k)) x →
            H3 D = some (.lst xs) ∧ Ex H1 (upd H3 D (.lst (xs ++ [x]))) ∧ DaAll K (newH (upd H1 D (.lst [])) (upd H3 D (.lst (xs ++ [x])))) (((Txt.split part " ").take (i + 1)).map fun w => oDat dPair (pairW w)) (xs ++ [x]) := fun x H3 e3 hx => by
          refine ⟨e3 _ _ hD2, (e2.tr e3).wr hD, ?_⟩
          rw [newH.wr nB, take_snoc hk, List.map_append]
          exact (hA2.up (newH.up e3)).app ⟨_, _, rfl, hx, rfl⟩
        refine ⟨rfl, _, rfl, k, rfl, by omega, fun a b hn T H3 e3 hT hT3 => ?_, fun hn H3 e3 => ?_⟩
        · obtain ⟨p1, p2, p3⟩ := put (.ref T) H3 e3 (by
            rw [pairW_of hn]
            exact dPair_of ((newH.at_ (fr_upd e2 (by rw [hD2]; exact fun z => nomatch z) hT)).trans hT3))
          exact ⟨_, p1, mil' (by omega), p2, _, upd_same, p3⟩
        · obtain ⟨p1, p2, p3⟩ := put .non H3 e3 (by rw [pairW_no hn]; exact rfl)
          exact ⟨_, p1, mil' (by omega), p2, _, upd_same, p3⟩
      · rintro H2 ⟨e2, xs, hD2, hA2⟩
        rw [List.length_map, List.take_length] at hA2
        have rows : ((Txt.split part " ").map fun w => oDat dPair (pairW w)) = ((Txt.split part " ").map pairW).map (oDat dPair) := by
          rw [List.map_map]
          rfl
        rw [rows] at hA2
        have dN : Da K (newH H H2) (.list (((Txt.split part " ").map pairW).map (oDat dPair))) (.ref D) := by
          refine ⟨D, xs, rfl, (newH.at_ (e1.fr hD)).trans hD2, hA2.up (newH.base fun a h => e1.fr (none_upd h)), ?_⟩
          rw [List.length_map, List.length_map]
          omega
        refine ⟨D, _, rfl, (dN.up newH.sub).dp _ _ (nd_of_lay (lay_oList lay_dPair _)), shaped_oDat lay_dPair dep_dPair' _, ?_⟩
        rw [any_oDat (fun _ z => by simp [dPair] at z)]
        cases hb : ((Txt.split part " ").map pairW).any Option.isNone with
        | true => exact q0 (by unfold partP; rw [if_neg hn, allO_none hb]; rfl) H2 (e1.tr e2)
        | false =>
          obtain ⟨ps, h1, h2⟩ := allO_some hb
          refine q1 (dPairs ps) (by unfold partP; rw [if_neg hn, h1]; rfl) _ H2 (e1.tr e2) ?_
          rw [h2, List.map_map] at dN
          exact dN
    · refine ⟨_, rfl, rfl, _, rfl, ite2 (fun h => by simp at h) (fun _ => ?_)⟩
      have e : partD 2 part = (partN part).map dRows := rfl
      rw [e] at q0 q1
      refine ⟨_, rfl, rfl, _, rfl, ite2 (fun h => ?_) (fun h => ?_)⟩
      · have hp : part = "-" := by simpa using h
        refine ⟨Nat.zero_le _, fun L hL => q1 (dRows []) (by unfold partN; rw [if_pos hp]; rfl) (.ref L) _ (Ex.nw hL) ⟨L, [], rfl, (newH.at_ hL).trans upd_same, rfl, by decide⟩⟩
      have hn : part ≠ "-" := fun z => by
        subst z
        exact h rfl
      refine ⟨_, rfl, rfl, _, rfl, ite2 (fun h => by simp at h) (fun _ => ?_)⟩
      refine ⟨_, rfl, ⟨_, rfl⟩, _, _, rfl, rfl, by decide +kernel, le_line (by omega), fun S hS => ?_⟩
      have e1 : Ex H (upd H S (.lst ((Txt.split part " ").map V.str))) := Ex.nw hS
      have f1 : (upd H S (.lst ((Txt.split part " ").map V.str))) S = some (.lst ((Txt.split part " ").map V.str)) := upd_same
      generalize upd H S (.lst ((Txt.split part " ").map V.str)) = H1 at e1 f1
      have sS : SqL K H1 S ((Txt.split part " ").map V.str) := .inl (.inl f1)
      refine ⟨S, rfl, ⟨_, sS⟩, fun D hD => ?_⟩
      have nB : (upd H1 D (.lst [])) D ≠ none := by
        rw [upd_same]
        exact fun z => nomatch z
      refine lc_by ((Txt.split part " ").map V.str).length (fun i H' => Ex H1 H' ∧ ∃ xs, H' D = some (.lst xs) ∧ DaAll K (newH (upd H1 D (.lst [])) H') (((Txt.split part " ").take i).map fun w => oDat dInts (rowW w)) xs)
        ⟨Ex.nw hD, [], upd_same, rfl⟩ (fun i H' hi p => itl_go sS p.1 hi) (fun H' p => itl_stop sS p.1) ?_ ?_
      · rintro i H9 x H2 hi ⟨e2, xs, hD2, hA2⟩ y
        obtain ⟨rfl, hx⟩ := itl_yld y sS e2
        obtain ⟨k, hk, rfl⟩ := map_at hx
        have hkl := word_len (w := part) (sep := " ") (by decide) (List.mem_of_getElem? hk)
        have hkf := words_few (w := k) (sep := ",") (by decide)
        have l3 := hA2.len
        rw [List.length_map, List.length_take] at l3
        have put : ∀ (x : V) (H3 : Hp), Ex H2 H3 → Da K (newH (upd H1 D (.lst [])) H3) (oDat dInts (rowW k)) x →
            H3 D = some (.lst xs) ∧ Ex H1 (upd H3 D (.lst (xs ++ [x]))) ∧ DaAll K (newH (upd H1 D (.lst [])) (upd H3 D (.lst (xs ++ [x])))) (((Txt.split part " ").take (i + 1)).map fun w => oDat dInts (rowW w)) (xs ++ [x]) := fun x H3 e3 hx => by
          refine ⟨e3 _ _ hD2, (e2.tr e3).wr hD, ?_⟩
          rw [newH.wr nB, take_snoc hk, List.map_append]
          exact (hA2.up (newH.up e3)).app ⟨_, _, rfl, hx, rfl⟩
        refine ⟨rfl, _, rfl, k, rfl, by omega, fun hn H3 e3 => ?_, fun hn B H3 e3 hB hB3 => ?_⟩
        · obtain ⟨p1, p2, p3⟩ := put .non H3 e3 (by
            unfold rowW
            rw [allO_none hn]
            exact rfl)
          exact ⟨_, p1, mil' (by omega), p2, _, upd_same, p3⟩
        · obtain ⟨r, h1, h2⟩ := allO_some hn
          have hlr : r.length = (Txt.split k ",").length := by
            have := congrArg List.length h2
            rw [List.length_map] at this
            rw [← this]
            exact List.length_map ..
          rw [h2, List.map_map] at hB3
          obtain ⟨p1, p2, p3⟩ := put (.ref B) H3 e3 (by
            unfold rowW
            rw [h1]
            exact ⟨B, _, rfl, (newH.at_ (fr_upd e2 (by rw [hD2]; exact fun z => nomatch z) hB)).trans hB3, DaAll.ints.mpr rfl, by rw [List.length_map]; omega⟩)
          exact ⟨_, p1, mil' (by omega), p2, _, upd_same, p3⟩
      · rintro H2 ⟨e2, xs, hD2, hA2⟩
        rw [List.length_map, List.take_length] at hA2
        have rows : ((Txt.split part " ").map fun w => oDat dInts (rowW w)) = ((Txt.split part " ").map rowW).map (oDat dInts) := by
          rw [List.map_map]
          rfl
        rw [rows] at hA2
        have dN : Da K (newH H H2) (.list (((Txt.split part " ").map rowW).map (oDat dInts))) (.ref D) := by
          refine ⟨D, xs, rfl, (newH.at_ (e1.fr hD)).trans hD2, hA2.up (newH.base fun a h => e1.fr (none_upd h)), ?_⟩
          rw [List.length_map, List.length_map]
          omega
        refine ⟨D, _, rfl, (dN.up newH.sub).dp _ _ (nd_of_lay (lay_oList lay_dInts _)), shaped_oDat lay_dInts dep_dInts' _, ?_⟩
        rw [any_oDat (fun _ z => by simp [dInts] at z)]
        cases hb : ((Txt.split part " ").map rowW).any Option.isNone with
        | true => exact q0 (by unfold partN; rw [if_neg hn, allO_none hb]; rfl) H2 (e1.tr e2)
        | false =>
          obtain ⟨ns, h1, h2⟩ := allO_some hb
          refine q1 (dRows ns) (by unfold partN; rw [if_neg hn, h1]; rfl) _ H2 (e1.tr e2) ?_
          rw [h2, List.map_map] at dN
          exact dN
end

end K48
namespace K48
open PySem PySem.Spec PyProof.Rows L2 Nw
/-! read_web: slots 0 text, 1 parts, 2 values, 3 place, 4 part, 5 value, 6 web -/
abbrev s_read_web : Stmt := topS 25
abbrev N_read_web : List Str := ["text", "parts", "values", "place", "part", "value", "web"]
abbrev P_read_web : List Str := ["text"]
theorem sc_read_web : FnScope N_read_web P_read_web (defScope s_read_web) := ⟨rfl, rfl, rfl, by decide +kernel, rfl, by decide +kernel, by decide +kernel⟩
def sp_read_web (K : PySem.W.Frag) : Sp := fun vs H Q E => ∃ v d, vs = [v] ∧ Da K H d v ∧ (∀ t, d = .str t → t.length ≤ 90000) ∧ OutT K H Q E (dueT d)
section
variable {P : Program} {w : World} {K : PySem.W.Frag} {mg : Str → Option Value} {base : Heap}
theorem ok_read_web {f : Addr} {fd : FuncData} (T : Txt K mg) (F : Fun K "read_web" "read_web" s_read_web f fd)
    (D_has_web_shape : DefOk P w K mg base CX0 6 "has_web_shape" P_has_web_shape (sp_has_web_shape K))
    (D_part_value : DefOk P w K mg base CX0 3 "part_value" P_part_value (sp_part_value K)) :
    FnG P w K mg base (L2.CX P w) 7 f fd P_read_web (sp_read_web K) := by
  obtain ⟨c, fB, fP, hc⟩ := T.fam
  have hI : ErrOf K "InvalidText" (c 4) := hc.n 4 (by decide)
  refine okG F sc_read_web (fun vs H Q E h => ?_) (fun cdv A outer s H vs Q E hr hq h => ?_)
  · obtain ⟨v, d, rfl, _⟩ := h
    rfl
  · obtain ⟨v, d, rfl, hd, hsm, q⟩ := h
    refine ⟨_, (pss_cons (ps_if (pt_not (pt_val (pe_callB (call_isiK K) (by rfl) T.b_isinstance bt_isinstance (pa_cons (pv 0) (pa_cons (pe_bty T.b_str bt_str) pa_nil))))) (pss_one (ps_raisePlc rfl hc.plc hr (takes_of rfl rfl rfl rfl) (pa_cons pe_non pa_nil))) pss_nil)
      (pss_cons (ps_set (i := 1) sc_read_web.nd rfl (by first | exact .inl rfl | exact .inr rfl) (pe_split (pv 0) (pe_globS T.c_BETWEEN)))
      (pss_cons (ps_set (i := 2) sc_read_web.nd rfl (by first | exact .inl rfl | exact .inr rfl) (pe_lst pa_nil))
      (pss_cons (ps_for (passes_of rfl) rfl (pi_enum (by rfl) T.b_enumerate (pa_cons (pe_slice (sl_listK K) (pv 1) po_none (po_some pe_int)) pa_nil)) (pg_tupK (n := 2) K rfl (pgs_cons (pg_name (i := 3) sc_read_web.nd rfl (by first | exact .inl rfl | exact .inr rfl)) (pgs_cons (pg_name (i := 4) sc_read_web.nd rfl (by first | exact .inl rfl | exact .inr rfl)) pgs_nil))) (pss_cons (ps_set (i := 5) sc_read_web.nd rfl (by first | exact .inl rfl | exact .inr rfl) (pe_callD D_part_value (hr.mono (by decide)) hq pass0 (pa_cons (pv 3) (pa_cons (pv 4) pa_nil))))
      (pss_cons (ps_if (pt_cmpR op_isN (pv 5) pe_non (nomark _)) (pss_one (ps_raisePlc rfl hc.plc hr (takes_of rfl rfl rfl rfl) (pa_cons (pv 3) pa_nil))) pss_nil)
      (PSs.nox (pss_one (ps_expr (pe_bm PySem.F.plainAttrs_list PySem.F.slot_list_append PySem.F.type_list_append mt_append (pv 2) (pa_cons (pv 5) pa_nil))))))))
      (pss_cons (ps_set (i := 6) sc_read_web.nd rfl (by first | exact .inl rfl | exact .inr rfl) (pe_callTy (call_tupleK K) (by rfl) T.b_tuple bt_tuple (pa_cons (pv 2) pa_nil)))
      (pss_cons (ps_if (PW.pt (pw_or (pt_cmpR op_ne (pe_callB (call_lenK K) (by rfl) T.b_len bt_len (pa_cons (pv 1) pa_nil)) pe_int (nomark _)) (pw_or1 (pt_not (pt_val (pe_callD D_has_web_shape (hr.mono (by decide)) hq pass0 (pa_cons (pv 6) pa_nil))))))) (pss_one (ps_raisePlc rfl hc.plc hr (takes_of rfl rfl rfl rfl) (pa_cons (pe_callB (call_lenK K) (by rfl) T.b_len bt_len (pa_cons (pv 1) pa_nil)) pa_nil))) pss_nil)
      (PSs.nox (pss_one (ps_ret (pv 6)))))))))), ?_⟩
    refine ⟨_, rfl, _, _, _, _, _, rfl, .ty _, hd.ty, isa_str d, _, rfl, ite2 (fun h => ?_) (fun h => ?_)⟩
    · have e : dueT d = some none := not_str (by simpa using h)
      rw [e] at q
      exact ⟨_, rfl, fun dd hdd => q _ dd _ hI (Ex.nw hdd) upd_same⟩
    obtain ⟨t, rfl⟩ := is_str (d := d) (by simpa using h)
    obtain rfl := hd
    have hl := hsm t rfl
    have e0 : dueT (.str t) = (dueP (Txt.split t "; ")).map some := rfl
    rw [e0] at q
    have wf := words_few (w := t) (sep := "; ") (by decide)
    have wl : ∀ s ∈ Txt.split t "; ", s.length ≤ 90000 := fun s hs => by
      have := word_len (w := t) (sep := "; ") (by decide) hs
      omega
    refine ⟨_, rfl, ⟨_, rfl⟩, _, _, rfl, rfl, by decide +kernel, le_line (by omega), fun S hS => ?_⟩
    generalize Txt.split t "; " = ps at q wf wl hS ⊢
    have e1 : Ex H (upd H S (.lst (ps.map V.str))) := Ex.nw hS
    have f1 : (upd H S (.lst (ps.map V.str))) S = some (.lst (ps.map V.str)) := upd_same
    generalize upd H S (.lst (ps.map V.str)) = H1 at e1 f1
    refine ⟨Nat.zero_le _, fun B hB => ?_⟩
    have e2 : Ex H1 (upd H1 B (.lst [])) := Ex.nw hB
    have f2 : (upd H1 B (.lst [])) B = some (.lst []) := upd_same
    have nB : (upd H1 B (.lst [])) B ≠ none := by
      rw [f2]
      exact fun z => nomatch z
    generalize hH2 : upd H1 B (.lst []) = H2 at e2 f2 nB
    have eS2 := e2 _ _ f1
    refine ⟨_, rfl, _, rfl, S, _, rfl, .inl (.inl eS2), fun C hC => ?_⟩
    rw [cut3]
    have e3 : Ex H2 (upd H2 C (.lst ((ps.take 3).map V.str))) := Ex.nw hC
    have f3 : (upd H2 C (.lst ((ps.take 3).map V.str))) C = some (.lst ((ps.take 3).map V.str)) := upd_same
    have CB : C ≠ B := fun e => by
      rw [e, f2] at hC
      cases hC
    generalize upd H2 C (.lst ((ps.take 3).map V.str)) = H3 at e3 f3
    have e13 := e2.tr e3
    have sC : SqL K H3 C ((ps.take 3).map V.str) := .inl (.inl f3)
    refine ⟨C, _, rfl, sC, ?_⟩
    refine for_by ((ps.take 3).map V.str).length (fun i σ H' => ∃ y3 y4 y5, σ = [some (V.str t), some (V.ref S), some (V.ref B), y3, y4, y5, none] ∧ Ex H1 H' ∧ (∀ a, H2 a ≠ none → H' a ≠ none) ∧ H' C = some (.lst ((ps.take 3).map V.str)) ∧
        ∃ xs ds, H' B = some (.lst xs) ∧ DaAll K (newH H2 H') ds xs ∧ ds.length = i ∧ ∀ j s, j < i → ps[j]? = some s → ∃ d, partD j s = some d ∧ ds[j]? = some d)
      ⟨_, _, _, rfl, e13, fun a h => ?_, f3, [], [], e3 _ _ f2, rfl, rfl, fun j s h => absurd h (Nat.not_lt_zero _)⟩ (fun i σ H' hi pv => ?_) (fun σ H' pv => ?_) ?_ ?_
    · cases z : H2 a with
      | none => exact absurd z h
      | some o =>
        rw [e3 _ _ z]
        exact fun z => nomatch z
    · obtain ⟨_, _, _, _, _, _, hc, _⟩ := pv
      exact ite_go (K := K) (.inl (.inl hc)) Ex.rfl hi
    · obtain ⟨_, _, _, _, _, _, hc, _⟩ := pv
      exact ite_stop (K := K) (.inl (.inl hc)) Ex.rfl
    · rintro i σ H4 x H5 hi ⟨y3, y4, y5, rfl, e4, n4, hC4, xs, ds, hB4, hA4, hdl, hok⟩ ⟨T1, y1, rfl, hT1, rfl, hy1⟩
      have g1 := hy1 _ (.inl (.inl hC4))
      obtain ⟨s, hs3, rfl⟩ := map_at g1
      rw [List.length_map, List.length_take] at hi
      have hi3 : i < 3 := by omega
      have hs : ps[i]? = some s := by
        rw [List.getElem?_take] at hs3
        rw [if_pos hi3] at hs3
        exact hs3
      have e5 : Ex H4 (upd H4 T1 (.tup [.int (i : Nat), .str s])) := Ex.nw hT1
      have f5 : (upd H4 T1 (.tup [.int (i : Nat), .str s])) T1 = some (.tup [.int (i : Nat), .str s]) := upd_same
      generalize upd H4 T1 (.tup [.int (i : Nat), .str s]) = H6 at e5 f5
      have e16 := e4.tr e5
      refine ⟨T1, _, rfl, .inl (.inl f5), rfl, _, _, rfl, _, _, rfl, rfl, ?_⟩
      have hC6 := e5 _ _ hC4
      have hB6 := e5 _ _ hB4
      refine ⟨_, rfl, _, rfl, i, s, rfl, hi3, wl s (List.mem_of_getElem? hs), fun hn H7 e7 => ?_, fun d hd v H7 e7 hv => ?_⟩
      · refine ⟨_, rfl, rfl, _, rfl, ite2 (fun _ => ?_) (fun h => by simp at h)⟩
        have e : dueP ps = some (i : Int) := by
          unfold dueP
          rw [badAt_of hi3 hs hn fun j t hj ht => by
            obtain ⟨d, h1, _⟩ := hok j t hj ht
            rw [h1]
            exact fun z => nomatch z]
        rw [e] at q
        exact ⟨_, rfl, _, rfl, fun dd hdd => q _ dd _ hI (((e1.tr e16).tr e7).tr (Ex.nw hdd)) upd_same⟩
      · have hvn : v ≠ .non := fun z => by
          subst z
          exact part_some hd hv
        refine ⟨_, rfl, rfl, _, rfl, ite2 (fun h => absurd (of_decide_eq_true h) hvn) (fun _ => ?_)⟩
        have hB7 := e7 _ _ hB6
        refine ⟨_, rfl, .inl ⟨rfl, _, .inl (.inl hB7)⟩, _, rfl, B, _, _, rfl, rfl, hB7, mil' (by rw [← hA4.len, hdl]; omega), ?_⟩
        have n7 : ∀ a, H2 a ≠ none → (upd H7 B (.lst (xs ++ [v]))) a ≠ none := fun a h => by
          by_cases hab : a = B
          · rw [hab, upd_same]
            exact fun z => nomatch z
          · rw [upd_ne hab]
            cases z : H4 a with
            | none => exact absurd z (n4 a h)
            | some o =>
              rw [(e5.tr e7) _ _ z]
              exact fun z => nomatch z
        refine ⟨_, _, _, rfl, (e16.tr e7).wr hB, n7, by rw [upd_ne CB]; exact e7 _ _ hC6, xs ++ [v], ds ++ [d], upd_same, ?_, by rw [List.length_append, hdl]; rfl, fun j t hj ht => ?_⟩
        · rw [newH.wr nB]
          refine (hA4.up (newH.up (e5.tr e7))).app ⟨_, _, rfl, hv.up (newH.base fun a h => ?_), rfl⟩
          cases z : H2 a with
          | none => rfl
          | some o =>
            exfalso
            have := n4 a (by rw [z]; exact fun z => nomatch z)
            exact this (e5.fr h)
        · by_cases hji : j < i
          · obtain ⟨d', h1, h2⟩ := hok j t hji ht
            exact ⟨d', h1, by rw [List.getElem?_append_left (by omega)]; exact h2⟩
          · obtain rfl : j = i := by omega
            rw [hs] at ht
            obtain rfl := Option.some.inj ht
            refine ⟨d, hd, ?_⟩
            rw [List.getElem?_append_right (by omega), hdl, Nat.sub_self]
            rfl
    · rintro σ H4 ⟨y3, y4, y5, rfl, e4, n4, hC4, xs, ds, hB4, hA4, hdl, hok⟩
      rw [List.length_map, List.length_take] at hdl hok
      have hbad : badAt ps = none := badAt_no fun j s hj hs => by
        have := (List.getElem?_eq_some_iff.mp hs).1
        obtain ⟨d, h1, _⟩ := hok j s (by omega) hs
        rw [h1]
        exact fun z => nomatch z
      have hxl := hA4.len
      refine ⟨_, rfl, B, _, rfl, .inl ⟨.inl (.inl hB4), fun T hT => ?_⟩⟩
      have e5 : Ex H4 (upd H4 T (.tup xs)) := Ex.nw hT
      have f5 : (upd H4 T (.tup xs)) T = some (.tup xs) := upd_same
      generalize upd H4 T (.tup xs) = H5 at e5 f5
      have dT : Da K H5 (.tuple ds) (.ref T) := ⟨T, xs, rfl, f5, (hA4.up newH.sub).up e5⟩
      have hS5 := (e4.tr e5) _ _ f1
      refine ⟨_, rfl, S, _, rfl, .inl (.inl (.inl hS5)), rfl, _, rfl, ite2 (fun h => ?_) (fun h => ?_)⟩
      · have hn3 : ps.length ≠ 3 := fun z => by
          rw [List.length_map, z] at h
          simp at h
        have e : dueP ps = some (ps.length : Int) := by
          unfold dueP
          rw [hbad]
          show (if _ then _ else _) = _
          rw [if_neg fun z => hn3 z.1]
        rw [e] at q
        refine ⟨_, rfl, S, _, rfl, .inl (.inl (.inl hS5)), _, rfl, fun dd hdd => ?_⟩
        exact q _ dd _ hI ((e1.tr (e4.tr e5)).tr (Ex.nw hdd)) (by rw [upd_same, List.length_map]; rfl)
      · have h3 : ps.length = 3 := by
          rw [List.length_map] at h
          have : ¬ ((ps.length : Int) ≠ 3) := by simpa using h
          omega
        match ps, h3, ds, hdl with
        | [s0, s1, s2], _, [d0, d1, d2], _ =>
          obtain ⟨_, a0, b0⟩ := hok 0 s0 (by show 0 < 3; decide) rfl
          obtain ⟨_, a1, b1⟩ := hok 1 s1 (by show 1 < 3; decide) rfl
          obtain ⟨_, a2, b2⟩ := hok 2 s2 (by show 2 < 3; decide) rfl
          obtain rfl := Option.some.inj b0
          obtain rfl := Option.some.inj b1
          obtain rfl := Option.some.inj b2
          have hw : webP [s0, s1, s2] = webB (.tuple [d0, d1, d2]) := by
            unfold webP
            show (match partD 0 s0, partD 1 s1, partD 2 s2 with | some a, some b, some c => webB (.tuple [a, b, c]) | _, _, _ => false) = _
            rw [a0, a1, a2]
          refine ⟨_, rfl, _, _, rfl, dT, fun H6 e6 => ⟨_, rfl, ?_⟩⟩
          have due : dueP [s0, s1, s2] = if webB (.tuple [d0, d1, d2]) = true then none else some 3 := by
            unfold dueP
            rw [hbad, hw]
            cases webB (.tuple [d0, d1, d2]) <;> rfl
          rw [due] at q
          cases hb : webB (.tuple [d0, d1, d2]) with
          | true =>
            rw [hb] at q
            exact ite2 (fun h => Bool.noConfusion h) (fun _ => ⟨_, rfl, q _ _ ((e1.tr (e4.tr e5)).tr e6)⟩)
          | false =>
            rw [hb] at q
            refine ite2 (fun _ => ?_) (fun h => absurd rfl h)
            refine ⟨_, rfl, S, _, rfl, .inl (.inl (.inl (e6 _ _ hS5))), _, rfl, fun dd hdd => ?_⟩
            exact q _ dd _ hI (((e1.tr (e4.tr e5)).tr e6).tr (Ex.nw hdd)) upd_same
end

end K48
namespace K48
open PySem PySem.Spec PyProof.Rows L2 Nw
/-! _law_purse: slots 0 _law_script, 1 _law_k, 2 _law_cell -/
abbrev s_purse : Stmt := topS 34
abbrev N_purse : List Str := ["_law_script", "_law_k", "_law_cell"]
abbrev P_purse : List Str := ["_law_script", "_law_k"]
theorem sc_purse : FnScope N_purse P_purse (defScope s_purse) := ⟨rfl, rfl, rfl, by decide +kernel, rfl, by decide +kernel, by decide +kernel⟩
def sp_purse (K : PySem.W.Frag) : Sp := fun vs H Q _ => ∃ (a : Addr) (ns : List Int) (k : Int), vs = [.ref a, .int k] ∧ SqL K H a (ns.map V.int) ∧ (0 ≤ k ∧ k ≤ 63) ∧
  ∀ p H', H p = none → Ex H H' → Purse H' p 0 → Q (.ref p) H'
section
variable {P : Program} {w : World} {K : PySem.W.Frag} {mg : Str → Option Value} {base : Heap}
theorem ok_purse {f : Addr} {fd : FuncData} (T : Txt K mg) (F : Fun K "_law_purse" "_law_purse" s_purse f fd) :
    FnG P w K mg base CX0 1 f fd P_purse (sp_purse K) := by
  refine okG0 F sc_purse (fun vs H Q E h => ?_) (fun cdv A outer s H vs Q E hr hq h => ?_)
  · obtain ⟨a, ns, k, rfl, _⟩ := h
    rfl
  · obtain ⟨a, ns, k, rfl, hS, hk, q⟩ := h
    have fin : ∀ (z x y : Int) (p : Addr), H p = none → 0 ≤ x → Q (.ref p) (upd H p (.lst [.int x, .int (y.fmod (10 ^ Int.toNat 41 + 37) + 90001 * k + 17), .int 0])) :=
      fun z x y p hp hx => q p _ hp (Ex.nw hp) ⟨_, _, _, upd_same, hx, purse_new (x := z) hk, by omega, by omega⟩
    refine ⟨_, (pss_cons (ps_set (i := 2) sc_purse.nd rfl (by first | exact .inl rfl | exact .inr rfl) (pe_ifExp (pt_cmpR op_lt (pv 1) (pe_callB (call_lenK K) (by rfl) T.b_len bt_len (pa_cons (pv 0) pa_nil)) (nomark _)) (pe_ix (ix_listK K) (pv 0) (pv 1) (fun _ _ => rfl)) pe_int))
      (pss_one (ps_ret (pe_lst (pa_cons (pe_callB (call_max2 rfl) (by rfl) T.b_max bt_max (pa_cons pe_int (pa_cons (pe_op op_sub (pv 2) (pe_op op_powW pe_int pe_int)) pa_nil))) (pa_cons (pe_op op_add (pe_op op_add (pe_op op_modN (pe_callTy call_int1 (by rfl) T.b_int bt_int (pa_cons (pe_callB call_abs (by rfl) T.b_abs bt_abs (pa_cons (pv 2) pa_nil)) pa_nil)) (pe_op op_add (pe_op op_powW pe_int pe_int) pe_int)) (pe_op op_mul pe_int (pv 1))) pe_int) (pa_cons pe_int pa_nil))))))), ?_⟩
    refine ⟨_, rfl, _, rfl, a, _, rfl, .inl hS, _, _, rfl, rfl, _, rfl, ?_⟩
    refine ite2 (fun h1 => ?_) (fun h1 => ?_)
    · have h2 : k.toNat < ns.length := by
        simp only [List.length_map, decide_eq_true_eq] at h1
        omega
      refine ⟨_, rfl, _, rfl, a, _, k, .int (ns[k.toNat]), rfl, rfl, hS, atI_int hk.1 (by rw [List.getElem?_map, List.getElem?_eq_getElem h2]; rfl), ?_⟩
      refine ⟨_, rfl, _, _, rfl, rfl, cpow10 (by decide) (by decide), _, _, rfl, rfl, _, _, rfl, ?_⟩
      refine ⟨_, rfl, _, rfl, .inl ⟨_, rfl, _, _, rfl, rfl, cpow10 (by decide) (by decide), _, _, rfl, rfl, _, _, rfl, rfl, ne41, ?_⟩⟩
      refine ⟨_, rfl, _, _, rfl, rfl, .inl ⟨by decide, by decide⟩, _, _, rfl, rfl, _, _, rfl, rfl, by show 3 ≤ sizeLine; decide, fun p hp => ?_⟩
      exact fin (ns[k.toNat]) _ _ p hp (by split <;> omega)
    · refine ⟨_, rfl, _, _, rfl, rfl, cpow10 (by decide) (by decide), _, _, rfl, rfl, _, _, rfl, ?_⟩
      refine ⟨_, rfl, _, rfl, .inl ⟨_, rfl, _, _, rfl, rfl, cpow10 (by decide) (by decide), _, _, rfl, rfl, _, _, rfl, rfl, ne41, ?_⟩⟩
      refine ⟨_, rfl, _, _, rfl, rfl, .inl ⟨by decide, by decide⟩, _, _, rfl, rfl, _, _, rfl, rfl, by show 3 ≤ sizeLine; decide, fun p hp => ?_⟩
      exact fin 0 _ _ p hp (by split <;> omega)
end

/-! _law_coin: slots 0 _law_purse_here, 1 _law_many, 2 _law_found, 3 _law_mixed -/
abbrev s_coin : Stmt := topS 35
abbrev N_coin : List Str := ["_law_purse_here", "_law_many", "_law_found", "_law_mixed"]
abbrev P_coin : List Str := ["_law_purse_here", "_law_many"]
theorem sc_coin : FnScope N_coin P_coin (defScope s_coin) := ⟨rfl, rfl, rfl, by decide +kernel, rfl, by decide +kernel, by decide +kernel⟩
def sp_coin (K : PySem.W.Frag) : Sp := fun vs H Q _ => ∃ (p : Addr) (m : Int) (n : Nat), vs = [.ref p, .int m] ∧ (0 < m ∧ m < 1000000000000000000000000000000000000000000000000000000000000) ∧ Purse H p n ∧ n ≤ 1000000000 ∧
  ∀ z H', (0 ≤ z ∧ z < m) → Purse H' p (n + 1) → ExD p H H' → Q (.int z) H'
section
variable {P : Program} {w : World} {K : PySem.W.Frag} {mg : Str → Option Value} {base : Heap}
theorem ok_coin {f : Addr} {fd : FuncData} (T : Txt K mg) (F : Fun K "_law_coin" "_law_coin" s_coin f fd) :
    FnG P w K mg base CX0 1 f fd P_coin (sp_coin K) := by
  refine okG0 F sc_coin (fun vs H Q E h => ?_) (fun cdv A outer s H vs Q E hr hq h => ?_)
  · obtain ⟨p, m, n, rfl, _⟩ := h
    rfl
  · obtain ⟨p, m, n, rfl, hm, ⟨b, c, e, hp, hb, hc, he⟩, hn, q⟩ := h
    have hS : SqL K H p [.int b, .int c, .int e] := .inl (.inl hp)
    refine ⟨_, (pss_cons (ps_if (pt_cmpR op_gt (pe_ix (ix_listK K) (pv 0) pe_int (fun _ _ => rfl)) pe_int (nomark _)) (pss_cons (ps_set (i := 2) sc_coin.nd rfl (by first | exact .inl rfl | exact .inr rfl) (pe_op op_modN (pe_callTy call_int1 (by rfl) T.b_int bt_int (pa_cons (pe_ix (ix_listK K) (pv 0) pe_int (fun _ _ => rfl)) pa_nil)) (pv 1)))
      (pss_cons (ps_asg (pe_op op_fdivW (pe_ix (ix_listK K) (pv 0) pe_int (fun _ _ => rfl)) (pv 1)) (pg_sub (pv 0) pe_int set_list))
      (pss_one (ps_ret (pv 2))))) pss_nil)
      (pss_cons (ps_asg (pe_op op_add (pe_ix (ix_listK K) (pv 0) pe_int (fun _ _ => rfl)) pe_int) (pg_sub (pv 0) pe_int set_list))
      (pss_cons (ps_set (i := 3) sc_coin.nd rfl (by first | exact .inl rfl | exact .inr rfl) (pe_op op_modN (pe_callTy call_int1 (by rfl) T.b_int bt_int (pa_cons (pe_op op_powW (pe_op op_add (pe_ix (ix_listK K) (pv 0) pe_int (fun _ _ => rfl)) (pe_op op_mul pe_int (pe_ix (ix_listK K) (pv 0) pe_int (fun _ _ => rfl)))) pe_int) pa_nil)) (pe_op op_add (pe_op op_powW pe_int pe_int) pe_int)))
      (pss_cons (ps_set (i := 3) sc_coin.nd rfl (by first | exact .inl rfl | exact .inr rfl) (pe_op op_modN (pe_callTy call_int1 (by rfl) T.b_int bt_int (pa_cons (pe_op op_powW (pe_op op_add (pv 3) (pe_op op_mul pe_int (pe_ix (ix_listK K) (pv 0) pe_int (fun _ _ => rfl)))) pe_int) pa_nil)) (pe_op op_add (pe_op op_powW pe_int pe_int) pe_int)))
      (pss_one (ps_ret (pe_op op_modN (pe_callTy call_int1 (by rfl) T.b_int bt_int (pa_cons (pe_op op_fdivW (pv 3) pe_int) pa_nil)) (pv 1)))))))), ?_⟩
    refine ⟨_, rfl, p, _, 0, _, rfl, rfl, hS, rfl, _, _, rfl, rfl, _, rfl, ?_⟩
    refine ite2 (fun h1 => ?_) (fun h1 => ?_)
    · refine ⟨_, rfl, p, _, 0, _, rfl, rfl, hS, rfl, .inl ⟨_, rfl, _, rfl, _, _, rfl, rfl, by omega, ?_⟩⟩
      refine ⟨_, rfl, p, _, 0, _, rfl, rfl, hS, rfl, _, rfl, _, _, rfl, rfl, great_div hm.1 hm.2, ?_⟩
      refine ⟨_, rfl, p, _, 0, 0, rfl, rfl, hp, rfl, _, rfl, ?_⟩
      exact q _ _ (fmod_in hm.1) ⟨_, _, _, upd_same, div_in hb hm.1, hc, he.1, by omega⟩ ExD.put
    · refine ⟨_, rfl, p, _, 2, _, rfl, rfl, hS, rfl, _, _, rfl, rfl, ?_⟩
      refine ⟨_, rfl, p, _, 2, 2, rfl, rfl, hp, rfl, ?_⟩
      have hS2 : SqL K (upd H p (.lst [.int b, .int c, .int (e + 1)])) p [.int b, .int c, .int (e + 1)] := .inl (.inl upd_same)
      have b1 : 0 ≤ c + 15485863 * (e + 1) ∧ c + 15485863 * (e + 1) < 10 ^ 60 := by
        rw [p42] at hc
        rw [p60]
        omega
      refine ⟨_, rfl, p, _, 1, _, rfl, rfl, hS2, rfl, _, rfl, p, _, 2, _, rfl, rfl, hS2, rfl, _, _, rfl, rfl, .inl ⟨by decide, by decide⟩, _, _, rfl, rfl, ?_⟩
      refine ⟨_, _, rfl, rfl, cpow3 b1.1 b1.2, .inl ⟨_, rfl, _, _, rfl, rfl, cpow10 (by decide) (by decide), _, _, rfl, rfl, _, _, rfl, rfl, ne43, ?_⟩⟩
      have b2 := fmod_in (a := (c + 15485863 * (e + 1)) ^ Int.toNat 3) (m := 10 ^ Int.toNat 43 + 29) (by rw [p43]; decide)
      have b3 : ∀ y : Int, 0 ≤ y ∧ y < 10 ^ Int.toNat 43 + 29 → 0 ≤ y + 49979687 * (e + 1) ∧ y + 49979687 * (e + 1) < 10 ^ 60 := by
        intro y b2
        rw [p43] at b2
        rw [p60]
        omega
      refine ⟨_, rfl, _, rfl, p, _, 2, _, rfl, rfl, hS2, rfl, _, _, rfl, rfl, .inl ⟨by decide, by decide⟩, _, _, rfl, rfl, ?_⟩
      refine ⟨_, _, rfl, rfl, cpow3 (b3 _ b2).1 (b3 _ b2).2, .inl ⟨_, rfl, _, _, rfl, rfl, cpow10 (by decide) (by decide), _, _, rfl, rfl, _, _, rfl, rfl, ne45, ?_⟩⟩
      refine ⟨_, rfl, _, _, rfl, rfl, small_div' (by decide) (by decide), .inl ⟨_, rfl, _, rfl, _, _, rfl, rfl, by omega, ?_⟩⟩
      exact q _ _ (fmod_in hm.1) ⟨_, _, _, upd_same, hb, hc, by omega, by omega⟩ ExD.put
end

/-! _law_targets: slots 0 _law_purse_here, 1 _law_count_here, 2 _law_found, 3 _law_at -/
abbrev s_targets : Stmt := topS 36
abbrev N_targets : List Str := ["_law_purse_here", "_law_count_here", "_law_found", "_law_at"]
abbrev P_targets : List Str := ["_law_purse_here", "_law_count_here"]
theorem sc_targets : FnScope N_targets P_targets (defScope s_targets) := ⟨rfl, rfl, rfl, by decide +kernel, rfl, by decide +kernel, by decide +kernel⟩
def sp_targets (K : PySem.W.Frag) : Sp := fun vs H Q _ => ∃ (p : Addr) (n : Int) (m : Nat), vs = [.ref p, .int n] ∧ (1 ≤ n ∧ n ≤ 20) ∧ Purse H p m ∧ m ≤ 1000000 ∧
  ∀ (l : Addr) (r : List Int) H', H l = none → ExD p H H' → Purse H' p (m + 21) → H' l = some (.lst (r.map V.int)) →
    r ≠ [] ∧ (∀ t ∈ r, 0 ≤ t ∧ t < n) ∧ ascB ltIn r = true → Q (.ref l) H'
section
variable {P : Program} {w : World} {K : PySem.W.Frag} {mg : Str → Option Value} {base : Heap}
theorem ok_targets {f : Addr} {fd : FuncData} (T : Txt K mg) (F : Fun K "_law_targets" "_law_targets" s_targets f fd)
    (D_coin : DefOk P w K mg base CX0 1 "_law_coin" P_coin (sp_coin K)) :
    FnG P w K mg base CX0 2 f fd P_targets (sp_targets K) := by
  refine okG0 F sc_targets (fun vs H Q E h => ?_) (fun cdv A outer s H vs Q E hr hq h => ?_)
  · obtain ⟨p, n, m, rfl, _⟩ := h
    rfl
  · obtain ⟨p, n, m, rfl, hn, hp, hm, q⟩ := h
    refine ⟨_, (pss_cons (ps_setLc (i := 2) (own := [("_law_at", 3)]) rfl sc_targets.nd rfl rfl (sw_true rfl rfl rfl (by decide +kernel)) (pi_range1 (by rfl) T.b_range (pa_cons (pv 1) pa_nil)) (blkOk_by (N := N_targets) (sc := defScope s_targets) (by decide +kernel)) (fun _ _ _ _ _ => (pg_name (i := 3) sc_targets.nd rfl (by first | exact .inl rfl | exact .inr rfl))) (fun _ _ _ _ _ => (pts_one (pt_cmpR op_eq (pe_callD D_coin (hr.mono (by decide)) hq pass0 (pa_cons (pv 0) (pa_cons pe_int pa_nil))) pe_int (nomark _)))) (fun _ _ _ _ _ => (pv 3)))
      (pss_one (ps_ret (pe_ifExp (pt_cmpR (op_neDk K hr.units) (pv 2) (pe_lst pa_nil) (nomark _)) (pv 2) (pe_lst (pa_cons (pe_callD D_coin (hr.mono (by decide)) hq pass0 (pa_cons (pv 0) (pa_cons (pv 1) pa_nil))) pa_nil)))))), ?_⟩
    refine ⟨_, rfl, _, rfl, by omega, by omega, fun D hD => ?_⟩
    have pD := hp.off hD
    refine lc_by n.toNat (fun i H' => ExD p H H' ∧ Purse H' p (m + i) ∧ ∃ r : List Int, H' D = some (.lst (r.map V.int)) ∧ ascB ltIn r = true ∧
        (∀ t ∈ r, 0 ≤ t ∧ t < (i : Int)) ∧ r.length ≤ i)
      ⟨ExD.nw hD, hp.put pD.symm, [], upd_same, rfl, fun t ht => (by cases ht), Nat.le_refl _⟩ (fun i H' hi _ => hi) (fun H' _ => Nat.le_refl _) ?_ ?_
    · rintro i H1 x H2 hi ⟨e1, p1, r, hr1, ha, hb, hl⟩ ⟨rfl, rfl⟩
      refine ⟨rfl, ?_⟩
      refine ⟨_, rfl, p, 3, _, rfl, by decide, p1, by omega, fun z H3 hz p3 e3 => ?_⟩
      have hr3 := e3 D _ pD hr1
      refine ⟨rfl, _, rfl, ite2 (fun _ => ?_) (fun _ => ?_)⟩
      · refine ⟨_, rfl, _, hr3, mil' (by rw [List.length_map]; omega), (e1.tr e3).wr hD, p3.put pD.symm, r ++ [0 + (i : Int)], ?_, ?_, ?_, ?_⟩
        · rw [upd_same, List.map_append]
          rfl
        · exact asc_snoc ha fun t ht => by have := hb t ht; omega
        · intro t ht
          rcases List.mem_append.mp ht with ht | ht
          · have := hb t ht
            omega
          · obtain rfl := List.mem_singleton.mp ht
            omega
        · rw [List.length_append, List.length_singleton]
          omega
      · exact ⟨e1.tr e3, p3, r, hr3, ha, fun t ht => by have := hb t ht; omega, by omega⟩
    · rintro H1 ⟨e1, p1, r, hr1, ha, hb, hl⟩
      have lr : r.length ≤ 100000 := by omega
      refine ⟨_, rfl, Nat.zero_le _, fun z hz => ?_⟩
      have dD : Dp K (upd H1 z (.lst [])) (.ref D) (dInts r) := ((dInts_of hr1 lr).up (Ex.nw hz)).dInts
      have dz : Dp K (upd H1 z (.lst [])) (.ref z) (dInts []) := Da.dInts (dInts_of upd_same (by decide))
      refine ⟨_, _, dD, dz, sh_dInts _, sh_dInts _, _, rfl, ?_⟩
      rw [eqv_dInts]
      refine ite2 (fun h1 => ?_) (fun h1 => ?_)
      · refine ⟨_, rfl, q D r _ hD (e1.tr (ExD.nw hz)) ((p1.up (Ex.nw hz)).mono (by omega)) ?_ ⟨by simpa using h1, fun t ht => by have := hb t ht; omega, ha⟩⟩
        rw [upd_ne (ne_of_none hr1 hz)]
        exact hr1
      · refine ⟨_, rfl, _, rfl, p, n, m + n.toNat, rfl, by omega, p1.up (Ex.nw hz), by omega, fun y H2 hy p2 e2 => ⟨by show 1 ≤ sizeLine; decide, fun l hl => ?_⟩⟩
        refine q l [y] _ ?_ ((e1.tr (ExD.nw hz)).tr (e2.tr (ExD.nw hl))) ((p2.up (Ex.nw hl)).mono (by omega)) upd_same ⟨by simp, ?_, rfl⟩
        · exact Purse.fr ((e1.tr (ExD.nw hz)).tr e2) p2 hl
        · intro t ht
          obtain rfl := List.mem_singleton.mp ht
          exact hy
end

/-! _law_web: slots 0 _law_purse_here, 1 _law_most_here, 2 _law_most_nudges, 3 _law_count_here, 4 _law_chance, 5 _law_pairs_here, 6 _law_one, 7 _law_other, 8 _law_nudges_here, 9 _law_turn -/
abbrev s_web : Stmt := topS 37
abbrev N_web : List Str := ["_law_purse_here", "_law_most_here", "_law_most_nudges", "_law_count_here", "_law_chance", "_law_pairs_here", "_law_one", "_law_other", "_law_nudges_here", "_law_turn"]
abbrev P_web : List Str := ["_law_purse_here", "_law_most_here", "_law_most_nudges"]
theorem sc_web : FnScope N_web P_web (defScope s_web) := ⟨rfl, rfl, rfl, by decide +kernel, rfl, by decide +kernel, by decide +kernel⟩
/-- some web, off the purse -/
def sp_web (K : PySem.W.Frag) : Sp := fun vs H Q _ => ∃ (p : Addr) (most mn : Int) (m : Nat), vs = [.ref p, .int most, .int mn] ∧ (1 ≤ most ∧ most ≤ 20) ∧ (0 ≤ mn ∧ mn ≤ 8) ∧
  Purse H p m ∧ m ≤ 100000 ∧
  ∀ (v : V) (u : Wb) H', ExD p H H' → Purse H' p (m + 700) → Da K (rm H' p) u.d v → u.Ok → u.n ≤ most → (u.ns.length : Int) ≤ mn → Q v H'
section
variable {P : Program} {w : World} {K : PySem.W.Frag} {mg : Str → Option Value} {base : Heap}
theorem ok_web {f : Addr} {fd : FuncData} (T : Txt K mg) (F : Fun K "_law_web" "_law_web" s_web f fd)
    (D_coin : DefOk P w K mg base CX0 1 "_law_coin" P_coin (sp_coin K))
    (D_targets : DefOk P w K mg base CX0 2 "_law_targets" P_targets (sp_targets K)) :
    FnG P w K mg base CX0 3 f fd P_web (sp_web K) := by
  refine okG0 F sc_web (fun vs H Q E h => ?_) (fun cdv A outer s H vs Q E hr hq h => ?_)
  · obtain ⟨p, most, mn, m, rfl, _⟩ := h
    rfl
  · obtain ⟨p, most, mn, m, rfl, hmost, hmn, hp, hm, q⟩ := h
    refine ⟨_, (pss_cons (ps_asg (pe_tup (pa_cons (pe_op op_add pe_int (pe_callD D_coin (hr.mono (by decide)) hq pass0 (pa_cons (pv 0) (pa_cons (pv 1) pa_nil)))) (pa_cons (pe_op op_add pe_int (pe_callD D_coin (hr.mono (by decide)) hq pass0 (pa_cons (pv 0) (pa_cons pe_int pa_nil)))) (pa_cons (pe_lst pa_nil) pa_nil)))) (pg_tupK (n := 3) K rfl (pgs_cons (pg_name (i := 3) sc_web.nd rfl (by first | exact .inl rfl | exact .inr rfl)) (pgs_cons (pg_name (i := 4) sc_web.nd rfl (by first | exact .inl rfl | exact .inr rfl)) (pgs_cons (pg_name (i := 5) sc_web.nd rfl (by first | exact .inl rfl | exact .inr rfl)) pgs_nil)))))
      (pss_cons (ps_for PassesOwn.never rfl (pi_range1 (by rfl) T.b_range (pa_cons (pv 3) pa_nil)) (pg_name (i := 6) sc_web.nd rfl (by first | exact .inl rfl | exact .inr rfl)) (pss_one (ps_expr (pe_bm PySem.F.plainAttrs_list PySem.F.slot_list_extend PySem.F.type_list_extend mt_extend (pv 5) (pa_cons (pe_lc (own := [("_law_other", 7)]) rfl sc_web.nd (pi_range1 (by rfl) T.b_range (pa_cons (pv 3) pa_nil)) (blkOk_by (N := N_web) (sc := defScope s_web) (by decide +kernel)) (fun _ _ _ _ _ => (pg_name (i := 7) sc_web.nd rfl (by first | exact .inl rfl | exact .inr rfl))) (fun _ _ _ _ _ => (pts_one (pt_cmpR op_eq (pe_callD D_coin (hr.mono (by decide)) hq pass0 (pa_cons (pv 0) (pa_cons (pv 4) pa_nil))) pe_int (nomark _)))) (fun _ _ _ _ _ => (pe_tup (pa_cons (pv 6) (pa_cons (pv 7) pa_nil))))) pa_nil)))))
      (pss_cons (ps_setLc (i := 8) (own := [("_law_turn", 9)]) rfl sc_web.nd rfl rfl (sw_true rfl rfl rfl (by decide +kernel)) (pi_range1 (by rfl) T.b_range (pa_cons (pe_callD D_coin (hr.mono (by decide)) hq pass0 (pa_cons (pv 0) (pa_cons (pe_op op_add (pv 2) pe_int) pa_nil))) pa_nil)) (blkOk_by (N := N_web) (sc := defScope s_web) (by decide +kernel)) (fun _ _ _ _ _ => (pg_name (i := 9) sc_web.nd rfl (by first | exact .inl rfl | exact .inr rfl))) (fun _ _ _ _ _ => pts_nil) (fun _ _ _ _ _ => (pe_callD D_targets (hr.mono (by decide)) hq pass0 (pa_cons (pv 0) (pa_cons (pv 3) pa_nil)))))
      (pss_one (ps_ret (pe_tup (pa_cons (pv 3) (pa_cons (pv 5) (pa_cons (pv 8) pa_nil))))))))), ?_⟩
    refine ⟨_, rfl, _, rfl, p, most, m, rfl, by omega, hp, by omega, fun z1 H1 hz1 p1 e1 => ⟨_, _, rfl, rfl, ?_⟩⟩
    refine ⟨_, rfl, p, 7, m + 1, rfl, by decide, p1, by omega, fun z2 H2 hz2 p2 e2 => ⟨_, _, rfl, rfl, ?_⟩⟩
    refine ⟨Nat.zero_le _, fun L hL => ⟨by show 3 ≤ sizeLine; decide, fun T1 hT1 => ?_⟩⟩
    have pL := p2.off hL
    have TL : T1 ≠ L := fun e => by
      rw [e, upd_same] at hT1
      cases hT1
    refine ⟨T1, _, rfl, .inl (.inl upd_same), rfl, _, _, rfl, _, _, rfl, _, _, rfl, rfl, ?_⟩
    -- the pairs
    refine ⟨_, rfl, _, rfl, by omega, by omega, ?_⟩
    have e20 : ExD p H (upd (upd H2 L (.lst [])) T1 (.tup [.int (1 + z1), .int (1 + z2), .ref L])) := ((e1.tr e2).tr (ExD.nw hL)).tr (ExD.nw hT1)
    have hL0 : (upd (upd H2 L (.lst [])) T1 (.tup [.int (1 + z1), .int (1 + z2), .ref L])) L = some (.lst []) := by
      rw [upd_ne TL.symm, upd_same]
    have HL : H L = none := Purse.fr (e1.tr e2) p2 hL
    have HT1 : H2 T1 = none := by rw [upd_ne TL] at hT1; exact hT1
    have p20 : Purse (upd (upd H2 L (.lst [])) T1 (.tup [.int (1 + z1), .int (1 + z2), .ref L])) p (m + 2) :=
      (p2.put pL.symm).put (p2.off HT1).symm
    refine for_by (1 + z1).toNat (fun i σ H' => ∃ y6 y7 y8 y9, σ = [some (V.ref p), some (V.int most), some (V.int mn), some (V.int (1 + z1)), some (V.int (1 + z2)), some (V.ref L), y6, y7, y8, y9] ∧
        ExD p H H' ∧ Purse H' p (m + 2 + 20 * i) ∧ ∃ (acc : List V) (ps : List (Int × Int)), H' L = some (.lst acc) ∧ DaAll K (rm (rm H' p) L) (ps.map dPair) acc ∧
        ascB ltPr ps = true ∧ (∀ x ∈ ps, (0 ≤ x.1 ∧ x.1 < (i : Int)) ∧ (0 ≤ x.2 ∧ x.2 < 1 + z1)) ∧ ps.length ≤ 20 * i)
      ⟨_, _, _, _, rfl, e20, p20, [], [], hL0, rfl, rfl, fun x hx => (by cases hx), Nat.le_refl _⟩ (fun i σ H' hi _ => hi) (fun σ H' _ => Nat.le_refl _) ?_ ?_
    · rintro i σ H3 x H4 hi ⟨y6, y7, y8, y9, rfl, e3, p3, acc, ps, hL3, hA3, ha, hb, hl⟩ ⟨rfl, rfl⟩
      refine ⟨_, rfl, .inl ⟨rfl, _, .inl (.inl hL3)⟩, ?_⟩
      refine ⟨_, rfl, _, rfl, by omega, by omega, fun D hD => ?_⟩
      have Dp := p3.off hD
      have DL : D ≠ L := fun e => by
        rw [e, hL3] at hD
        cases hD
      refine lc_by (1 + z1).toNat (fun j H' => ExD p H4 H' ∧ Purse H' p (m + 2 + 20 * i + j) ∧ ∃ (ac2 : List V) (p2 : List (Int × Int)), H' D = some (.lst ac2) ∧
          DaAll K (rm (rm (rm H' p) L) D) (p2.map dPair) ac2 ∧ ascB ltPr p2 = true ∧ (∀ x ∈ p2, x.1 = (i : Int) ∧ (0 ≤ x.2 ∧ x.2 < (j : Int))) ∧ p2.length ≤ j)
        ⟨ExD.nw hD, p3.put Dp.symm, [], [], upd_same, rfl, rfl, fun x hx => (by cases hx), Nat.le_refl _⟩ (fun j H' hj _ => hj) (fun H' _ => Nat.le_refl _) ?_ ?_
      · rintro j H5 x H6 hj ⟨e5, p5, ac2, ps2, hD5, hA5, ha5, hb5, hl5⟩ ⟨rfl, rfl⟩
        refine ⟨rfl, ?_⟩
        refine ⟨_, rfl, _, rfl, p, 1 + z2, _, rfl, by omega, p5, by omega, fun z H7 hz p7 e7 => ?_⟩
        have hD7 := e7 D _ Dp hD5
        have hA7 : DaAll K (rm (rm (rm H7 p) L) D) (ps2.map dPair) ac2 := hA5.up (Ex.rm (Ex.rm e7.rm))
        refine ⟨rfl, _, rfl, ite2 (fun _ => ?_) (fun _ => ?_)⟩
        · refine ⟨_, rfl, _, rfl, by show 2 ≤ sizeLine; decide, fun T2 hT2 => ?_⟩
          have T2D : T2 ≠ D := fun e => by
            rw [e, hD7] at hT2
            cases hT2
          have T2p := p7.off hT2
          have T2L : T2 ≠ L := fun e => by
            have h9 := e7 L _ pL (e5 L _ pL hL3)
            rw [e, h9] at hT2
            cases hT2
          have hA8 := hA7.len
          rw [List.length_map] at hA8
          refine ⟨ac2, by rw [upd_ne T2D.symm]; exact hD7, mil' (by omega), ((e5.tr e7).tr (ExD.nw hT2)).wr hD, (p7.up (Ex.nw hT2)).put Dp.symm, ac2 ++ [.ref T2], ps2 ++ [(0 + (i : Int), 0 + (j : Int))], upd_same, ?_, ?_, ?_, ?_⟩
          · rw [List.map_append]
            refine (hA7.up (ex_rm3 fun b o _ _ n3 h => ?_)).app ⟨_, _, rfl, dPair_of (p := (0 + (i : Int), 0 + (j : Int))) ?_, rfl⟩
            · rw [upd_ne n3, upd_ne (ne_of_none h hT2)]
              exact h
            · rw [rm_ne T2D, rm_ne T2L, rm_ne T2p, upd_ne T2D, upd_same]
          · exact ascP_snoc ha5 fun t ht => ltPr_iff.mpr (by have := hb5 t ht; simp only; omega)
          · intro x hx
            rcases List.mem_append.mp hx with hx | hx
            · have := hb5 x hx
              omega
            · obtain rfl := List.mem_singleton.mp hx
              simp only
              omega
          · rw [List.length_append, List.length_singleton]
            omega
        · exact ⟨e5.tr e7, p7, ac2, ps2, hD7, hA7, ha5, fun x hx => by have := hb5 x hx; omega, by omega⟩
      · rintro H5 ⟨e5, p5, ac2, ps2, hD5, hA5, ha5, hb5, hl5⟩
        have hL5 := e5 L _ pL hL3
        have l1 := hA3.len
        have l2 := hA5.len
        rw [List.length_map] at l1 l2
        refine ⟨L, D, acc, ac2, rfl, rfl, hL5, hD5, mil (by omega), ?_⟩
        refine ⟨_, _, _, _, rfl, (e3.tr e5).wr HL, (p5.put pL.symm).mono (by omega), acc ++ ac2, ps ++ ps2, upd_same, ?_, ?_, ?_, ?_⟩
        · rw [List.map_append]
          refine (hA3.up (ex_rm2 fun b o n1 n2 h => ?_)).app (hA5.up (rm_ex.tr (ex_rm2 fun b o n1 n2 h => ?_)))
          · rw [upd_ne n2]
            exact e5 b o n1 h
          · rw [upd_ne n2]
            exact h
        · refine asc_app ha ha5 fun x hx y hy => ltPr_iff.mpr (.inl ?_)
          have := hb x hx
          have := hb5 y hy
          omega
        · intro x hx
          rcases List.mem_append.mp hx with hx | hx
          · have := hb x hx
            omega
          · have := hb5 x hx
            omega
        · rw [List.length_append]
          omega
    · rintro σ H3 ⟨y6, y7, y8, y9, rfl, e3, p3, acc, ps, hL3, hA3, ha, hb, hl⟩
      -- the nudges
      refine ⟨_, rfl, _, rfl, _, _, rfl, rfl, p, mn + 1, _, rfl, by omega, p3, by omega, fun z3 H4 hz3 p4 e4 => ⟨_, rfl, by omega, by omega, fun D hD => ?_⟩⟩
      have Dp := p4.off hD
      have hL4 := e4 L _ pL hL3
      have DL : D ≠ L := fun e => by
        rw [e, hL4] at hD
        cases hD
      have hm0 : m + 2 + 20 * (1 + z1).toNat + 1 ≤ m + 403 := by omega
      have p40 := p4.mono hm0
      refine lc_by z3.toNat (fun i H' => ExD p H4 H' ∧ Purse H' p (m + 403 + 21 * i) ∧ ∃ (ac : List V) (rs : List (List Int)), H' D = some (.lst ac) ∧
          DaAll K (rm (rm H' p) D) (rs.map dInts) ac ∧ (∀ r ∈ rs, r ≠ [] ∧ (∀ t ∈ r, 0 ≤ t ∧ t < 1 + z1) ∧ ascB ltIn r = true) ∧ rs.length = i)
        ⟨ExD.nw hD, p40.put Dp.symm, [], [], upd_same, rfl, fun r hr => (by cases hr), rfl⟩ (fun i H' hi _ => hi) (fun H' _ => Nat.le_refl _) ?_ ?_
      · rintro i H5 x H6 hi ⟨e5, p5, ac, rs, hD5, hA5, hr5, hl5⟩ ⟨rfl, rfl⟩
        refine ⟨rfl, ?_⟩
        refine ⟨_, rfl, _, rfl, p, 1 + z1, _, rfl, by omega, p5, by omega, fun l r H7 hl e7 p7 h7 hr7 => ?_⟩
        have hD7 := e7 D _ Dp hD5
        have lD : l ≠ D := fun e => by
          rw [e, hD5] at hl
          cases hl
        have lp := p5.off hl
        have l1 := hA5.len
        rw [List.length_map] at l1
        have lr : r.length ≤ 20 := by
          have := asc_len r 0 hr7.2.1 hr7.2.2
          omega
        refine ⟨ac, hD7, mil' (by omega), (e5.tr e7).wr hD, p7.put Dp.symm, ac ++ [.ref l], rs ++ [r], upd_same, ?_, ?_, ?_⟩
        · rw [List.map_append]
          refine (hA5.up (ex_rm2 fun b o n1 n2 h => ?_)).app ⟨_, _, rfl, dInts_of ?_ (by omega), rfl⟩
          · rw [upd_ne n2]
            exact e7 b o n1 h
          · rw [rm_ne lD, rm_ne lp, upd_ne lD]
            exact h7
        · intro s hs
          rcases List.mem_append.mp hs with hs | hs
          · exact hr5 s hs
          · obtain rfl := List.mem_singleton.mp hs
            exact hr7
        · rw [List.length_append, hl5]
          rfl
      · rintro H5 ⟨e5, p5, ac, rs, hD5, hA5, hr5, hl5⟩
        refine ⟨_, rfl, _, rfl, _, rfl, by show 3 ≤ sizeLine; decide, fun T3 hT3 => ?_⟩
        have hL5 := e5 L _ pL hL4
        have T3p := p5.off hT3
        have T3L : T3 ≠ L := fun e => by
          rw [e, hL5] at hT3
          cases hT3
        have T3D : T3 ≠ D := fun e => by
          rw [e, hD5] at hT3
          cases hT3
        have l1 := hA3.len
        have l2 := hA5.len
        rw [List.length_map] at l1 l2
        refine q (.ref T3) ⟨1 + z1, ps, rs⟩ _ (((e3.tr e4).tr e5).tr (ExD.nw hT3)) ((p5.up (Ex.nw hT3)).mono (by omega)) ?_ ?_ (by show 1 + z1 ≤ most; omega) (by show (rs.length : Int) ≤ mn; omega)
        · refine ⟨T3, _, rfl, by rw [rm_ne T3p, upd_same], _, _, rfl, rfl, _, _, rfl, ⟨L, acc, rfl, ?_, ?_, ?_⟩, _, _, rfl, ⟨D, ac, rfl, ?_, ?_, ?_⟩, rfl⟩
          · rw [rm_ne pL, upd_ne T3L.symm]
            exact hL5
          · refine hA3.up (rm_ex.tr (ex_rm1 fun b o n h => ?_))
            rw [upd_ne (ne_of_none (e5 b o n (e4 b o n h)) hT3)]
            exact e5 b o n (e4 b o n h)
          · rw [List.length_map]
            show ps.length ≤ 100000
            omega
          · rw [rm_ne Dp, upd_ne T3D.symm]
            exact hD5
          · refine hA5.up (rm_ex.tr (ex_rm1 fun b o n h => ?_))
            rw [upd_ne (ne_of_none h hT3)]
            exact h
          · rw [List.length_map]
            show rs.length ≤ 100000
            omega
        · refine ⟨by show 1 ≤ 1 + z1; omega, by show 1 + z1 ≤ 20; omega, ?_, ha, by show rs.length ≤ 8; omega, hr5⟩
          intro x hx
          have := hb x hx
          refine ⟨⟨this.1.1, ?_⟩, this.2⟩
          show x.1 < 1 + z1
          omega
end

end K48
namespace K48
open PySem PySem.Spec PyProof.Rows L2 Nw
/-! _law_text: slots 0 _law_web_here, 1 _law_pairs_here, 2 _law_one, 3 _law_other, 4 _law_lists, 5 _law_row, 6 _law_goal -/
abbrev s_text : Stmt := topS 38
abbrev N_text : List Str := ["_law_web_here", "_law_pairs_here", "_law_one", "_law_other", "_law_lists", "_law_row", "_law_goal"]
abbrev P_text : List Str := ["_law_web_here"]
theorem sc_text : FnScope N_text P_text (defScope s_text) := ⟨rfl, rfl, rfl, by decide +kernel, rfl, by decide +kernel, by decide +kernel⟩
/-- the law's own text of a web -/
def sp_text (K : PySem.W.Frag) : Sp := fun vs H Q _ => ∃ v u, vs = [v] ∧ Da K H (Wb.d u) v ∧ u.Ok ∧ ∀ H', Ex H H' → Q (.str (webS u)) H'
section
variable {P : Program} {w : World} {K : PySem.W.Frag} {mg : Str → Option Value} {base : Heap}
theorem ok_text {f : Addr} {fd : FuncData} (T : Txt K mg) (F : Fun K "_law_text" "_law_text" s_text f fd) :
    FnG P w K mg base CX0 1 f fd P_text (sp_text K) := by
  refine okG0 F sc_text (fun vs H Q E h => ?_) (fun cdv A outer s H vs Q E hr hq h => ?_)
  · obtain ⟨v, u, rfl, _⟩ := h
    rfl
  · obtain ⟨v, u, rfl, hd, hu, q⟩ := h
    have sm := hu.sml
    have hn := sm.n
    have hpb : ∀ p ∈ u.ps, (0 ≤ p.1 ∧ p.1 < 100) ∧ (0 ≤ p.2 ∧ p.2 < 100) := fun p hp => by
      have := sm.ps p hp
      omega
    have hnb : ∀ r ∈ u.ns, r.length ≤ 20 ∧ ∀ x ∈ r, 0 ≤ x ∧ x < 100 := fun r hr => ⟨(sm.ns r hr).2.1, fun x hx => by
      have := (sm.ns r hr).2.2 x hx
      omega⟩
    obtain ⟨tw, x2, x3, rfl, hS, ⟨a2, xs2, rfl, hL2, hA2, hz2⟩, ⟨a3, xs3, rfl, hL3, hA3, hz3⟩⟩ := Wb.at hd
    have hl3 := hA3.len
    rw [List.length_map] at hl3
    have hl2 := hA2.len
    rw [List.length_map] at hl2
    refine ⟨_, (pss_cons (ps_set (i := 1) sc_text.nd rfl (by first | exact .inl rfl | exact .inr rfl) (pe_joinK K pe_str (pe_lc (own := [("_law_one", 2), ("_law_other", 3)]) rfl sc_text.nd (pi_listK K (pe_ix (ix_tupK K) (pv 0) pe_int (fun _ _ => rfl))) (blkOk_by (N := N_text) (sc := defScope s_text) (by decide +kernel)) (fun _ _ _ _ _ => (pg_tupK (n := 2) K rfl (pgs_cons (pg_name (i := 2) sc_text.nd rfl (by first | exact .inl rfl | exact .inr rfl)) (pgs_cons (pg_name (i := 3) sc_text.nd rfl (by first | exact .inl rfl | exact .inr rfl)) pgs_nil)))) (fun _ _ _ _ _ => pts_nil) (fun _ _ _ _ _ => (pe_op op_add_str (pe_op op_add_str (pe_callTy call_str_int (by rfl) T.b_str bt_str (pa_cons (pv 2) pa_nil)) pe_str) (pe_callTy call_str_int (by rfl) T.b_str bt_str (pa_cons (pv 3) pa_nil)))))))
      (pss_cons (ps_set (i := 4) sc_text.nd rfl (by first | exact .inl rfl | exact .inr rfl) (pe_joinK K pe_str (pe_lc (own := [("_law_row", 5)]) rfl sc_text.nd (pi_listK K (pe_ix (ix_tupK K) (pv 0) pe_int (fun _ _ => rfl))) (blkOk_by (N := N_text) (sc := defScope s_text) (by decide +kernel)) (fun _ _ _ _ _ => (pg_name (i := 5) sc_text.nd rfl (by first | exact .inl rfl | exact .inr rfl))) (fun _ _ _ _ _ => pts_nil) (fun _ _ _ _ _ => (pe_joinK K pe_str (pe_lc (own := [("_law_goal", 6)]) rfl sc_text.nd (pi_listK K (pv 5)) (blkOk_by (by kernel_rfl)) (fun _ _ _ _ _ => (pg_name (i := 6) sc_text.nd rfl (by first | exact .inl rfl | exact .inr rfl))) (fun _ _ _ _ _ => pts_nil) (fun _ _ _ _ _ => (pe_callTy call_str_int (by rfl) T.b_str bt_str (pa_cons (pv 6) pa_nil)))))))))
      (pss_one (ps_ret (pe_joinK K pe_str (pe_lst (pa_cons (pe_callTy call_str_int (by rfl) T.b_str bt_str (pa_cons (pe_ix (ix_tupK K) (pv 0) pe_int (fun _ _ => rfl)) pa_nil)) (pa_cons (pe_ifExp (pt_cmpR op_ne (pv 1) pe_str (nomark _)) (pv 1) pe_str) (pa_cons (pe_ifExp (pt_cmpR op_ne (pv 4) pe_str (nomark _)) (pv 4) pe_str) pa_nil))))))))), ?_⟩
    have sL : SqL K H a2 xs2 := .inl (.inl hL2)
    refine ⟨⟨_, rfl⟩, _, rfl, tw, _, 1, _, rfl, rfl, hS, rfl, a2, rfl, ⟨_, sL⟩, fun D hD => ?_⟩
    refine lc_by xs2.length (fun i H' => Ex H H' ∧ H' D = some (.lst (((u.ps.take i).map pS).map V.str)))
      ⟨Ex.nw hD, upd_same⟩ (fun i H' hi p => itl_go sL p.1 hi) (fun H' p => itl_stop sL p.1) ?_ ?_
    · rintro i H9 x H2 hi ⟨e2, hD2⟩ y
      obtain ⟨rfl, hx⟩ := itl_yld y sL e2
      obtain ⟨p, hp, b, rfl, hSb⟩ := pairs_at hA2 hx
      have hkb := hpb p (List.mem_of_getElem? hp)
      have l1 : (Str.ofString (toString p.1)).length ≤ 2 := len_nS hkb.1.1 hkb.1.2
      have l2 : (Str.ofString (toString p.2)).length ≤ 2 := len_nS hkb.2.1 hkb.2.2
      have l0 : (">" : Str).length = 1 := by decide +kernel
      rw [take_snoc hp, List.map_append, List.map_append]
      refine ⟨b, _, rfl, e2.t hSb, rfl, _, _, rfl, _, _, rfl, rfl, rfl, ?_⟩
      refine ⟨_, rfl, _, rfl, log_nS hkb.1.1 hkb.1.2, _, _, rfl, rfl, le_line (by omega), _, rfl, _, rfl, log_nS hkb.2.1 hkb.2.2, _, _, rfl, rfl, le_line (by rw [app_len]; omega), _, hD2, mil' ?_, e2.wr hD, ?_⟩
      · rw [List.length_map, List.length_map, List.length_take]
        have := sm.pl
        omega
      · rw [upd_same, pS_add]
        rfl
    · rintro H2 ⟨e2, hD2⟩
      rw [← hl2, List.take_length] at hD2
      refine ⟨_, D, u.ps.map pS, rfl, rfl, .inl (.inl (.inl hD2)), join_room (m := 8) (k := 1300) (fun y hy => ?_) (by rw [List.length_map]; exact sm.pl) (by decide +kernel) (by decide), ?_⟩
      · obtain ⟨x, hx, rfl⟩ := List.mem_map.mp hy
        exact (len_pS (hpb x hx).1 (hpb x hx).2).1
      have sL3 : SqL K H2 a3 xs3 := .inl (.inl (e2 _ _ hL3))
      refine ⟨⟨_, rfl⟩, _, rfl, tw, _, 2, _, rfl, rfl, e2.t hS, rfl, a3, rfl, ⟨_, sL3⟩, fun D2 hD2' => ?_⟩
      refine lc_by xs3.length (fun i H' => Ex H2 H' ∧ H' D2 = some (.lst (((u.ns.take i).map rS).map V.str)))
        ⟨Ex.nw hD2', upd_same⟩ (fun i H' hi p => itl_go sL3 p.1 hi) (fun H' p => itl_stop sL3 p.1) ?_ ?_
      · rintro i H9 x H3 hi ⟨e3, hD3⟩ y
        obtain ⟨rfl, hx⟩ := itl_yld y sL3 e3
        obtain ⟨d, hd2, hdx⟩ := hA3.at' hx
        obtain ⟨r, hrr, rfl⟩ := map_at hd2
        have hrb := hnb r (List.mem_of_getElem? hrr)
        obtain ⟨b, zs, rfl, hb, hbA, _⟩ := (hdx.up e2).up e3
        obtain rfl := DaAll.ints.mp hbA
        have sR : SqL K H3 b (r.map V.int) := .inl (.inl hb)
        rw [take_snoc hrr, List.map_append, List.map_append]
        refine ⟨rfl, ⟨_, rfl⟩, _, rfl, b, rfl, ⟨_, sR⟩, fun B hB => ?_⟩
        refine lc_by (r.map V.int).length (fun j H' => Ex H3 H' ∧ H' B = some (.lst (((r.take j).map nS).map V.str)))
          ⟨Ex.nw hB, upd_same⟩ (fun j H' hj p => itl_go sR p.1 hj) (fun H' p => itl_stop sR p.1) ?_ ?_
        · rintro j H8 x H4 hj ⟨e4, hB4⟩ y
          obtain ⟨rfl, hx⟩ := itl_yld y sR e4
          obtain ⟨k, hk, rfl⟩ := map_at hx
          have hkb := hrb.2 k (List.mem_of_getElem? hk)
          rw [take_snoc hk, List.map_append, List.map_append]
          refine ⟨rfl, _, rfl, k, rfl, log_nS hkb.1 hkb.2, _, hB4, mil' ?_, e4.wr hB, upd_same⟩
          rw [List.length_map, List.length_map, List.length_take]
          have := hrb.1
          omega
        · rintro H4 ⟨e4, hB4⟩
          rw [List.length_map, List.take_length] at hB4
          refine ⟨_, B, r.map nS, rfl, rfl, .inl (.inl (.inl hB4)), join_room (m := 2) (k := 20) (fun y hy => ?_) (by rw [List.length_map]; exact hrb.1) (by decide +kernel) (by decide), _, e4 _ _ hD3, mil' ?_, (e3.tr e4).wr hD2', upd_same⟩
          · obtain ⟨x, hx, rfl⟩ := List.mem_map.mp hy
            exact len_nS (hrb.2 x hx).1 (hrb.2 x hx).2
          · rw [List.length_map, List.length_map, List.length_take]
            have := sm.nl
            omega
      · rintro H3 ⟨e3, hD3⟩
        rw [← hl3, List.take_length] at hD3
        refine ⟨_, D2, u.ns.map rS, rfl, rfl, .inl (.inl (.inl hD3)), join_room (m := 80) (k := 20) (fun y hy => ?_) (by rw [List.length_map]; have := sm.nl; omega) (by decide +kernel) (by decide), ?_⟩
        · obtain ⟨x, hx, rfl⟩ := List.mem_map.mp hy
          exact len_rS (hnb x hx).2 (hnb x hx).1
        have e13 := e2.tr e3
        refine ⟨⟨_, rfl⟩, _, rfl, tw, _, 0, _, rfl, rfl, e13.t hS, rfl, _, rfl, log_nS hn.1 (by omega), ?_⟩
        refine if_ne_str rfl ?_
        rw [or_psS hpb]
        refine if_ne_str rfl ?_
        rw [or_nsS (fun r hr => ⟨(sm.ns r hr).1, fun x hx => ((hnb r hr).2 x hx).1⟩)]
        refine ⟨by show 3 ≤ sizeLine; decide, fun L hL => ?_⟩
        have e4 : Ex H3 (upd H3 L (.lst [.str (nS u.n), .str (psS u.ps), .str (nsS u.ns)])) := Ex.nw hL
        refine ⟨_, L, [nS u.n, psS u.ps, nsS u.ns], rfl, rfl, .inl (.inl (.inl upd_same)), join_room (m := 13000) (k := 3) (fun y hy => ?_) (by show 3 ≤ 3; decide) (by decide +kernel) (by decide), q _ (e13.tr e4)⟩
        rcases List.mem_cons.mp hy with rfl | hy
        · exact Nat.le_trans (len_nS hn.1 (by omega)) (by decide)
        · rcases List.mem_cons.mp hy with rfl | hy
          · exact len_psS hpb sm.pl
          · obtain rfl := List.mem_singleton.mp hy
            exact Nat.le_trans (len_nsS hnb (by have := sm.nl; omega)) (by decide)
end

end K48
namespace K48
open PySem PySem.Spec PyProof.Rows L2 Nw
/-! _law_is_number: slots 0 _law_word, 1 _law_sign -/
abbrev s_is_number : Stmt := topS 39
abbrev N_is_number : List Str := ["_law_word", "_law_sign"]
abbrev P_is_number : List Str := ["_law_word"]
theorem sc_is_number : FnScope N_is_number P_is_number (defScope s_is_number) := ⟨rfl, rfl, rfl, by decide +kernel, rfl, by decide +kernel, by decide +kernel⟩
def sp_is_number (K : PySem.W.Frag) : Sp := fun vs H Q _ => ∃ w : Str, vs = [.str w] ∧ w.length ≤ 90000 ∧ ∀ H', Ex H H' → Q (.bl (numW w).isSome) H'
section
variable {P : Program} {w : World} {K : PySem.W.Frag} {mg : Str → Option Value} {base : Heap}
theorem ok_is_number {f : Addr} {fd : FuncData} (T : Txt K mg) (F : Fun K "_law_is_number" "_law_is_number" s_is_number f fd) :
    FnG P w K mg base CX0 1 f fd P_is_number (sp_is_number K) := by
  refine okG0 F sc_is_number (fun vs H Q E h => ?_) (fun cdv A outer s H vs Q E hr hq h => ?_)
  · obtain ⟨x, rfl, _⟩ := h
    rfl
  · obtain ⟨x, rfl, hx, q⟩ := h
    refine ⟨_, (pss_cons (ps_if (PW.pt (pw_or (pt_not (pt_chain op_le op_le pe_int (pe_callB call_len_str (by rfl) T.b_len bt_len (pa_cons (pv 0) pa_nil)) pe_int)) (pw_or1 (pt_cmpR (op_neNil K hr) (pe_lc (own := [("_law_sign", 1)]) rfl sc_is_number.nd (pi_str (pv 0)) (blkOk_by (N := N_is_number) (sc := defScope s_is_number) (by decide +kernel)) (fun _ _ _ _ _ => (pg_name (i := 1) sc_is_number.nd rfl (by first | exact .inl rfl | exact .inr rfl))) (fun _ _ _ _ _ => (pts_one (pt_cmpR op_notin_str (pv 1) pe_str (by rfl)))) (fun _ _ _ _ _ => (pv 1))) (pe_lst pa_nil) (nomark _))))) (pss_one (ps_ret pe_bl)) pss_nil)
      (pss_one (ps_ret (pe_or (pe_cmpR op_eq (pv 0) pe_str (nomark _)) (pe_one (pe_cmpR op_ne (pe_ix ix_str (pv 0) pe_int (fun _ _ => rfl)) pe_str (nomark _))))))), ?_⟩
    rw [numW_some] at q
    have no : (decide (1 ≤ x.length ∧ x.length ≤ 30) && x.cps.toList.all digB) = false → ∀ H', Ex H H' → Q (.bl false) H' := fun h H' e => by
      have := q H' e
      rw [h, Bool.false_and] at this
      exact this
    have xl : x.cps.toList.length = x.length := Array.length_toList
    refine ⟨_, rfl, _, rfl, le_line (by omega), _, _, rfl, rfl, _, rfl, ?_⟩
    refine ite2 (fun h1 => ?_) (fun h1 => ?_)
    · refine ⟨_, _, rfl, rfl, _, rfl, ?_⟩
      refine ite2 (fun h2 => ?_) (fun h2 => ?_)
      · refine no ?_ H Ex.rfl
        have : ¬ ((x.length : Int) ≤ 30) := by simpa using h2
        rw [decide_eq_false (by omega), Bool.false_and]
      · have l1 : (1 : Int) ≤ (x.length : Int) := by simpa using h1
        have l2 : (x.length : Int) ≤ 30 := by simpa using h2
        have hl : decide (1 ≤ x.length ∧ x.length ≤ 30) = true := decide_eq_true (by omega)
        rw [hl, Bool.true_and] at no q
        refine ⟨_, rfl, x, rfl, fun D hD => ?_⟩
        refine lc_by x.cps.size (fun i H' => Ex H H' ∧ ∃ acc, H' D = some (.lst acc) ∧ acc.length ≤ i ∧ acc.isEmpty = ((x.cps.toList.take i).all digB))
          ⟨Ex.nw hD, [], upd_same, Nat.le_refl _, rfl⟩ (fun i H' hi p => hi) (fun H' p => Nat.le_refl _) ?_ ?_
        · rintro i H2 y H3 hi ⟨e2, acc, hD2, hal, hae⟩ ⟨rfl, c, hc, rfl⟩
          have hc' : x.cps.toList[i]? = some c := by
            rw [Array.getElem?_toList]
            exact hc
          have hi' : i < x.length := hi
          have ha3 : (x.cps.toList.take (i + 1)).all digB = ((x.cps.toList.take i).all digB && digB c) := by
            rw [take_snoc hc', List.all_append, List.all_cons, List.all_nil, Bool.and_true]
          refine ⟨rfl, _, rfl, _, _, rfl, rfl, _, rfl, ite2 (fun h => ?_) (fun h => ?_)⟩
          · rw [no_ten] at h
            have hb : digB c = false := by simpa using h
            refine ⟨_, rfl, acc, hD2, mil' (by omega), e2.wr hD, _, upd_same, by rw [List.length_append, List.length_singleton]; omega, ?_⟩
            rw [ha3, hb, Bool.and_false]
            simp
          · rw [no_ten] at h
            have hb : digB c = true := by simpa using h
            refine ⟨e2, acc, hD2, by omega, ?_⟩
            rw [ha3, hb, Bool.and_true]
            exact hae
        · rintro H2 ⟨e2, acc, hD2, hal, hae⟩
          rw [← Array.length_toList, List.take_length] at hae
          refine ⟨Nat.zero_le _, fun z2 hz2 => ?_⟩
          have e3 : Ex H2 (upd H2 z2 (.lst [])) := Ex.nw hz2
          have f3 : (upd H2 z2 (.lst [])) z2 = some (.lst []) := upd_same
          generalize upd H2 z2 (.lst []) = H3 at e3 f3
          have e13 := e2.tr e3
          refine ⟨D, z2, acc, rfl, rfl, .inl (.inl (e3 _ _ hD2)), .inl (.inl f3), _, rfl, ite2 (fun hb => ?_) (fun hb => ?_)⟩
          · refine no ?_ H3 e13
            rw [← hae]
            simpa using hb
          · have ha : x.cps.toList.all digB = true := by
              rw [← hae]
              simpa using hb
            have q' := q H3 e13
            rw [ha, Bool.true_and] at q'
            refine ⟨_, rfl, rfl, _, rfl, ?_⟩
            cases b1 : decide (V.str x = V.str "0") with
            | true =>
              rw [b1, Bool.true_or] at q'
              exact q'
            | false =>
              rw [b1, Bool.false_or] at q'
              have h0 : 0 < x.cps.toList.length := by omega
              have hc : x.cps.toList[0]? = some x.cps.toList[0] := List.getElem?_eq_getElem h0
              rw [first_zero hc] at q'
              exact ⟨_, rfl, x, 0, _, rfl, rfl, le_line (by omega), atI_nat (j := 0) hc, rfl, q'⟩
    · refine ⟨_, rfl, ite2 (fun h2 => ?_) (fun h2 => absurd rfl h2)⟩
      refine no ?_ H Ex.rfl
      have : ¬ ((1 : Int) ≤ (x.length : Int)) := by simpa using h1
      rw [decide_eq_false (by omega), Bool.false_and]
end

end K48
namespace K48
open PySem PySem.Spec PyProof.Rows L2 Nw
/-! _law_fits: slots 0 _law_at, 1 _law_part, 2 _law_word, 3 _law_numbers_here, 4 _law_one -/
abbrev s_fits : Stmt := topS 40
abbrev N_fits : List Str := ["_law_at", "_law_part", "_law_word", "_law_numbers_here", "_law_one"]
abbrev P_fits : List Str := ["_law_at", "_law_part"]
theorem sc_fits : FnScope N_fits P_fits (defScope s_fits) := ⟨rfl, rfl, rfl, by decide +kernel, rfl, by decide +kernel, by decide +kernel⟩
def sepP (p : Nat) : Str := if p = 1 then ">" else ","
def okW (p : Nat) (w : Str) : Bool := !(numsW w (sepP p)).any Option.isNone && (decide (p ≠ 1) || decide ((numsW w (sepP p)).length = 2))
theorem pair_ok : ∀ l : List (Option Int), (match l with | [some a, some b] => some (a, b) | _ => none : Option (Int × Int)).isSome = (!l.any Option.isNone && decide (l.length = 2))
  | [] => rfl
  | [none] => rfl
  | [some _] => rfl
  | [none, none] => rfl
  | [none, some _] => rfl
  | [some _, none] => rfl
  | [some _, some _] => rfl
  | a :: b :: c :: l => by
    have : ¬ (a :: b :: c :: l).length = 2 := by simp
    rw [decide_eq_false this, Bool.and_false]
    cases a <;> cases b <;> rfl
theorem allO_isSome {α : Type} (l : List (Option α)) : (allO l).isSome = l.all Option.isSome := by
  induction l with
  | nil => rfl
  | cons x l ih =>
    cases x with
    | none => rfl
    | some x =>
      rw [List.all_cons, ← ih]
      rw [allO]
      cases allO l <;> rfl
theorem part_ok {p : Nat} {s : Str} (hp : p = 1 ∨ p = 2) (hs : s ≠ "-") : (partD p s).isSome = (Txt.split s " ").all (okW p) := by
  rcases hp with rfl | rfl
  · have e : partD 1 s = (partP s).map dPairs := rfl
    rw [e, Option.isSome_map]
    unfold partP
    rw [if_neg hs, allO_isSome, List.all_map]
    refine congrArg (List.all _) (funext fun w => ?_)
    exact pair_ok (numsW w ">")
  · have e : partD 2 s = (partN s).map dRows := rfl
    rw [e, Option.isSome_map]
    unfold partN
    rw [if_neg hs, allO_isSome, List.all_map]
    refine congrArg (List.all _) (funext fun w => ?_)
    show (allO (numsW w ",")).isSome = (!(numsW w ",").any Option.isNone && true)
    rw [Bool.and_true, ← allO_isNone]
    cases allO (numsW w ",") <;> rfl
theorem sep_at {p : Nat} (hp : p = 1 ∨ p = 2) : atI [V.str ">", V.str ","] ((p : Int) - 1) = some (.str (sepP p)) := by
  rcases hp with rfl | rfl <;> rfl
theorem sep_len (p : Nat) : 1 ≤ (sepP p).length ∧ (sepP p).length ≤ 1 := by
  unfold sepP
  split <;> decide +kernel
def sp_fits (K : PySem.W.Frag) : Sp := fun vs H Q _ => ∃ (p : Nat) (s : Str), vs = [.int (p : Int), .str s] ∧ p < 3 ∧ s.length ≤ 90000 ∧ ∀ H', Ex H H' → Q (.bl (partD p s).isSome) H'
section
variable {P : Program} {w : World} {K : PySem.W.Frag} {mg : Str → Option Value} {base : Heap}
theorem ok_fits {f : Addr} {fd : FuncData} (T : Txt K mg) (F : Fun K "_law_fits" "_law_fits" s_fits f fd)
    (D_is_number : DefOk P w K mg base CX0 1 "_law_is_number" P_is_number (sp_is_number K)) :
    FnG P w K mg base CX0 2 f fd P_fits (sp_fits K) := by
  refine okG0 F sc_fits (fun vs H Q E h => ?_) (fun cdv A outer s H vs Q E hr hq h => ?_)
  · obtain ⟨a, b, rfl, _⟩ := h
    rfl
  · obtain ⟨p, s, rfl, hp, hl, q⟩ := h
    refine ⟨_, (pss_cons (ps_if (pt_cmpR op_eq (pv 0) pe_int (nomark _)) (pss_one (ps_ret (pe_callD D_is_number (hr.mono (by decide)) hq pass0 (pa_cons (pv 1) pa_nil)))) pss_nil)
      (pss_cons (ps_if (pt_cmpR op_eq (pv 1) pe_str (nomark _)) (pss_one (ps_ret pe_bl)) pss_nil)
      (pss_cons (ps_for PassesOwn.never rfl (pi_listK K (pe_split (pv 1) pe_str)) (pg_name (i := 2) sc_fits.nd rfl (by first | exact .inl rfl | exact .inr rfl)) (pss_cons (ps_set (i := 3) sc_fits.nd rfl (by first | exact .inl rfl | exact .inr rfl) (pe_split (pv 2) (pe_ix (ix_listK K) (pe_lst (pa_cons pe_str (pa_cons pe_str pa_nil))) (pe_op op_sub (pv 0) pe_int) (fun _ _ => rfl))))
      (pss_one (ps_if (PW.pt (pw_or (pt_cmpR (op_neNil K hr) (pe_lc (own := [("_law_one", 4)]) rfl sc_fits.nd (pi_listK K (pv 3)) (blkOk_by (N := N_fits) (sc := defScope s_fits) (by decide +kernel)) (fun _ _ _ _ _ => (pg_name (i := 4) sc_fits.nd rfl (by first | exact .inl rfl | exact .inr rfl))) (fun _ _ _ _ _ => (pts_one (pt_not (pt_val (pe_callD D_is_number (hr.mono (by decide)) hq pass0 (pa_cons (pv 4) pa_nil)))))) (fun _ _ _ _ _ => (pv 4))) (pe_lst pa_nil) (nomark _)) (pw_or1 (PW.pt (pw_and (pt_cmpR op_eq (pv 0) pe_int (nomark _)) (pw_and1 (pt_cmpR op_ne (pe_callB (call_lenK K) (by rfl) T.b_len bt_len (pa_cons (pv 3) pa_nil)) pe_int (nomark _)))))))) (pss_one (ps_ret pe_bl)) pss_nil))))
      (pss_one (ps_ret pe_bl))))), ?_⟩
    refine ⟨_, rfl, rfl, _, rfl, ite2 (fun h0 => ?_) (fun h0 => ?_)⟩
    · have hp0 : p = 0 := by simpa using h0
      subst hp0
      refine ⟨_, rfl, s, rfl, hl, fun H' e => ?_⟩
      have := q H' e
      have e1 : partD 0 s = (numW s).map PyData.int := rfl
      rw [e1, Option.isSome_map] at this
      exact this
    · have hp12 : p = 1 ∨ p = 2 := by
        have : ¬ p = 0 := by simpa using h0
        omega
      refine ⟨_, rfl, rfl, _, rfl, ite2 (fun h1 => ?_) (fun h1 => ?_)⟩
      · have hs : s = "-" := by simpa using h1
        subst hs
        have := q H Ex.rfl
        rcases hp12 with rfl | rfl
        · exact this
        · exact this
      have hs : s ≠ "-" := fun z => by
        subst z
        exact h1 rfl
      rw [part_ok hp12 hs] at q
      have wf := words_few (w := s) (sep := " ") (by decide)
      refine ⟨_, rfl, ⟨_, rfl⟩, _, _, rfl, rfl, by decide +kernel, le_line (by omega), fun S hS => ?_⟩
      have e1 : Ex H (upd H S (.lst ((Txt.split s " ").map V.str))) := Ex.nw hS
      have f1 : (upd H S (.lst ((Txt.split s " ").map V.str))) S = some (.lst ((Txt.split s " ").map V.str)) := upd_same
      generalize upd H S (.lst ((Txt.split s " ").map V.str)) = H1 at e1 f1
      have sS : SqL K H1 S ((Txt.split s " ").map V.str) := .inl (.inl f1)
      refine ⟨S, rfl, ⟨_, sS⟩, ?_⟩
      refine for_by ((Txt.split s " ").map V.str).length (fun i σ H' => ∃ y2 y3, σ = [some (V.int (p : Int)), some (V.str s), y2, y3, none] ∧ Ex H1 H' ∧ ((Txt.split s " ").take i).all (okW p) = true)
        ⟨_, _, rfl, Ex.rfl, rfl⟩ (fun i σ H' hi pv => ?_) (fun σ H' pv => ?_) ?_ ?_
      · obtain ⟨_, _, _, e, _⟩ := pv
        exact itl_go sS e hi
      · obtain ⟨_, _, _, e, _⟩ := pv
        exact itl_stop sS e
      · rintro i σ H2 x H3 hi ⟨y2, y3, rfl, e2, hok⟩ y
        obtain ⟨rfl, hx⟩ := itl_yld y sS e2
        obtain ⟨k, hk, rfl⟩ := map_at hx
        have hkl := word_len (w := s) (sep := " ") (by decide) (List.mem_of_getElem? hk)
        have hkf := words_few (w := k) (sep := sepP p) (sep_len p).1
        have sn : ((Txt.split s " ").take (i + 1)).all (okW p) = okW p k := by
          rw [take_snoc hk, List.all_append, hok, Bool.true_and, List.all_cons, List.all_nil, Bool.and_true]
        have bad : okW p k = false → ∀ H', Ex H H' → Q (.bl false) H' := fun h H' e => by
          have : (Txt.split s " ").all (okW p) = false := by
            rw [List.all_eq_false]
            exact ⟨k, List.mem_of_getElem? hk, by rw [h]; exact Bool.false_ne_true⟩
          rw [← this]
          exact q H' e
        refine ⟨_, rfl, ⟨_, rfl⟩, ?_⟩
        refine ⟨le_line (by show 2 ≤ 1000000; decide), fun L hL => ?_⟩
        have e3 : Ex H3 (upd H3 L (.lst [.str ">", .str ","])) := Ex.nw hL
        have f3 : (upd H3 L (.lst [.str ">", .str ","])) L = some (.lst [.str ">", .str ","]) := upd_same
        generalize upd H3 L (.lst [.str ">", .str ","]) = H4 at e3 f3
        refine ⟨_, rfl, _, _, rfl, rfl, L, _, _, _, rfl, rfl, .inl (.inl f3), sep_at hp12, _, _, rfl, rfl, ?_, le_line (by omega), fun N hN => ?_⟩
        · have := (sep_len p).1
          rw [beq_eq_false_iff_ne]
          omega
        have e4 : Ex H4 (upd H4 N (.lst ((Txt.split k (sepP p)).map V.str))) := Ex.nw hN
        have f4 : (upd H4 N (.lst ((Txt.split k (sepP p)).map V.str))) N = some (.lst ((Txt.split k (sepP p)).map V.str)) := upd_same
        generalize upd H4 N (.lst ((Txt.split k (sepP p)).map V.str)) = H5 at e4 f4
        have e15 := e2.tr (e3.tr e4)
        have sN : SqL K H5 N ((Txt.split k (sepP p)).map V.str) := .inl (.inl f4)
        refine ⟨_, rfl, N, rfl, ⟨_, sN⟩, fun D hD => ?_⟩
        refine lc_by ((Txt.split k (sepP p)).map V.str).length (fun i H' => Ex H5 H' ∧ ∃ acc, H' D = some (.lst acc) ∧ acc.length ≤ i ∧ acc.isEmpty = (((Txt.split k (sepP p)).take i).all fun w => (numW w).isSome))
          ⟨Ex.nw hD, [], upd_same, Nat.le_refl _, rfl⟩ (fun i H' hi p => itl_go sN p.1 hi) (fun H' p => itl_stop sN p.1) ?_ ?_
        · rintro j H6 x H7 hj ⟨e6, acc, hD6, hal, hae⟩ y
          obtain ⟨rfl, hx⟩ := itl_yld y sN e6
          obtain ⟨w1, hw, rfl⟩ := map_at hx
          have hwl := word_len (w := k) (sep := sepP p) (sep_len p).1 (List.mem_of_getElem? hw)
          rw [List.length_map] at hj
          have ha3 : ((Txt.split k (sepP p)).take (j + 1)).all (fun w => (numW w).isSome) = (((Txt.split k (sepP p)).take j).all (fun w => (numW w).isSome) && (numW w1).isSome) := by
            rw [take_snoc hw, List.all_append, List.all_cons, List.all_nil, Bool.and_true]
          refine ⟨rfl, _, rfl, w1, rfl, by omega, fun H8 e8 => ⟨_, rfl, ite2 (fun h => ?_) (fun h => ?_)⟩⟩
          · have hb : (numW w1).isSome = false := by simpa using h
            refine ⟨_, rfl, acc, e8 _ _ hD6, mil' (by omega), (e6.tr e8).wr hD, _, upd_same, by rw [List.length_append, List.length_singleton]; omega, ?_⟩
            rw [ha3, hb, Bool.and_false]
            simp
          · have hb : (numW w1).isSome = true := by
              cases hx : (numW w1).isSome with
              | true => rfl
              | false =>
                rw [hx] at h
                exact absurd rfl h
            refine ⟨e6.tr e8, acc, e8 _ _ hD6, by omega, ?_⟩
            rw [ha3, hb, Bool.and_true]
            exact hae
        · rintro H6 ⟨e6, acc, hD6, hal, hae⟩
          rw [List.length_map, List.take_length] at hae
          have hn : (numsW k (sepP p)).any Option.isNone = !acc.isEmpty := by
            rw [hae]
            unfold numsW
            rw [List.any_map, List.not_all_eq_any_not]
            refine congrArg (List.any _) (funext fun w => ?_)
            show (numW w).isNone = !(numW w).isSome
            cases numW w <;> rfl
          have hnl : (numsW k (sepP p)).length = (Txt.split k (sepP p)).length := List.length_map ..
          refine ⟨Nat.zero_le _, fun z2 hz2 => ?_⟩
          have e7 : Ex H6 (upd H6 z2 (.lst [])) := Ex.nw hz2
          have f7 : (upd H6 z2 (.lst [])) z2 = some (.lst []) := upd_same
          generalize upd H6 z2 (.lst []) = H7 at e7 f7
          have e17 := e15.tr (e6.tr e7)
          refine ⟨D, z2, acc, rfl, rfl, .inl (.inl (e7 _ _ hD6)), .inl (.inl f7), _, rfl, ite2 (fun hb => ?_) (fun hb => ?_)⟩
          · refine bad ?_ H7 (e1.tr e17)
            unfold okW
            rw [hn, hb]
            rfl
          · have hb' : (!acc.isEmpty) = false := by simpa using hb
            have ok : okW p k = (decide (p ≠ 1) || decide ((Txt.split k (sepP p)).length = 2)) := by
              unfold okW
              rw [hn, hb', hnl]
              rfl
            refine ⟨_, rfl, rfl, _, rfl, ite2 (fun h => ?_) (fun h => ?_)⟩
            · have hp1 : p = 1 := by
                have : (p : Int) = 1 := by simpa using h
                omega
              rw [decide_eq_false (by omega : ¬ p ≠ 1), Bool.false_or] at ok
              refine ⟨_, rfl, N, _, rfl, .inl (.inl (.inl ((e6.tr e7) _ _ f4))), rfl, _, rfl, ite2 (fun h2 => ?_) (fun h2 => ?_)⟩
              · refine bad ?_ H7 (e1.tr e17)
                rw [ok]
                rw [List.length_map] at h2
                simp at h2
                simp
                omega
              · refine ⟨_, _, rfl, e17, ?_⟩
                rw [sn, ok]
                rw [List.length_map] at h2
                simp at h2
                simp
                omega
            · have hp1 : p ≠ 1 := fun z => by
                subst z
                exact h rfl
              refine ⟨_, _, rfl, e17, ?_⟩
              rw [sn, ok, decide_eq_true hp1]
              rfl
      · rintro σ H2 ⟨y2, y3, rfl, e2, hok⟩
        rw [List.length_map, List.take_length] at hok
        have := q H2 (e1.tr e2)
        rw [hok] at this
        exact this
end

end K48
namespace K48
open PySem PySem.Spec PyProof.Rows L2 Nw
/-! _law_is_web: slots 0 _law_parts, 1 _law_bound, 2 _law_pairs_here, 3 _law_lists, 4 _law_word, 5 _law_one, 6 _law_row, 7 _law_bad, 8 _law_at -/
abbrev s_is_web : Stmt := topS 41
abbrev N_is_web : List Str := ["_law_parts", "_law_bound", "_law_pairs_here", "_law_lists", "_law_word", "_law_one", "_law_row", "_law_bad", "_law_at"]
abbrev P_is_web : List Str := ["_law_parts"]
theorem sc_is_web : FnScope N_is_web P_is_web (defScope s_is_web) := ⟨rfl, rfl, rfl, by decide +kernel, rfl, by decide +kernel, by decide +kernel⟩
theorem numW_nonneg {w : Str} {i : Int} (h : numW w = some i) : 0 ≤ i := by
  unfold numW at h
  split at h
  · cases h
  · split at h
    · cases h
    · obtain rfl := Option.some.inj h
      omega
theorem row_at {w sep : Str} {r : List Int} (h : numsW w sep = r.map some) : (Txt.split w sep).length = r.length ∧ ∀ (j : Nat) (k : Str), (Txt.split w sep)[j]? = some k → ∃ i, numW k = some i ∧ r[j]? = some i := by
  unfold numsW at h
  have hl := congrArg List.length h
  rw [List.length_map, List.length_map] at hl
  refine ⟨hl, fun j k hk => ?_⟩
  have := congrArg (fun l : List (Option Int) => l[j]?) h
  simp only [List.getElem?_map, hk, Option.map_some] at this
  cases hr : r[j]? with
  | none =>
    rw [hr] at this
    cases this
  | some i =>
    rw [hr] at this
    exact ⟨i, Option.some.inj this, rfl⟩
theorem row_pos {w sep : Str} {r : List Int} (h : numsW w sep = r.map some) : r ≠ [] ∧ ∀ x ∈ r, 0 ≤ x := by
  obtain ⟨h1, h2⟩ := row_at h
  have h3 := split_pos w sep
  refine ⟨fun e => ?_, fun x hx => ?_⟩
  · rw [e] at h1
    simp only [List.length_nil] at h1
    omega
  · obtain ⟨j, hj, rfl⟩ := List.getElem_of_mem hx
    obtain ⟨i, h4, h5⟩ := h2 j _ (List.getElem?_eq_getElem (by omega))
    rw [List.getElem?_eq_getElem hj] at h5
    rw [Option.some.inj h5]
    exact numW_nonneg h4
theorem allO_at {α β : Type} {f : α → Option β} {l : List α} {r : List β} (h : allO (l.map f) = some r) : l.length = r.length ∧ ∀ (j : Nat) (k : α), l[j]? = some k → ∃ p, r[j]? = some p ∧ f k = some p := by
  obtain ⟨h1, _⟩ := allO_inv h
  have hl := congrArg List.length h1
  rw [List.length_map, List.length_map] at hl
  refine ⟨hl, fun j k hk => ?_⟩
  have := congrArg (fun l : List (Option β) => l[j]?) h1
  simp only [List.getElem?_map, hk, Option.map_some] at this
  cases hr : r[j]? with
  | none =>
    rw [hr] at this
    cases this
  | some i =>
    rw [hr] at this
    exact ⟨i, rfl, Option.some.inj this⟩
def plW (p : Int × Int) : List Int := [p.1, p.2]
theorem partP_at {s : Str} {L : List (Int × Int)} (h : partP s = some L) (hs : s ≠ "-") : (Txt.split s " ").length = (L.map plW).length ∧ ∀ (j : Nat) (k : Str), (Txt.split s " ")[j]? = some k → ∃ r, (L.map plW)[j]? = some r ∧ numsW k ">" = r.map some := by
  unfold partP at h
  rw [if_neg hs] at h
  obtain ⟨h1, h2⟩ := allO_at h
  refine ⟨by rw [List.length_map]; exact h1, fun j k hk => ?_⟩
  obtain ⟨p, h3, h4⟩ := h2 j k hk
  exact ⟨plW p, by rw [List.getElem?_map, h3]; rfl, pairW_inv h4⟩
theorem partN_at {s : Str} {R : List (List Int)} (h : partN s = some R) (hs : s ≠ "-") : (Txt.split s " ").length = R.length ∧ ∀ (j : Nat) (k : Str), (Txt.split s " ")[j]? = some k → ∃ r, R[j]? = some r ∧ numsW k "," = r.map some := by
  unfold partN at h
  rw [if_neg hs] at h
  obtain ⟨h1, h2⟩ := allO_at h
  refine ⟨h1, fun j k hk => ?_⟩
  obtain ⟨p, h3, h4⟩ := h2 j k hk
  exact ⟨p, h3, (allO_inv h4).1⟩
theorem part_pos {rs : List (List Int)} {ws : List Str} {sep : Str} (h : ws.length = rs.length ∧ ∀ (j : Nat) (k : Str), ws[j]? = some k → ∃ r, rs[j]? = some r ∧ numsW k sep = r.map some) : ∀ r ∈ rs, r ≠ [] ∧ ∀ x ∈ r, 0 ≤ x := fun r hr => by
  obtain ⟨j, hj, rfl⟩ := List.getElem_of_mem hr
  obtain ⟨r', h1, h2⟩ := h.2 j _ (List.getElem?_eq_getElem (by omega))
  rw [List.getElem?_eq_getElem hj] at h1
  rw [Option.some.inj h1]
  exact row_pos h2
theorem partP_pos {s : Str} {L : List (Int × Int)} (h : partP s = some L) : ∀ r ∈ L.map plW, r ≠ [] ∧ ∀ x ∈ r, 0 ≤ x := by
  by_cases hs : s = "-"
  · unfold partP at h
    rw [if_pos hs] at h
    obtain rfl := Option.some.inj h
    intro r hr
    cases hr
  · exact part_pos (partP_at h hs)
theorem partN_pos {s : Str} {R : List (List Int)} (h : partN s = some R) : ∀ r ∈ R, r ≠ [] ∧ ∀ x ∈ r, 0 ≤ x := by
  by_cases hs : s = "-"
  · unfold partN at h
    rw [if_pos hs] at h
    obtain rfl := Option.some.inj h
    intro r hr
    cases hr
  · exact part_pos (partN_at h hs)
/-- the rows stand in their order -/
def rowOk (L : List (Int × Int)) (R : List (List Int)) : Nat → Prop
  | 0 => ascB ltPr L = true
  | j + 1 => ∀ r, R[j]? = some r → ascB ltIn r = true
theorem ok_of {n : Int} {L : List (Int × Int)} {R : List (List Int)} (h1 : 1 ≤ n) (h2 : n ≤ 20) (h3 : R.length ≤ 8) (hp : ∀ r ∈ L.map plW, r ≠ [] ∧ ∀ x ∈ r, 0 ≤ x) (hn : ∀ r ∈ R, r ≠ [] ∧ ∀ x ∈ r, 0 ≤ x)
    (hb : ∀ (j : Nat) (r : List Int), (L.map plW ++ R)[j]? = some r → ∀ y ∈ r, y < n) (ha : ∀ j, j < 1 + R.length → rowOk L R j) : (⟨n, L, R⟩ : Wb).Ok := by
  have hb' : ∀ r ∈ L.map plW ++ R, ∀ y ∈ r, y < n := fun r hr => by
    obtain ⟨j, hj, rfl⟩ := List.getElem_of_mem hr
    exact hb j _ (List.getElem?_eq_getElem hj)
  refine ⟨h1, h2, fun p hpm => ?_, ha 0 (by omega), h3, fun r hr => ?_⟩
  · have m : plW p ∈ L.map plW := List.mem_map_of_mem hpm
    have a := (hp _ m).2
    have b := hb' _ (List.mem_append_left _ m)
    exact ⟨⟨a p.1 (by simp [plW]), b p.1 (by simp [plW])⟩, a p.2 (by simp [plW]), b p.2 (by simp [plW])⟩
  · obtain ⟨j, hj, rfl⟩ := List.getElem_of_mem hr
    exact ⟨(hn _ hr).1, fun t ht => ⟨(hn _ hr).2 t ht, hb' _ (List.mem_append_right _ hr) t ht⟩, ha (j + 1) (by have : j < R.length := hj; omega) _ (List.getElem?_eq_getElem hj)⟩
theorem ok_row {n : Int} {L : List (Int × Int)} {R : List (List Int)} (h : (⟨n, L, R⟩ : Wb).Ok) : (∀ (j : Nat) (r : List Int), (L.map plW ++ R)[j]? = some r → ∀ y ∈ r, y < n) ∧ ∀ j, rowOk L R j := by
  refine ⟨fun j r hr y hy => ?_, fun j => ?_⟩
  · rcases List.mem_append.mp (List.mem_of_getElem? hr) with m | m
    · obtain ⟨p, hp, rfl⟩ := List.mem_map.mp m
      have := h.ps p hp
      simp only [plW, List.mem_cons, List.not_mem_nil, or_false] at hy
      rcases hy with rfl | rfl
      · exact this.1.2
      · exact this.2.2
    · exact ((h.ns r m).2.1 y hy).2
  · cases j with
    | zero => exact h.asc
    | succ j => exact fun r hr => (h.ns r (List.mem_of_getElem? hr)).2.2
theorem all_asc {α : Type} (lt : α → α → Bool) (l : List α) : ((List.range (l.length - 1)).all fun i => ascAt lt l i) = ascB lt l := by
  rw [← ascB_range, List.all_map]
  rfl
theorem at0 {a b c : V} : atI [a, b, c] 0 = some a := rfl
theorem at1 {a b c : V} : atI [a, b, c] 1 = some b := rfl
theorem at2 {a b c : V} : atI [a, b, c] 2 = some c := rfl
theorem split_key {Inv N : L2.St → Hp → Prop} {G : Prop} (h1 : (∀ σ H, Inv σ H → N σ H) → G) (h2 : ∀ σ H, Inv σ H → N σ H) : G := h1 h2
def sp_is_web (K : PySem.W.Frag) : Sp := fun vs H Q _ => ∃ (a : Addr) (s0 s1 s2 : Str) (n : Int) (L : List (Int × Int)) (R : List (List Int)), vs = [.ref a] ∧ H a = some (.lst [.str s0, .str s1, .str s2]) ∧ (s1.length ≤ 90000 ∧ s2.length ≤ 90000) ∧
  numW s0 = some n ∧ partP s1 = some L ∧ partN s2 = some R ∧ ((⟨n, L, R⟩ : Wb).Ok → ∀ H', Ex H H' → Q (.bl true) H') ∧ (¬ (⟨n, L, R⟩ : Wb).Ok → ∀ H', Ex H H' → Q (.bl false) H')
section
variable {P : Program} {w : World} {K : PySem.W.Frag} {mg : Str → Option Value} {base : Heap}
theorem ok_is_web {f : Addr} {fd : FuncData} (T : Txt K mg) (F : Fun K "_law_is_web" "_law_is_web" s_is_web f fd) :
    FnG P w K mg base CX0 1 f fd P_is_web (sp_is_web K) := by
  refine okG0 F sc_is_web (fun vs H Q E h => ?_) (fun cdv A outer s H vs Q E hr hq h => ?_)
  · obtain ⟨a, _, _, _, _, _, _, rfl, _⟩ := h
    rfl
  · obtain ⟨a, s0, s1, s2, n, L, R, rfl, ha, ⟨hl1, hl2⟩, hn, hL, hR, qy, qn⟩ := h
    have nI := numW_int hn
    have ps := partP_pos hL
    have ns := partN_pos hR
    have wf1 := words_few (w := s1) (sep := " ") (by decide)
    have wf2 := words_few (w := s2) (sep := " ") (by decide)
    refine ⟨_, (pss_cons (ps_set (i := 1) sc_is_web.nd rfl (by first | exact .inl rfl | exact .inr rfl) (pe_callTy call_int_str (by rfl) T.b_int bt_int (pa_cons (pe_ix (ix_listK K) (pv 0) pe_int (fun _ _ => rfl)) pa_nil)))
      (pss_cons (ps_par (i := 2) (j := 3) (by rfl) sc_is_web.nd rfl rfl (by decide) rfl rfl (pa_cons (pe_lst pa_nil) (pa_cons (pe_lst pa_nil) pa_nil)) (by rfl))
      (pss_cons (ps_if (pt_cmpR op_ne (pe_ix (ix_listK K) (pv 0) pe_int (fun _ _ => rfl)) pe_str (nomark _)) (pss_one (ps_for PassesOwn.never rfl (pi_listK K (pe_split (pe_ix (ix_listK K) (pv 0) pe_int (fun _ _ => rfl)) pe_str)) (pg_name (i := 4) sc_is_web.nd rfl (by first | exact .inl rfl | exact .inr rfl)) (pss_one (ps_expr (pe_bm PySem.F.plainAttrs_list PySem.F.slot_list_append PySem.F.type_list_append mt_append (pv 2) (pa_cons (pe_lc (own := [("_law_one", 5)]) rfl sc_is_web.nd (pi_listK K (pe_split (pv 4) pe_str)) (blkOk_by (N := N_is_web) (sc := defScope s_is_web) (by decide +kernel)) (fun _ _ _ _ _ => (pg_name (i := 5) sc_is_web.nd rfl (by first | exact .inl rfl | exact .inr rfl))) (fun _ _ _ _ _ => pts_nil) (fun _ _ _ _ _ => (pe_callTy call_int_str (by rfl) T.b_int bt_int (pa_cons (pv 5) pa_nil)))) pa_nil)))))) pss_nil)
      (pss_cons (ps_if (pt_cmpR op_ne (pe_ix (ix_listK K) (pv 0) pe_int (fun _ _ => rfl)) pe_str (nomark _)) (pss_one (ps_for PassesOwn.never rfl (pi_listK K (pe_split (pe_ix (ix_listK K) (pv 0) pe_int (fun _ _ => rfl)) pe_str)) (pg_name (i := 4) sc_is_web.nd rfl (by first | exact .inl rfl | exact .inr rfl)) (pss_one (ps_expr (pe_bm PySem.F.plainAttrs_list PySem.F.slot_list_append PySem.F.type_list_append mt_append (pv 3) (pa_cons (pe_lc (own := [("_law_one", 5)]) rfl sc_is_web.nd (pi_listK K (pe_split (pv 4) pe_str)) (blkOk_by (N := N_is_web) (sc := defScope s_is_web) (by decide +kernel)) (fun _ _ _ _ _ => (pg_name (i := 5) sc_is_web.nd rfl (by first | exact .inl rfl | exact .inr rfl))) (fun _ _ _ _ _ => pts_nil) (fun _ _ _ _ _ => (pe_callTy call_int_str (by rfl) T.b_int bt_int (pa_cons (pv 5) pa_nil)))) pa_nil)))))) pss_nil)
      (pss_cons (ps_if (PW.pt (pw_or (pt_not (pt_chain op_le op_le pe_int (pv 1) pe_int)) (pw_or1 (pt_cmpR op_gt (pe_callB (call_lenK K) (by rfl) T.b_len bt_len (pa_cons (pv 3) pa_nil)) pe_int (nomark _))))) (pss_one (ps_ret pe_bl)) pss_nil)
      (pss_cons (ps_for PassesOwn.never rfl (pi_listK K (pe_op (op_catS K) (pv 2) (pv 3))) (pg_name (i := 6) sc_is_web.nd rfl (by first | exact .inl rfl | exact .inr rfl)) (pss_one (ps_if (pt_cmpR op_ge (pe_callB (cr_maxK K rfl) (by rfl) T.b_max bt_max (pa_cons (pv 6) pa_nil)) (pv 1) (nomark _)) (pss_one (ps_ret pe_bl)) pss_nil)))
      (pss_cons (ps_for PassesOwn.never rfl (pi_listK K (pe_op (op_catS K) (pe_lst (pa_cons (pv 2) pa_nil)) (pv 3))) (pg_name (i := 6) sc_is_web.nd rfl (by first | exact .inl rfl | exact .inr rfl)) (pss_cons (ps_setLc (i := 7) (own := [("_law_at", 8)]) rfl sc_is_web.nd rfl rfl (sw_true rfl rfl rfl (by decide +kernel)) (pi_range1 (by rfl) T.b_range (pa_cons (pe_op op_sub (pe_callB (call_lenK K) (by rfl) T.b_len bt_len (pa_cons (pv 6) pa_nil)) pe_int) pa_nil)) (blkOk_by (N := N_is_web) (sc := defScope s_is_web) (by decide +kernel)) (fun _ _ _ _ _ => (pg_name (i := 8) sc_is_web.nd rfl (by first | exact .inl rfl | exact .inr rfl))) (fun _ _ _ _ _ => (pts_one (pt_cmpR (op_geA K hr.units0) (pe_ix (ix_listK K) (pv 6) (pv 8) (fun _ _ => rfl)) (pe_ix (ix_listK K) (pv 6) (pe_op op_add (pv 8) pe_int) (fun _ _ => rfl)) (nomark _)))) (fun _ _ _ _ _ => (pv 8)))
      (pss_one (ps_if (pt_cmpR (op_neNil K hr) (pv 7) (pe_lst pa_nil) (nomark _)) (pss_one (ps_ret pe_bl)) pss_nil))))
      (pss_one (ps_ret pe_bl))))))))), ?_⟩
    refine ⟨_, rfl, a, _, 0, _, rfl, rfl, .inl (.inl ha), at0, s0, n, rfl, nI.1, by omega, ?_⟩
    refine ⟨Nat.zero_le _, fun A hA => ⟨Nat.zero_le _, fun B hB => ?_⟩⟩
    have eA : Ex H (upd H A (.lst [])) := Ex.nw hA
    have fA : (upd H A (.lst [])) A = some (.lst []) := upd_same
    generalize upd H A (.lst []) = HA at eA fA hB
    have AB : A ≠ B := fun e => by
      rw [e, hB] at fA
      cases fA
    have eB : Ex HA (upd HA B (.lst [])) := Ex.nw hB
    have fB : (upd HA B (.lst [])) B = some (.lst []) := upd_same
    generalize upd HA B (.lst []) = HB at eB fB
    replace fA := eB _ _ fA
    have e0 := eA.tr eB
    have aA : H A = none := hA
    have aB : H B = none := eA.fr hB
    have nA : HB A ≠ none := by
      rw [fA]
      exact fun z => nomatch z
    have nB : HB B ≠ none := by
      rw [fB]
      exact fun z => nomatch z
    have Aa : A ≠ a := fun e => by
      rw [e, ha] at aA
      cases aA
    have Ba : B ≠ a := fun e => by
      rw [e, ha] at aB
      cases aB
    have stay : ∀ {H1 H2 : Hp}, (∀ x, HB x ≠ none → H1 x ≠ none) → Ex H1 H2 → ∀ x, HB x ≠ none → H2 x ≠ none := fun h e x hx => by
      cases z : (_ : Hp) x with
      | none => exact absurd z (h x hx)
      | some o =>
        rw [e _ _ z]
        exact fun z => nomatch z
    have fresh : ∀ {H1 : Hp}, (∀ x, HB x ≠ none → H1 x ≠ none) → ∀ {x : Addr}, H1 x = none → HB x = none := fun h x hx => by
      cases z : HB x with
      | none => rfl
      | some o => exact absurd hx (h x (by rw [z]; exact fun z => nomatch z))
    have stayU : ∀ {H1 : Hp} {p : Addr} {o : HO}, (∀ x, HB x ≠ none → H1 x ≠ none) → ∀ x, HB x ≠ none → (upd H1 p o) x ≠ none := fun h x hx => by
      intro z
      exact h x hx (none_upd z)
    -- part 1
    apply split_key (Inv := fun (σ' : L2.St) (H' : Hp) => ∃ y4, σ' = [some (V.ref a), some (V.int n), some (V.ref A), some (V.ref B), y4, none, none, none, none] ∧ Ex H H' ∧ (∀ x, HB x ≠ none → H' x ≠ none) ∧ (∃ xs, H' A = some (.lst xs) ∧ DaAll K (newH HB H') ((L.map plW).map dInts) xs) ∧ H' B = some (.lst []))
    · intro key
      refine ⟨_, _, rfl, _, rfl, a, _, 1, _, rfl, rfl, .inl (.inl (e0 _ _ ha)), at1, rfl, _, rfl, ite2 (fun h => ?_) (fun h => ?_)⟩
      · have hs : s1 ≠ "-" := fun z => by
          rw [z] at h
          simp at h
        obtain ⟨hlen, hat⟩ := partP_at hL hs
        refine ⟨_, rfl, a, _, 1, _, rfl, rfl, .inl (.inl (e0 _ _ ha)), at1, ⟨_, rfl⟩, _, _, rfl, rfl, by decide +kernel, le_line (by omega), fun S hS => ?_⟩
        have eS : Ex HB (upd HB S (.lst ((Txt.split s1 " ").map V.str))) := Ex.nw hS
        have fS : (upd HB S (.lst ((Txt.split s1 " ").map V.str))) S = some (.lst ((Txt.split s1 " ").map V.str)) := upd_same
        have SX : S ≠ A := fun e => by
          rw [e, fA] at hS
          cases hS
        generalize upd HB S (.lst ((Txt.split s1 " ").map V.str)) = HS at eS fS
        refine ⟨S, rfl, ⟨_, .inl (.inl fS)⟩, ?_⟩
        refine for_by ((Txt.split s1 " ").map V.str).length (fun i σ' H' => ∃ y4, σ' = [some (V.ref a), some (V.int n), some (V.ref A), some (V.ref B), y4, none, none, none, none] ∧ Ex H H' ∧ (∀ x, HB x ≠ none → H' x ≠ none) ∧ H' S = some (.lst ((Txt.split s1 " ").map V.str)) ∧ (∃ xs, H' A = some (.lst xs) ∧ DaAll K (newH HB H') (((L.map plW).take i).map dInts) xs) ∧ H' B = some (.lst []))
          ⟨_, rfl, e0.tr eS, stay (fun x h => h) eS, fS, ⟨[], eS _ _ fA, rfl⟩, eS _ _ fB⟩ (fun i σ H' hi pv => ?_) (fun σ H' pv => ?_) ?_ ?_
        · obtain ⟨_, _, _, _, hS', _⟩ := pv
          exact itl_go (.inl (.inl hS')) Ex.rfl hi
        · obtain ⟨_, _, _, _, hS', _⟩ := pv
          exact itl_stop (.inl (.inl hS')) Ex.rfl
        · rintro i σ H2 x H3 hi ⟨y4, rfl, e2, n2, hS2, ⟨xs, hX2, hD2⟩, oth⟩ y
          obtain ⟨rfl, hx⟩ := itl_yld y (.inl (.inl hS2)) Ex.rfl
          obtain ⟨k, hk, rfl⟩ := map_at hx
          have hkl := word_len (w := s1) (sep := " ") (by decide) (List.mem_of_getElem? hk)
          have hkf := words_few (w := k) (sep := ">") (by decide)
          obtain ⟨r, hr1, hr2⟩ := hat i k hk
          obtain ⟨hrl, hra⟩ := row_at hr2
          have l3 := hD2.len
          rw [List.length_map, List.length_take] at l3
          refine ⟨_, rfl, .inl ⟨rfl, _, .inl (.inl hX2)⟩, _, rfl, ⟨_, rfl⟩, _, _, rfl, rfl, by decide +kernel, le_line (by omega), fun N hN => ?_⟩
          have e4 : Ex H3 (upd H3 N (.lst ((Txt.split k ">").map V.str))) := Ex.nw hN
          have f4 : (upd H3 N (.lst ((Txt.split k ">").map V.str))) N = some (.lst ((Txt.split k ">").map V.str)) := upd_same
          generalize upd H3 N (.lst ((Txt.split k ">").map V.str)) = H5 at e4 f4
          have sN : SqL K H5 N ((Txt.split k ">").map V.str) := .inl (.inl f4)
          refine ⟨N, rfl, ⟨_, sN⟩, fun D hD => ?_⟩
          refine lc_by ((Txt.split k ">").map V.str).length (fun j H' => Ex H5 H' ∧ H' D = some (.lst ((r.take j).map V.int)))
            ⟨Ex.nw hD, upd_same⟩ (fun j H' hj p => itl_go sN p.1 hj) (fun H' p => itl_stop sN p.1) ?_ ?_
          · rintro j H6 x H7 hj ⟨e6, hD6⟩ y
            obtain ⟨rfl, hx⟩ := itl_yld y sN e6
            obtain ⟨w1, hw, rfl⟩ := map_at hx
            obtain ⟨v1, hv, hrj⟩ := hra j w1 hw
            rw [List.length_map] at hj
            have nv := numW_int hv
            rw [take_snoc hrj, List.map_append]
            refine ⟨rfl, _, rfl, w1, v1, rfl, nv.1, by omega, _, hD6, mil' ?_, e6.wr hD, upd_same⟩
            rw [List.length_map, List.length_take]
            omega
          · rintro H6 ⟨e6, hD6⟩
            rw [List.length_map, hrl, List.take_length] at hD6
            have e36 := e4.tr e6
            have n6 := stay n2 e36
            have hX6 := e36 _ _ hX2
            refine ⟨A, _, _, rfl, rfl, hX6, mil' (by omega), _, rfl, (e2.tr e36).wr aA, stayU n6, by rw [upd_ne SX]; exact e36 _ _ hS2, ⟨_, upd_same, ?_⟩, ?_⟩
            · rw [newH.wr nA, take_snoc hr1, List.map_append]
              exact (hD2.up (newH.up e36)).app ⟨_, _, rfl, ⟨D, _, rfl, (newH.at_ (fresh (stay n2 e4) hD)).trans hD6, DaAll.ints.mpr rfl, by rw [List.length_map]; omega⟩, rfl⟩
            · rw [upd_ne AB.symm]
              exact e36 _ _ oth
        · rintro σ H2 ⟨y4, hσ, e2, n2, hS2, ⟨xs, hX2, hD2⟩, oth⟩
          rw [List.length_map, hlen, List.take_length] at hD2
          exact key σ H2 ⟨y4, hσ, e2, n2, ⟨xs, hX2, hD2⟩, oth⟩
      · have hs : s1 = "-" := by
          simpa using h
        have hz : L = [] := by
          unfold partP at hL
          rw [if_pos hs] at hL
          exact (Option.some.inj hL).symm
        exact key _ _ ⟨_, rfl, e0, (fun x h => h), ⟨[], fA, by rw [hz]; rfl⟩, fB⟩

    rintro σ1 H1 ⟨y4, rfl, es1, n1, oth1, fB1⟩
    -- part 2
    apply split_key (Inv := fun (σ' : L2.St) (H' : Hp) => ∃ y4, σ' = [some (V.ref a), some (V.int n), some (V.ref A), some (V.ref B), y4, none, none, none, none] ∧ Ex H H' ∧ (∀ x, HB x ≠ none → H' x ≠ none) ∧ (∃ xs, H' A = some (.lst xs) ∧ DaAll K (newH HB H') ((L.map plW).map dInts) xs) ∧ (∃ ys, H' B = some (.lst ys) ∧ DaAll K (newH HB H') (R.map dInts) ys))
    · intro key
      refine ⟨_, rfl, a, _, 2, _, rfl, rfl, .inl (.inl (es1 _ _ ha)), at2, rfl, _, rfl, ite2 (fun h => ?_) (fun h => ?_)⟩
      · have hs : s2 ≠ "-" := fun z => by
          rw [z] at h
          simp at h
        obtain ⟨hlen, hat⟩ := partN_at hR hs
        refine ⟨_, rfl, a, _, 2, _, rfl, rfl, .inl (.inl (es1 _ _ ha)), at2, ⟨_, rfl⟩, _, _, rfl, rfl, by decide +kernel, le_line (by omega), fun S hS => ?_⟩
        have eS : Ex H1 (upd H1 S (.lst ((Txt.split s2 " ").map V.str))) := Ex.nw hS
        have fS : (upd H1 S (.lst ((Txt.split s2 " ").map V.str))) S = some (.lst ((Txt.split s2 " ").map V.str)) := upd_same
        have SX : S ≠ B := fun e => by
          rw [e, fB1] at hS
          cases hS
        generalize upd H1 S (.lst ((Txt.split s2 " ").map V.str)) = HS at eS fS
        refine ⟨S, rfl, ⟨_, .inl (.inl fS)⟩, ?_⟩
        refine for_by ((Txt.split s2 " ").map V.str).length (fun i σ' H' => ∃ y4, σ' = [some (V.ref a), some (V.int n), some (V.ref A), some (V.ref B), y4, none, none, none, none] ∧ Ex H H' ∧ (∀ x, HB x ≠ none → H' x ≠ none) ∧ H' S = some (.lst ((Txt.split s2 " ").map V.str)) ∧ (∃ ys, H' B = some (.lst ys) ∧ DaAll K (newH HB H') ((R.take i).map dInts) ys) ∧ (∃ xs, H' A = some (.lst xs) ∧ DaAll K (newH HB H') ((L.map plW).map dInts) xs))
          ⟨_, rfl, es1.tr eS, stay n1 eS, fS, ⟨[], eS _ _ fB1, rfl⟩, ?_⟩ (fun i σ H' hi pv => ?_) (fun σ H' pv => ?_) ?_ ?_
        · obtain ⟨xs, h1, h2⟩ := oth1
          exact ⟨xs, eS _ _ h1, h2.up (newH.up eS)⟩
        · obtain ⟨_, _, _, _, hS', _⟩ := pv
          exact itl_go (.inl (.inl hS')) Ex.rfl hi
        · obtain ⟨_, _, _, _, hS', _⟩ := pv
          exact itl_stop (.inl (.inl hS')) Ex.rfl
        · rintro i σ H2 x H3 hi ⟨y4, rfl, e2, n2, hS2, ⟨xs, hX2, hD2⟩, oth⟩ y
          obtain ⟨rfl, hx⟩ := itl_yld y (.inl (.inl hS2)) Ex.rfl
          obtain ⟨k, hk, rfl⟩ := map_at hx
          have hkl := word_len (w := s2) (sep := " ") (by decide) (List.mem_of_getElem? hk)
          have hkf := words_few (w := k) (sep := ",") (by decide)
          obtain ⟨r, hr1, hr2⟩ := hat i k hk
          obtain ⟨hrl, hra⟩ := row_at hr2
          have l3 := hD2.len
          rw [List.length_map, List.length_take] at l3
          refine ⟨_, rfl, .inl ⟨rfl, _, .inl (.inl hX2)⟩, _, rfl, ⟨_, rfl⟩, _, _, rfl, rfl, by decide +kernel, le_line (by omega), fun N hN => ?_⟩
          have e4 : Ex H3 (upd H3 N (.lst ((Txt.split k ",").map V.str))) := Ex.nw hN
          have f4 : (upd H3 N (.lst ((Txt.split k ",").map V.str))) N = some (.lst ((Txt.split k ",").map V.str)) := upd_same
          generalize upd H3 N (.lst ((Txt.split k ",").map V.str)) = H5 at e4 f4
          have sN : SqL K H5 N ((Txt.split k ",").map V.str) := .inl (.inl f4)
          refine ⟨N, rfl, ⟨_, sN⟩, fun D hD => ?_⟩
          refine lc_by ((Txt.split k ",").map V.str).length (fun j H' => Ex H5 H' ∧ H' D = some (.lst ((r.take j).map V.int)))
            ⟨Ex.nw hD, upd_same⟩ (fun j H' hj p => itl_go sN p.1 hj) (fun H' p => itl_stop sN p.1) ?_ ?_
          · rintro j H6 x H7 hj ⟨e6, hD6⟩ y
            obtain ⟨rfl, hx⟩ := itl_yld y sN e6
            obtain ⟨w1, hw, rfl⟩ := map_at hx
            obtain ⟨v1, hv, hrj⟩ := hra j w1 hw
            rw [List.length_map] at hj
            have nv := numW_int hv
            rw [take_snoc hrj, List.map_append]
            refine ⟨rfl, _, rfl, w1, v1, rfl, nv.1, by omega, _, hD6, mil' ?_, e6.wr hD, upd_same⟩
            rw [List.length_map, List.length_take]
            omega
          · rintro H6 ⟨e6, hD6⟩
            rw [List.length_map, hrl, List.take_length] at hD6
            have e36 := e4.tr e6
            have n6 := stay n2 e36
            have hX6 := e36 _ _ hX2
            refine ⟨B, _, _, rfl, rfl, hX6, mil' (by omega), _, rfl, (e2.tr e36).wr aB, stayU n6, by rw [upd_ne SX]; exact e36 _ _ hS2, ⟨_, upd_same, ?_⟩, ?_⟩
            · rw [newH.wr nB, take_snoc hr1, List.map_append]
              exact (hD2.up (newH.up e36)).app ⟨_, _, rfl, ⟨D, _, rfl, (newH.at_ (fresh (stay n2 e4) hD)).trans hD6, DaAll.ints.mpr rfl, by rw [List.length_map]; omega⟩, rfl⟩
            · obtain ⟨zs, h1, h2⟩ := oth
              refine ⟨zs, by rw [upd_ne AB]; exact e36 _ _ h1, ?_⟩
              rw [newH.wr nB]
              exact h2.up (newH.up e36)
        · rintro σ H2 ⟨y4, hσ, e2, n2, hS2, ⟨xs, hX2, hD2⟩, oth⟩
          rw [List.length_map, hlen, List.take_length] at hD2
          exact key σ H2 ⟨y4, hσ, e2, n2, oth, ⟨xs, hX2, hD2⟩⟩
      · have hs : s2 = "-" := by
          simpa using h
        have hz : R = [] := by
          unfold partN at hR
          rw [if_pos hs] at hR
          exact (Option.some.inj hR).symm
        exact key _ _ ⟨_, rfl, es1, n1, oth1, ⟨[], fB1, by rw [hz]; rfl⟩⟩

    rintro σ1 H2 ⟨y5, rfl, es2, n2, ⟨xs, hA2, hxs⟩, ⟨ys, hB2, hys⟩⟩
    have hLl : L.length ≤ 90001 := by
      by_cases hs : s1 = "-"
      · unfold partP at hL
        rw [if_pos hs] at hL
        obtain rfl := Option.some.inj hL
        exact Nat.zero_le _
      · have := (partP_at hL hs).1
        rw [List.length_map] at this
        omega
    have hRl : R.length ≤ 90001 := by
      by_cases hs : s2 = "-"
      · unfold partN at hR
        rw [if_pos hs] at hR
        obtain rfl := Option.some.inj hR
        exact Nat.zero_le _
      · have := (partN_at hR hs).1
        omega
    have hxl := hxs.len
    rw [List.length_map, List.length_map] at hxl
    have hyl := hys.len
    rw [List.length_map] at hyl
    have no3 : ¬ (1 ≤ n) ∨ ¬ (n ≤ 20) ∨ ¬ (R.length ≤ 8) → ∀ H', Ex H H' → Q (.bl false) H' := fun h => qn fun ok => by
      rcases h with h | h | h
      · exact h ok.lo
      · exact h ok.hi
      · exact h ok.few
    refine ⟨_, rfl, _, _, rfl, rfl, _, rfl, ?_⟩
    refine ite2 (fun h1 => ?_) (fun h1 => ⟨_, rfl, ite2 (fun h2 => no3 (.inl (by simpa using h1)) H2 es2) (fun h2 => absurd rfl h2)⟩)
    refine ⟨_, _, rfl, rfl, _, rfl, ite2 (fun h2 => no3 (.inr (.inl (by simpa using h2))) H2 es2) (fun h2 => ?_)⟩
    refine ⟨_, rfl, B, _, rfl, .inl (.inl (.inl hB2)), _, _, rfl, rfl, _, rfl, ite2 (fun h3 => no3 (.inr (.inr ?_)) H2 es2) (fun h3 => ?_)⟩
    · have : (8 : Int) < (ys.length : Int) := by simpa using h3
      omega
    have l1 : 1 ≤ n := by simpa using h1
    have l2 : n ≤ 20 := by
      have : ¬ ¬ n ≤ 20 := by simpa using h2
      omega
    have l3 : R.length ≤ 8 := by
      have : ¬ ((8 : Int) < (ys.length : Int)) := by simpa using h3
      omega
    refine ⟨_, rfl, _, rfl, A, B, xs, ys, rfl, rfl, .inl (.inl hA2), .inl (.inl hB2), by omega, fun C hC => ?_⟩
    have eC : Ex H2 (upd H2 C (.lst (xs ++ ys))) := Ex.nw hC
    have fC : (upd H2 C (.lst (xs ++ ys))) C = some (.lst (xs ++ ys)) := upd_same
    generalize upd H2 C (.lst (xs ++ ys)) = H3 at eC fC
    have dX : DaAll K H3 ((L.map plW).map dInts) xs := (hxs.up newH.sub).up eC
    have dY : DaAll K H3 (R.map dInts) ys := (hys.up newH.sub).up eC
    have dAll : DaAll K H3 ((L.map plW ++ R).map dInts) (xs ++ ys) := by
      rw [List.map_append]
      exact dX.app dY
    have rp : ∀ (j : Nat) (r : List Int), (L.map plW ++ R)[j]? = some r → r ≠ [] := fun j r hr => by
      rcases List.mem_append.mp (List.mem_of_getElem? hr) with m | m
      · exact (ps r m).1
      · exact (ns r m).1
    refine ⟨C, rfl, ⟨_, .inl (.inl fC)⟩, ?_⟩
    refine for_by (xs ++ ys).length (fun i σ' H' => ∃ y6, σ' = [some (V.ref a), some (V.int n), some (V.ref A), some (V.ref B), y5, none, y6, none, none] ∧ Ex H3 H' ∧ ∀ (j : Nat) (r : List Int), j < i → (L.map plW ++ R)[j]? = some r → ∀ y ∈ r, y < n)
      ⟨_, rfl, Ex.rfl, fun j r hj => absurd hj (Nat.not_lt_zero _)⟩ (fun i σ H' hi pv => ?_) (fun σ H' pv => ?_) ?_ ?_
    · obtain ⟨_, _, e, _⟩ := pv
      exact itl_go (.inl (.inl fC)) e hi
    · obtain ⟨_, _, e, _⟩ := pv
      exact itl_stop (.inl (.inl fC)) e
    · rintro i σ H4 x H5 hi ⟨y6, rfl, e4, hb⟩ yy
      obtain ⟨rfl, hx⟩ := itl_yld yy (.inl (.inl fC)) e4
      obtain ⟨d, hd, hdx⟩ := dAll.at' hx
      obtain ⟨r, hr1, rfl⟩ := map_at hd
      obtain ⟨b, zs, rfl, hb1, hbA, _⟩ := hdx.up e4
      obtain rfl := DaAll.ints.mp hbA
      refine ⟨_, rfl, b, r, rfl, .inl (.inl hb1), List.length_pos_iff.mpr (rp i r hr1), fun m hm hmax => ?_⟩
      refine ⟨_, rfl, _, _, rfl, rfl, _, rfl, ite2 (fun h => ?_) (fun h => ?_)⟩
      · have hmn : n ≤ m := by simpa using h
        refine qn (fun ok => ?_) _ (es2.tr (eC.tr e4))
        have := (ok_row ok).1 i r hr1 m hm
        omega
      · have hmn : ¬ n ≤ m := by simpa using h
        refine ⟨_, rfl, e4, fun j r' hj hr' t ht => ?_⟩
        by_cases hji : j < i
        · exact hb j r' hji hr' t ht
        · obtain rfl : j = i := by omega
          rw [hr1] at hr'
          obtain rfl := Option.some.inj hr'
          have := hmax t ht
          omega
    rintro σ H4 ⟨y6, rfl, e4, hb⟩
    have hA4 := (eC.tr e4) _ _ hA2
    have hB4 := (eC.tr e4) _ _ hB2
    refine ⟨_, rfl, le_line (by show 1 ≤ 1000000; decide), fun D1 hD1 => ?_⟩
    have eD : Ex H4 (upd H4 D1 (.lst [.ref A])) := Ex.nw hD1
    have fD : (upd H4 D1 (.lst [.ref A])) D1 = some (.lst [.ref A]) := upd_same
    generalize upd H4 D1 (.lst [.ref A]) = H5 at eD fD
    refine ⟨_, rfl, D1, B, [.ref A], ys, rfl, rfl, .inl (.inl fD), .inl (.inl (eD _ _ hB4)), by show 1 + ys.length ≤ 1000000; omega, fun C2 hC2 => ?_⟩
    have eE : Ex H5 (upd H5 C2 (.lst ([.ref A] ++ ys))) := Ex.nw hC2
    have fE : (upd H5 C2 (.lst ([.ref A] ++ ys))) C2 = some (.lst ([.ref A] ++ ys)) := upd_same
    generalize upd H5 C2 (.lst ([.ref A] ++ ys)) = H6 at eE fE
    have e36 := e4.tr (eD.tr eE)
    have hA6 := (eD.tr eE) _ _ hA4
    refine ⟨C2, rfl, ⟨_, .inl (.inl fE)⟩, ?_⟩
    refine for_by ([V.ref A] ++ ys).length (fun i σ' H' => ∃ y6 y7, σ' = [some (V.ref a), some (V.int n), some (V.ref A), some (V.ref B), y5, none, y6, y7, none] ∧ Ex H6 H' ∧ ∀ j, j < i → rowOk L R j)
      ⟨_, _, rfl, Ex.rfl, fun j hj => absurd hj (Nat.not_lt_zero _)⟩ (fun i σ H' hi pv => ?_) (fun σ H' pv => ?_) ?_ ?_
    · obtain ⟨_, _, _, e, _⟩ := pv
      exact itl_go (.inl (.inl fE)) e hi
    · obtain ⟨_, _, _, e, _⟩ := pv
      exact itl_stop (.inl (.inl fE)) e
    · rintro i σ H7 x H8 hi ⟨y6, y7, rfl, e7, hok⟩ y
      obtain ⟨rfl, hx⟩ := itl_yld y (.inl (.inl fE)) e7
      have e37 := e36.tr e7
      have facts : ∃ (b : Addr) (zs : List V) (g : Nat → Bool), x = .ref b ∧ H8 b = some (.lst zs) ∧ zs.length ≤ 100000 ∧
          (∀ (H' : Hp) (Q' : VK) (j : Nat) (x y : V), Ex H8 H' → zs[j]? = some x → zs[j + 1]? = some y → Q' (.bl (!g j)) H' → rGeA K x y H' Q') ∧ ((List.range (zs.length - 1)).all g = true ↔ rowOk L R i) := by
        cases i with
        | zero =>
          obtain rfl : V.ref A = x := Option.some.inj hx
          refine ⟨A, xs, ascAt ltPr L, rfl, e7 _ _ hA6, by omega, fun H' Q' j x y e hx hy q' => ?_, ?_⟩
          · obtain ⟨d, hd, hdx⟩ := ((dX.up e37).up e).at' hx
            obtain ⟨r, hr1, rfl⟩ := map_at hd
            obtain ⟨p, hp1, rfl⟩ := map_at hr1
            obtain ⟨b1, zs, rfl, hb1, hbA, _⟩ := hdx
            obtain rfl := DaAll.ints.mp hbA
            obtain ⟨d2, hd2, hdy⟩ := ((dX.up e37).up e).at' hy
            obtain ⟨r2, hr2, rfl⟩ := map_at hd2
            obtain ⟨p2, hp2, rfl⟩ := map_at hr2
            obtain ⟨b2, zs2, rfl, hb2, hbB, _⟩ := hdy
            obtain rfl := DaAll.ints.mp hbB
            refine .inr ⟨b1, b2, p, p2, rfl, rfl, .inl (.inl hb1), .inl (.inl hb2), ?_⟩
            have : ascAt ltPr L j = ltPr p p2 := by
              unfold ascAt
              rw [hp1, hp2]
            rw [this] at q'
            exact q'
          · rw [← hxl, all_asc]
            exact Iff.rfl
        | succ i =>
          have hx' : ys[i]? = some x := by
            rw [List.getElem?_append_right (by show 1 ≤ i + 1; omega)] at hx
            exact hx
          obtain ⟨d, hd, hdx⟩ := (dY.up e37).at' hx'
          obtain ⟨r, hr1, rfl⟩ := map_at hd
          obtain ⟨b1, zs, rfl, hb1, hbA, hz⟩ := hdx
          obtain rfl := DaAll.ints.mp hbA
          rw [List.length_map] at hz
          refine ⟨b1, _, ascAt ltIn r, rfl, hb1, by rw [List.length_map]; exact hz, fun H' Q' j x y e hx hy q' => ?_, ?_⟩
          · obtain ⟨i1, h1, rfl⟩ := map_at hx
            obtain ⟨i2, h2, rfl⟩ := map_at hy
            refine .inl ⟨i1, i2, rfl, rfl, ?_⟩
            have : (!ascAt ltIn r j) = decide (i2 ≤ i1) := by
              unfold ascAt
              rw [h1, h2]
              show (!decide (i1 < i2)) = decide (i2 ≤ i1)
              rw [Bool.eq_iff_iff]
              simp
            rw [this] at q'
            exact q'
          · rw [List.length_map, all_asc]
            exact ⟨fun h r' hr' => by
              rw [hr1] at hr'
              obtain rfl := Option.some.inj hr'
              exact h, fun h => h r hr1⟩
      obtain ⟨b, zs, g, rfl, hb8, hzl, cmp, hiff⟩ := facts
      refine ⟨_, rfl, b, zs, rfl, .inl (.inl (.inl hb8)), _, _, rfl, rfl, _, rfl, by omega, by omega, fun D hD => ?_⟩
      refine lc_by ((zs.length : Int) - 1).toNat (fun j H' => Ex H8 H' ∧ ∃ acc, H' D = some (.lst acc) ∧ acc.length ≤ j ∧ acc.isEmpty = ((List.range j).all g))
        ⟨Ex.nw hD, [], upd_same, Nat.le_refl _, rfl⟩ (fun j H' hj p => hj) (fun H' p => Nat.le_refl _) ?_ ?_
      · rintro j H9 z H10 hj ⟨e9, acc, hD9, hal, hae⟩ ⟨rfl, rfl⟩
        have hb9 : SqL K H10 b zs := .inl (.inl (e9 _ _ hb8))
        have hz1 : zs[j]? = some zs[j] := List.getElem?_eq_getElem (by omega)
        have hz2 : zs[j + 1]? = some zs[j + 1] := List.getElem?_eq_getElem (by omega)
        have as : (List.range (j + 1)).all g = ((List.range j).all g && g j) := by
          rw [List.range_succ, List.all_append, List.all_cons, List.all_nil, Bool.and_true]
        refine ⟨rfl, _, rfl, _, rfl, b, zs, _, zs[j], rfl, rfl, hb9, atI_int (by omega) (by rw [show (0 + (j : Int)).toNat = j by omega]; exact hz1), ?_⟩
        refine ⟨_, rfl, _, rfl, _, _, rfl, rfl, b, zs, _, zs[j + 1], rfl, rfl, hb9, atI_int (by omega) (by rw [show (0 + (j : Int) + 1).toNat = j + 1 by omega]; exact hz2), ?_⟩
        refine cmp _ _ j _ _ e9 hz1 hz2 ⟨_, rfl, ite2 (fun h => ?_) (fun h => ?_)⟩
        · have hg : g j = false := by simpa using h
          refine ⟨_, rfl, acc, hD9, mil' (by omega), e9.wr hD, _, upd_same, by rw [List.length_append, List.length_singleton]; omega, ?_⟩
          rw [as, hg, Bool.and_false]
          simp
        · have hg : g j = true := by simpa using h
          refine ⟨e9, acc, hD9, by omega, ?_⟩
          rw [as, hg, Bool.and_true]
          exact hae
      · rintro H9 ⟨e9, acc, hD9, hal, hae⟩
        rw [show ((zs.length : Int) - 1).toNat = zs.length - 1 by omega] at hae
        refine ⟨_, rfl, Nat.zero_le _, fun z2 hz2 => ?_⟩
        have e10 : Ex H9 (upd H9 z2 (.lst [])) := Ex.nw hz2
        have f10 : (upd H9 z2 (.lst [])) z2 = some (.lst []) := upd_same
        generalize upd H9 z2 (.lst []) = H10 at e10 f10
        have e0' := es2.tr (eC.tr (e37.tr (e9.tr e10)))
        refine ⟨D, z2, acc, rfl, rfl, .inl (.inl (e10 _ _ hD9)), .inl (.inl f10), _, rfl, ite2 (fun h => ?_) (fun h => ?_)⟩
        · refine qn (fun ok => ?_) _ e0'
          have := hiff.mpr ((ok_row ok).2 i)
          rw [← hae] at this
          rw [this] at h
          cases h
        · refine ⟨_, _, rfl, e7.tr (e9.tr e10), fun j hj => ?_⟩
          by_cases hji : j < i
          · exact hok j hji
          · obtain rfl : j = i := by omega
            refine hiff.mp ?_
            rw [← hae]
            simpa using h
    · rintro σ H7 ⟨y6, y7, rfl, e7, hok⟩
      refine qy (ok_of l1 l2 l3 ps ns (fun j r hr => ?_) (fun j hj => hok j ?_)) _ (es2.tr (eC.tr (e36.tr e7)))
      · refine hb j r ?_ hr
        have := (List.getElem?_eq_some_iff.mp hr).1
        rw [List.length_append, List.length_map] at this
        rw [List.length_append]
        omega
      · rw [List.length_append, List.length_singleton]
        omega
end

end K48
namespace K48
open PySem PySem.Spec PyProof.Rows L2 Nw
/-! _law_due: slots 0 _law_text_here, 1 _law_parts, 2 _law_at, 3 _law_part -/
abbrev s_due : Stmt := topS 42
abbrev N_due : List Str := ["_law_text_here", "_law_parts", "_law_at", "_law_part"]
abbrev P_due : List Str := ["_law_text_here"]
theorem sc_due : FnScope N_due P_due (defScope s_due) := ⟨rfl, rfl, rfl, by decide +kernel, rfl, by decide +kernel, by decide +kernel⟩
theorem ok_webB {n : Int} {L : List (Int × Int)} {R : List (List Int)} : webB (.tuple [.int n, dPairs L, dRows R]) = true ↔ (⟨n, L, R⟩ : Wb).Ok := by
  constructor
  · intro h
    obtain ⟨u, hu, hok⟩ := webB_inv h
    have : (⟨n, L, R⟩ : Wb) = u := wbd_inj hu
    rw [this]
    exact hok
  · intro h
    exact h.web
def sp_due (K : PySem.W.Frag) : Sp := fun vs H Q _ => ∃ t : Str, vs = [.str t] ∧ t.length ≤ 90000 ∧ ∀ H', Ex H H' → Q (oV (dueS t)) H'
section
variable {P : Program} {w : World} {K : PySem.W.Frag} {mg : Str → Option Value} {base : Heap}
theorem ok_due {f : Addr} {fd : FuncData} (T : Txt K mg) (F : Fun K "_law_due" "_law_due" s_due f fd)
    (D_fits : DefOk P w K mg base CX0 2 "_law_fits" P_fits (sp_fits K))
    (D_is_web : DefOk P w K mg base CX0 1 "_law_is_web" P_is_web (sp_is_web K)) :
    FnG P w K mg base CX0 3 f fd P_due (sp_due K) := by
  refine okG0 F sc_due (fun vs H Q E h => ?_) (fun cdv A outer s H vs Q E hr hq h => ?_)
  · obtain ⟨t, rfl, _⟩ := h
    rfl
  · obtain ⟨t, rfl, hl, q⟩ := h
    refine ⟨_, (pss_cons (ps_set (i := 1) sc_due.nd rfl (by first | exact .inl rfl | exact .inr rfl) (pe_split (pv 0) pe_str))
      (pss_cons (ps_for PassesOwn.never rfl (pi_enum (by rfl) T.b_enumerate (pa_cons (pe_slice (sl_listK K) (pv 1) po_none (po_some pe_int)) pa_nil)) (pg_tupK (n := 2) K rfl (pgs_cons (pg_name (i := 2) sc_due.nd rfl (by first | exact .inl rfl | exact .inr rfl)) (pgs_cons (pg_name (i := 3) sc_due.nd rfl (by first | exact .inl rfl | exact .inr rfl)) pgs_nil))) (pss_one (ps_if (pt_not (pt_val (pe_callD D_fits (hr.mono (by decide)) hq pass0 (pa_cons (pv 2) (pa_cons (pv 3) pa_nil))))) (pss_one (ps_ret (pv 2))) pss_nil)))
      (pss_one (ps_ret (pe_ifExp (PW.pt (pw_and (pt_cmpR op_eq (pe_callB (call_lenK K) (by rfl) T.b_len bt_len (pa_cons (pv 1) pa_nil)) pe_int (nomark _)) (pw_and1 (pt_val (pe_callD D_is_web (hr.mono (by decide)) hq pass0 (pa_cons (pv 1) pa_nil)))))) pe_non (pe_callB (call_lenK K) (by rfl) T.b_len bt_len (pa_cons (pv 1) pa_nil))))))), ?_⟩
    have e0 : dueS t = dueP (Txt.split t "; ") := rfl
    rw [e0] at q
    have wf := words_few (w := t) (sep := "; ") (by decide)
    have wl : ∀ s ∈ Txt.split t "; ", s.length ≤ 90000 := fun s hs => by
      have := word_len (w := t) (sep := "; ") (by decide) hs
      omega
    refine ⟨_, rfl, ⟨_, rfl⟩, _, _, rfl, rfl, by decide +kernel, le_line (by omega), fun S hS => ?_⟩
    generalize Txt.split t "; " = ps at q wf wl hS ⊢
    have e1 : Ex H (upd H S (.lst (ps.map V.str))) := Ex.nw hS
    have f1 : (upd H S (.lst (ps.map V.str))) S = some (.lst (ps.map V.str)) := upd_same
    generalize upd H S (.lst (ps.map V.str)) = H1 at e1 f1
    refine ⟨_, rfl, _, rfl, S, _, rfl, .inl (.inl f1), fun C hC => ?_⟩
    rw [cut3]
    have e3 : Ex H1 (upd H1 C (.lst ((ps.take 3).map V.str))) := Ex.nw hC
    have f3 : (upd H1 C (.lst ((ps.take 3).map V.str))) C = some (.lst ((ps.take 3).map V.str)) := upd_same
    generalize upd H1 C (.lst ((ps.take 3).map V.str)) = H3 at e3 f3
    have sC : SqL K H3 C ((ps.take 3).map V.str) := .inl (.inl f3)
    refine ⟨C, _, rfl, sC, ?_⟩
    refine for_by ((ps.take 3).map V.str).length (fun i σ H' => ∃ y2 y3, σ = [some (V.str t), some (V.ref S), y2, y3] ∧ Ex H3 H' ∧ ∀ j s, j < i → ps[j]? = some s → partD j s ≠ none)
      ⟨_, _, rfl, Ex.rfl, fun j s h => absurd h (Nat.not_lt_zero _)⟩ (fun i σ H' hi pv => ?_) (fun σ H' pv => ?_) ?_ ?_
    · obtain ⟨_, _, _, e, _⟩ := pv
      exact ite_go (K := K) sC e hi
    · obtain ⟨_, _, _, e, _⟩ := pv
      exact ite_stop (K := K) sC e
    · rintro i σ H4 x H5 hi ⟨y2, y3, rfl, e4, hok⟩ ⟨T1, y1, rfl, hT1, rfl, hy1⟩
      have g1 := hy1 _ (e4.l sC)
      obtain ⟨s, hs3, rfl⟩ := map_at g1
      rw [List.length_map, List.length_take] at hi
      have hi3 : i < 3 := by omega
      have hs : ps[i]? = some s := by
        rw [List.getElem?_take] at hs3
        rw [if_pos hi3] at hs3
        exact hs3
      have e5 : Ex H4 (upd H4 T1 (.tup [.int (i : Nat), .str s])) := Ex.nw hT1
      have f5 : (upd H4 T1 (.tup [.int (i : Nat), .str s])) T1 = some (.tup [.int (i : Nat), .str s]) := upd_same
      generalize upd H4 T1 (.tup [.int (i : Nat), .str s]) = H6 at e5 f5
      refine ⟨T1, _, rfl, .inl (.inl f5), rfl, _, _, rfl, _, _, rfl, rfl, ?_⟩
      refine ⟨_, rfl, _, rfl, i, s, rfl, hi3, wl s (List.mem_of_getElem? hs), fun H7 e7 => ⟨_, rfl, ite2 (fun h => ?_) (fun h => ?_)⟩⟩
      · have hn : partD i s = none := by
          cases z : partD i s with
          | none => rfl
          | some d =>
            rw [z] at h
            cases h
        have e : dueP ps = some (i : Int) := by
          unfold dueP
          rw [badAt_of hi3 hs hn hok]
        rw [e] at q
        exact ⟨_, rfl, q _ (e1.tr (e3.tr (e4.tr (e5.tr e7))))⟩
      · have hn : partD i s ≠ none := fun z => by
          rw [z] at h
          exact h rfl
        refine ⟨_, _, rfl, e4.tr (e5.tr e7), fun j t hj ht => ?_⟩
        by_cases hji : j < i
        · exact hok j t hji ht
        · obtain rfl : j = i := by omega
          rw [hs] at ht
          obtain rfl := Option.some.inj ht
          exact hn
    · rintro σ H4 ⟨y2, y3, rfl, e4, hok⟩
      rw [List.length_map, List.length_take] at hok
      have hbad : badAt ps = none := badAt_no fun j s hj hs => by
        have := (List.getElem?_eq_some_iff.mp hs).1
        exact hok j s (by omega) hs
      have hS4 := (e3.tr e4) _ _ f1
      have no : ¬ (ps.length = 3 ∧ webP ps = true) → ∀ H', Ex H H' → Q (.int (ps.length : Int)) H' := fun h H' e => by
        have hd : dueP ps = some (ps.length : Int) := by
          unfold dueP
          rw [hbad]
          exact if_neg h
        have := q H' e
        rw [hd] at this
        exact this
      refine ⟨_, rfl, S, _, rfl, .inl (.inl (.inl hS4)), rfl, _, rfl, ite2 (fun h => ?_) (fun h => ?_)⟩
      · have h3 : ps.length = 3 := by
          rw [List.length_map] at h
          have : (ps.length : Int) = 3 := by simpa using h
          omega
        match ps, h3 with
        | [s0, s1, s2], _ =>
          have o0 := hok 0 s0 (by show 0 < 3; decide) rfl
          have o1 := hok 1 s1 (by show 1 < 3; decide) rfl
          have o2 := hok 2 s2 (by show 2 < 3; decide) rfl
          have e0 : partD 0 s0 = (numW s0).map PyData.int := rfl
          have e1' : partD 1 s1 = (partP s1).map dPairs := rfl
          have e2' : partD 2 s2 = (partN s2).map dRows := rfl
          obtain ⟨n, hn⟩ : ∃ n, numW s0 = some n := by
            cases z : numW s0 with
            | none =>
              rw [e0, z] at o0
              exact absurd rfl o0
            | some n => exact ⟨n, rfl⟩
          obtain ⟨L, hL⟩ : ∃ n, partP s1 = some n := by
            cases z : partP s1 with
            | none =>
              rw [e1', z] at o1
              exact absurd rfl o1
            | some n => exact ⟨n, rfl⟩
          obtain ⟨R, hR⟩ : ∃ n, partN s2 = some n := by
            cases z : partN s2 with
            | none =>
              rw [e2', z] at o2
              exact absurd rfl o2
            | some n => exact ⟨n, rfl⟩
          have hw : webP [s0, s1, s2] = webB (.tuple [.int n, dPairs L, dRows R]) := by
            unfold webP
            show (match partD 0 s0, partD 1 s1, partD 2 s2 with | some a, some b, some c => webB (.tuple [a, b, c]) | _, _, _ => false) = _
            rw [e0, e1', e2', hn, hL, hR]
            rfl
          refine ⟨_, rfl, S, s0, s1, s2, n, L, R, rfl, hS4, ⟨wl s1 (by simp), wl s2 (by simp)⟩, hn, hL, hR, fun ok H7 e7 => ⟨_, rfl, ?_⟩, fun ok H7 e7 => ⟨_, rfl, ?_⟩⟩
          · have e : dueP [s0, s1, s2] = none := by
              unfold dueP
              rw [hbad]
              exact if_pos ⟨rfl, by rw [hw]; exact ok_webB.mpr ok⟩
            rw [e] at q
            exact q _ (e1.tr (e3.tr (e4.tr e7)))
          · refine ⟨_, rfl, S, _, rfl, .inl (.inl (.inl (e7 _ _ hS4))), ?_⟩
            refine no (fun h => ok ?_) _ (e1.tr (e3.tr (e4.tr e7)))
            rw [hw] at h
            exact ok_webB.mp h.2
      · have hn3 : ps.length ≠ 3 := fun z => by
          rw [List.length_map, z] at h
          simp at h
        refine ⟨_, rfl, S, _, rfl, .inl (.inl (.inl hS4)), ?_⟩
        rw [List.length_map]
        exact no (fun h => hn3 h.1) _ (e1.tr (e3.tr e4))
end

end K48
namespace K48
open PySem PySem.Spec PyProof.Rows L2 Nw
/-! _law_told: slots 0 _law_text_here, 1 _law_caught, 2 e -/
abbrev s_told : Stmt := topS 43
abbrev N_told : List Str := ["_law_text_here", "_law_caught", "e"]
abbrev P_told : List Str := ["_law_text_here"]
theorem sc_told : FnScope N_told P_told (defScope s_told) := ⟨rfl, rfl, rfl, by decide +kernel, rfl, by decide +kernel, by decide +kernel⟩
def toldT : Option (Option Int) → PyData
  | none => .none
  | some p => .tuple [.str "error", oD p]
theorem da_oD {K : PySem.W.Frag} {H : Hp} : ∀ p : Option Int, Da K H (oD p) (oV p)
  | none => rfl
  | some _ => rfl
def sp_told (K : PySem.W.Frag) : Sp := fun vs H Q _ => ∃ v d, vs = [v] ∧ Da K H d v ∧ (∀ t, d = .str t → t.length ≤ 90000) ∧ ∀ v' H', Ex H H' → Da K (newH H H') (toldT (dueT d)) v' → Q v' H'
section
variable {P : Program} {w : World} {K : PySem.W.Frag} {mg : Str → Option Value} {base : Heap}
theorem ok_told {f : Addr} {fd : FuncData} (T : Txt K mg) (F : Fun K "_law_told" "_law_told" s_told f fd)
    (D_read_web : DefOk P w K mg base (L2.CX P w) 7 "read_web" P_read_web (sp_read_web K)) :
    FnG P w K mg base CX0 8 f fd P_told (sp_told K) := by
  obtain ⟨c, fB, fP, hc⟩ := T.fam
  refine okG0 F sc_told (fun vs H Q E h => ?_) (fun cdv A outer s H vs Q E hr hq h => ?_)
  · obtain ⟨v, d, rfl, _⟩ := h
    rfl
  · obtain ⟨v, d, rfl, hd, hsm, q⟩ := h
    refine ⟨_, (pss_cons (ps_set (i := 1) sc_told.nd rfl (by first | exact .inl rfl | exact .inr rfl) pe_non)
      (pss_cons (ps_try_kp (i := 2) (Wout := fun _ _ _ _ => False) rfl rfl rfl sc_told.nd rfl rfl ⟨rfl, by decide, Or.inl hc.g_WebError⟩ takes0 (fun W pn xe tk _ => (pss_one (ps_expr (pe_callDS D_read_web (hr.mono (by decide)) hq (fun σ => passAt tk σ) (pa_cons (pv 0) pa_nil))))) (fun a oe cls d pn hz hf => (pss_one (ps_set (i := 1) sc_told.nd rfl (by first | exact .inl rfl | exact .inr rfl) (pv 2)))))
      (pss_cons (ps_if (pt_cmpR op_isN (pv 1) pe_non (nomark _)) (pss_one (ps_ret pe_non)) pss_nil)
      (pss_cons (ps_if (PW.pt (pw_or (pt_not (pt_val (pe_callB (call_isV K) (by rfl) T.b_isinstance bt_isinstance (pa_cons (pv 1) (pa_cons (pe_glob (v := .ref (c 4)) rfl hc.g_InvalidText rfl) pa_nil))))) (pw_or1 (pt_val (pe_callB (call_isVT K) (by rfl) T.b_isinstance bt_isinstance (pa_cons (pv 1) (pa_cons (pe_tup (pa_cons (pe_glob (v := .ref (c 3)) rfl hc.g_InvalidCommand rfl) (pa_cons (pe_glob (v := .ref (c 2)) rfl hc.g_InvalidNumber rfl) (pa_cons (pe_glob (v := .ref (c 1)) rfl hc.g_InvalidWeb rfl) pa_nil)))) pa_nil))))))) (pss_one (ps_ret pe_str)) pss_nil)
      (pss_one (ps_ret (pe_tup (pa_cons pe_str (pa_cons (pe_placeK hc.plc (pv 1)) pa_nil))))))))), ?_⟩
    refine ⟨_, rfl, v, d, rfl, hd, hsm, ?_⟩
    cases hdc : dueT d with
    | none =>
      rw [hdc] at q
      intro v' H1 e1
      refine ⟨_, rfl, rfl, _, rfl, ite2 (fun _ => ?_) (fun h => by simp at h)⟩
      exact q .non H1 e1 rfl
    | some p =>
      rw [hdc] at q
      intro C dd H1 hC e1 hdd
      obtain rfl : C = c 4 := err_uniq hC (hc.n 4 (by decide))
      refine ⟨true, hc.m 4 (by decide), fun _ a0 na => ?_, fun z => Bool.noConfusion z⟩
      refine ⟨_, rfl, ?_⟩
      have e2 : Ex H1 (upd H1 a0 (ExK (.ref (c 4)) (some dd) a0)) := Ex.nw na
      have f2 : (upd H1 a0 (ExK (.ref (c 4)) (some dd) a0)) a0 = some (ExK (.ref (c 4)) (some dd) a0) := upd_same
      have d2 := e2 _ _ hdd
      have ea : ErrAt (upd H1 a0 (ExK (.ref (c 4)) (some dd) a0)) a0 (c 4) := .inr ⟨some dd, f2, fun dx hd => by
        obtain rfl := Option.some.inj hd
        exact ⟨_, d2⟩⟩
      refine ⟨_, rfl, rfl, _, rfl, ite2 (fun h => by simp at h) (fun _ => ?_)⟩
      refine ⟨_, rfl, a0, c 4, .ref (c 4), .ref (c 4), _, rfl, ea, hc.e 4 (by decide), fun u hu => hu, hc.s 4 4 (by decide) (by decide), _, rfl, ite2 (fun h => by simp at h) (fun _ => ?_)⟩
      refine ⟨_, rfl, by show 3 ≤ sizeLine; decide, fun T1 hT1 => ?_⟩
      have e3 : Ex (upd H1 a0 (ExK (.ref (c 4)) (some dd) a0)) (upd (upd H1 a0 (ExK (.ref (c 4)) (some dd) a0)) T1 (.tup [.ref (c 3), .ref (c 2), .ref (c 1)])) := Ex.nw hT1
      have f3 : (upd (upd H1 a0 (ExK (.ref (c 4)) (some dd) a0)) T1 (.tup [.ref (c 3), .ref (c 2), .ref (c 1)])) T1 = some (.tup [.ref (c 3), .ref (c 2), .ref (c 1)]) := upd_same
      generalize upd (upd H1 a0 (ExK (.ref (c 4)) (some dd) a0)) T1 (.tup [.ref (c 3), .ref (c 2), .ref (c 1)]) = H3 at e3 f3
      have none4 : PySem.W.kitAny K (.ref (c 4)) ([c 3, c 2, c 1].map Value.ref) = some ([c 3, c 2, c 1].any fun _ => false) := any_refs (f := fun _ => false) fun x hx => by
        simp only [List.mem_cons, List.not_mem_nil, or_false] at hx
        rcases hx with rfl | rfl | rfl
        · exact hc.s 4 3 (by decide) (by decide)
        · exact hc.s 4 2 (by decide) (by decide)
        · exact hc.s 4 1 (by decide) (by decide)
      refine ⟨a0, c 4, T1, [c 3, c 2, c 1], _, rfl, ea.up e3, hc.e 4 (by decide), f3, none4, _, rfl, ite2 (fun h => by simp at h) (fun _ => ?_)⟩
      refine ⟨_, rfl, a0, dd, _, rfl, e3 _ _ f2, e3 _ _ d2, by show 2 ≤ sizeLine; decide, fun T2 hT2 => ?_⟩
      have e123 := e1.tr (e2.tr e3)
      refine q (.ref T2) _ (e123.tr (Ex.nw hT2)) ⟨T2, _, rfl, (newH.at_ (e123.fr hT2)).trans upd_same, _, _, rfl, rfl, _, _, rfl, da_oD p, rfl⟩
end

end K48
namespace K48
open PySem PySem.Spec PyProof.Rows L2 Nw
/-! _law_shown: slots 0 _law_value, 1 _law_before, 2 _law_caught, 3 e, 4 _law_is_one -/
abbrev s_shown : Stmt := topS 46
abbrev N_shown : List Str := ["_law_value", "_law_before", "_law_caught", "e", "_law_is_one"]
abbrev P_shown : List Str := ["_law_value"]
theorem sc_shown : FnScope N_shown P_shown (defScope s_shown) := ⟨rfl, rfl, rfl, by decide +kernel, rfl, by decide +kernel, by decide +kernel⟩
def sp_shown (K : PySem.W.Frag) : Sp := fun vs H Q _ => ∃ v d, vs = [v] ∧ Da K H d v ∧ Sh 41 40000 40 d ∧ (webB d = false → ∀ H', Ex H H' → Q (.str "web") H') ∧ (∀ u : Wb, d = u.d → u.Ok → ∀ H', Ex H H' → Q .non H')
section
variable {P : Program} {w : World} {K : PySem.W.Frag} {mg : Str → Option Value} {base : Heap}
theorem ok_shown {f : Addr} {fd : FuncData} (T : Txt K mg) (F : Fun K "_law_shown" "_law_shown" s_shown f fd)
    (SM : SysAt base)
    (D_show_web : DefOk P w K mg base (L2.CX P w) 8 "show_web" P_show_web (sp_show_web K)) :
    FnG P w K mg base CX0 9 f fd P_shown (sp_shown K) := by
  obtain ⟨c, fB, fP, hc⟩ := T.fam
  refine okG0 F sc_shown (fun vs H Q E h => ?_) (fun cdv A outer s H vs Q E hr hq h => ?_)
  · obtain ⟨v, d, rfl, _⟩ := h
    rfl
  · obtain ⟨v, d, rfl, hd, sh, qn, qo⟩ := h
    refine ⟨_, (pss_cons (ps_par (i := 1) (j := 2) (by rfl) sc_shown.nd rfl rfl (by decide) rfl rfl (pa_cons (pe_callB (call_reprS K hq hr SM) (by rfl) T.b_repr bt_repr (pa_cons (pv 0) pa_nil)) (pa_cons pe_non pa_nil)) (by rfl))
      (pss_cons (ps_try_kp (i := 3) (Wout := fun _ _ _ _ => False) rfl rfl rfl sc_shown.nd rfl rfl ⟨rfl, by decide, Or.inl hc.g_WebError⟩ takes0 (fun W pn xe tk _ => (pss_one (ps_expr (pe_callDS D_show_web (hr.mono (by decide)) hq (fun σ => passAt tk σ) (pa_cons (pv 0) pa_nil))))) (fun a oe cls d pn hz hf => (pss_one (ps_set (i := 2) sc_shown.nd rfl (by first | exact .inl rfl | exact .inr rfl) (pv 3)))))
      (pss_cons (ps_if (pt_cmpR op_ne (pe_callB (call_reprS K hq hr SM) (by rfl) T.b_repr bt_repr (pa_cons (pv 0) pa_nil)) (pv 1) (nomark _)) (pss_one (ps_ret pe_str)) pss_nil)
      (pss_cons (ps_if (pt_cmpR op_isN (pv 2) pe_non (nomark _)) (pss_one (ps_ret pe_non)) pss_nil)
      (pss_cons (ps_set (i := 4) sc_shown.nd rfl (by first | exact .inl rfl | exact .inr rfl) (pe_and (pe_callB (call_isV K) (by rfl) T.b_isinstance bt_isinstance (pa_cons (pv 2) (pa_cons (pe_glob (v := .ref (c 1)) rfl hc.g_InvalidWeb rfl) pa_nil))) (pe_one (pe_not (pe_callB (call_isVT K) (by rfl) T.b_isinstance bt_isinstance (pa_cons (pv 2) (pa_cons (pe_tup (pa_cons (pe_glob (v := .ref (c 3)) rfl hc.g_InvalidCommand rfl) (pa_cons (pe_glob (v := .ref (c 2)) rfl hc.g_InvalidNumber rfl) (pa_cons (pe_glob (v := .ref (c 4)) rfl hc.g_InvalidText rfl) pa_nil)))) pa_nil)))))))
      (pss_one (ps_ret (pe_ifExp (pt_val (pv 4)) pe_str pe_str)))))))), ?_⟩
    refine ⟨_, rfl, _, _, rfl, hd, sh.s, sh.fit (by decide) (by decide), by have := sh.k; omega, ?_⟩
    refine ⟨_, _, rfl, ?_⟩
    refine ⟨_, rfl, v, d, rfl, hd, fun hw C H1 hC e1 => ?_, fun u hu hok H1 e1 => ?_⟩
    · obtain rfl : C = c 1 := err_uniq hC (hc.n 1 (by decide))
      refine ⟨true, hc.m 1 (by decide), fun _ a0 na => ?_, fun z => Bool.noConfusion z⟩
      refine ⟨_, rfl, ?_⟩
      have e2 : Ex H1 (upd H1 a0 (ExK (.ref (c 1)) none a0)) := Ex.nw na
      have f2 : (upd H1 a0 (ExK (.ref (c 1)) none a0)) a0 = some (ExK (.ref (c 1)) none a0) := upd_same
      have ea : ErrAt (upd H1 a0 (ExK (.ref (c 1)) none a0)) a0 (c 1) := .inr ⟨none, f2, fun dx hd => nomatch hd⟩
      refine ⟨_, rfl, _, _, rfl, hd.up (e1.tr e2), sh.s, sh.fit (by decide) (by decide), by have := sh.k; omega, ?_⟩
      refine ⟨_, rfl, rfl, false, by simp, ite2 (fun h => Bool.noConfusion h) (fun _ => ?_)⟩
      refine ⟨_, rfl, rfl, _, rfl, ite2 (fun h => by simp at h) (fun _ => ?_)⟩
      refine ⟨_, rfl, a0, c 1, .ref (c 1), .ref (c 1), true, rfl, ea, hc.e 1 (by decide), fun u hu => hu, hc.s 1 1 (by decide) (by decide), ?_⟩
      refine ⟨_, rfl, ?_⟩
      refine ⟨_, rfl, by show 3 ≤ sizeLine; decide, fun T1 hT1 => ?_⟩
      have e3 : Ex (upd H1 a0 (ExK (.ref (c 1)) none a0)) (upd (upd H1 a0 (ExK (.ref (c 1)) none a0)) T1 (.tup [.ref (c 3), .ref (c 2), .ref (c 4)])) := Ex.nw hT1
      have f3 : (upd (upd H1 a0 (ExK (.ref (c 1)) none a0)) T1 (.tup [.ref (c 3), .ref (c 2), .ref (c 4)])) T1 = some (.tup [.ref (c 3), .ref (c 2), .ref (c 4)]) := upd_same
      generalize upd (upd H1 a0 (ExK (.ref (c 1)) none a0)) T1 (.tup [.ref (c 3), .ref (c 2), .ref (c 4)]) = H3 at e3 f3
      have none1 : PySem.W.kitAny K (.ref (c 1)) ([c 3, c 2, c 4].map Value.ref) = some ([c 3, c 2, c 4].any fun _ => false) := any_refs (f := fun _ => false) fun x hx => by
        simp only [List.mem_cons, List.not_mem_nil, or_false] at hx
        rcases hx with rfl | rfl | rfl
        · exact hc.s 1 3 (by decide) (by decide)
        · exact hc.s 1 2 (by decide) (by decide)
        · exact hc.s 1 4 (by decide) (by decide)
      refine ⟨a0, c 1, T1, [c 3, c 2, c 4], false, rfl, ea.up e3, hc.e 1 (by decide), f3, none1, ?_⟩
      refine ⟨_, rfl, ?_⟩
      refine ⟨_, rfl, _, rfl, ?_⟩
      exact qn hw _ (e1.tr (e2.tr e3))
    · refine ⟨_, rfl, _, _, rfl, hd.up e1, sh.s, sh.fit (by decide) (by decide), by have := sh.k; omega, ?_⟩
      refine ⟨_, rfl, rfl, false, by simp, ite2 (fun h => Bool.noConfusion h) (fun _ => ?_)⟩
      refine ⟨_, rfl, rfl, _, rfl, ite2 (fun _ => ?_) (fun h => by simp at h)⟩
      exact qo u hu hok _ e1
end

end K48
namespace K48
open PySem PySem.Spec PyProof.Rows L2 Nw
/-! _law_right: slots 0 _law_text_here, 1 _law_due_here -/
abbrev s_right : Stmt := topS 45
abbrev N_right : List Str := ["_law_text_here", "_law_due_here"]
abbrev P_right : List Str := ["_law_text_here"]
theorem sc_right : FnScope N_right P_right (defScope s_right) := ⟨rfl, rfl, rfl, by decide +kernel, rfl, by decide +kernel, by decide +kernel⟩
theorem due_small {t : Str} {n : Int} (h : dueS t = some n) (hl : t.length ≤ 90000) : 0 ≤ n ∧ n ≤ 90001 := by
  have wf := words_few (w := t) (sep := "; ") (by decide)
  unfold dueS dueP at h
  generalize Txt.split t "; " = ps at h wf
  cases hb : badAt ps with
  | some i =>
    rw [hb] at h
    obtain rfl := Option.some.inj h
    unfold badAt at hb
    have := List.mem_range.mp (List.mem_of_find?_eq_some hb)
    omega
  | none =>
    rw [hb] at h
    by_cases hc : ps.length = 3 ∧ webP ps = true
    · have h' : (if ps.length = 3 ∧ webP ps = true then none else some (ps.length : Int)) = some n := h
      rw [if_pos hc] at h'
      cases h'
    · have h' : (if ps.length = 3 ∧ webP ps = true then none else some (ps.length : Int)) = some n := h
      rw [if_neg hc] at h'
      obtain rfl := Option.some.inj h'
      omega
def sp_right (K : PySem.W.Frag) : Sp := fun vs H Q _ => ∃ t : Str, vs = [.str t] ∧ t.length ≤ 90000 ∧ ∀ H', Ex H H' → Q (.bl true) H'
section
variable {P : Program} {w : World} {K : PySem.W.Frag} {mg : Str → Option Value} {base : Heap}
theorem ok_right {f : Addr} {fd : FuncData} (T : Txt K mg) (F : Fun K "_law_right" "_law_right" s_right f fd)
    (D_due : DefOk P w K mg base CX0 3 "_law_due" P_due (sp_due K))
    (D_told : DefOk P w K mg base CX0 8 "_law_told" P_told (sp_told K)) :
    FnG P w K mg base CX0 9 f fd P_right (sp_right K) := by
  refine okG0 F sc_right (fun vs H Q E h => ?_) (fun cdv A outer s H vs Q E hr hq h => ?_)
  · obtain ⟨t, rfl, _⟩ := h
    rfl
  · obtain ⟨t, rfl, hl, q⟩ := h
    refine ⟨_, (pss_cons (ps_set (i := 1) sc_right.nd rfl (by first | exact .inl rfl | exact .inr rfl) (pe_callD D_due (hr.mono (by decide)) hq pass0 (pa_cons (pv 0) pa_nil)))
      (pss_one (ps_ret (pe_cmpR op_eq (pe_callB (call_reprK K hq hr) (by rfl) T.b_repr bt_repr (pa_cons (pe_callD D_told (hr.mono (by decide)) hq pass0 (pa_cons (pv 0) pa_nil)) pa_nil)) (pe_callB (call_reprK K hq hr) (by rfl) T.b_repr bt_repr (pa_cons (pe_ifExp (pt_cmpR op_isN (pv 1) pe_non (nomark _)) pe_non (pe_tup (pa_cons pe_str (pa_cons (pv 1) pa_nil)))) pa_nil)) (nomark _))))), ?_⟩
    refine ⟨_, rfl, t, rfl, hl, fun H1 e1 => ?_⟩
    refine ⟨_, rfl, .str t, .str t, rfl, rfl, fun t' e => by obtain rfl := PyData.str.inj e; exact hl, fun v' H2 e2 hv => ?_⟩
    replace hv := hv.up newH.sub
    have e0 : dueT (.str t) = (dueS t).map some := rfl
    rw [e0] at hv
    have sh5 : Sh 41 1 0 (.str "error") := ⟨by decide +kernel, by decide +kernel, by decide +kernel, by decide +kernel⟩
    cases hd : dueS t with
    | none =>
      rw [hd] at hv
      obtain rfl := hv
      have shN : Sh 41 1 0 PyData.none := ⟨by decide +kernel, by decide +kernel, by decide +kernel, by decide +kernel⟩
      refine ⟨_, _, rfl, Dp.non, shN.s, shN.fit (by decide) (by decide), by have := shN.k; omega, ?_⟩
      refine ⟨_, rfl, rfl, _, rfl, ite2 (fun _ => ?_) (fun h => absurd rfl h)⟩
      refine ⟨_, _, rfl, Dp.non, shN.s, shN.fit (by decide) (by decide), by have := shN.k; omega, rfl, ?_⟩
      simpa using q H2 (e1.tr e2)
    | some n =>
      rw [hd] at hv
      have hn := due_small hd hl
      have big : n.natAbs < 10 ^ 40 := Nat.lt_of_lt_of_le (show n.natAbs < 100000 by omega) (by decide +kernel)
      have shI : Sh 41 1 0 (.int n) := Sh.int (by decide) (Nat.lt_of_lt_of_le (show n.natAbs < 100000 by omega) (by decide +kernel)) big
      have shN : Sh 41 (1 + 1 * 2) 1 (.tuple [.str "error", .int n]) := Sh.tuple (fun x hx => by
        rcases List.mem_cons.mp hx with rfl | hx
        · exact sh5
        · obtain rfl := List.mem_singleton.mp hx
          exact shI) (Nat.le_refl _)
      have lay : (PyData.tuple [.str "error", .int n]).canLay0 = true := by
        simp only [PyData.canLay0, PyData.canLayAll0, Bool.and_true]
        decide +kernel
      have hv' : Da K H2 (.tuple [.str "error", .int n]) v' := hv
      refine ⟨_, _, rfl, hv'.dp _ _ (nd_of_lay lay), shN.s, shN.fit (by decide) (by decide), by have := shN.k; omega, ?_⟩
      refine ⟨_, rfl, rfl, _, rfl, ite2 (fun h => by simp [oV] at h) (fun _ => ?_)⟩
      refine ⟨_, rfl, by show 2 ≤ sizeLine; decide, fun T hT => ?_⟩
      have e3 : Ex H2 (upd H2 T (.tup [.str "error", .int n])) := Ex.nw hT
      have dT : Da K (upd H2 T (.tup [.str "error", .int n])) (.tuple [.str "error", .int n]) (.ref T) := ⟨T, _, rfl, upd_same, _, _, rfl, rfl, _, _, rfl, rfl, rfl⟩
      refine ⟨_, _, rfl, dT.dp _ _ (nd_of_lay lay), shN.s, shN.fit (by decide) (by decide), by have := shN.k; omega, rfl, ?_⟩
      exact Eq.mp (congrArg (fun b => Q (V.bl b) _) (decide_eq_true rfl).symm) (q _ (e1.tr (e2.tr e3)))
end

end K48
namespace K48
open PySem PySem.Spec PyProof.Rows L2 Nw
/-! _law_bent: slots 0 _law_purse_here, 1 _law_text_here, 2 _law_signs, 3 _law_sign, 4 _law_at, 5 _law_way, 6 _law_parts, 7 _law_spot, 8 _law_new -/
abbrev s_bent : Stmt := topS 44
abbrev N_bent : List Str := ["_law_purse_here", "_law_text_here", "_law_signs", "_law_sign", "_law_at", "_law_way", "_law_parts", "_law_spot", "_law_new"]
abbrev P_bent : List Str := ["_law_purse_here", "_law_text_here"]
theorem sc_bent : FnScope N_bent P_bent (defScope s_bent) := ⟨rfl, rfl, rfl, by decide +kernel, rfl, by decide +kernel, by decide +kernel⟩
def sgA : List Str := ["",
  " ",
  "  ",
  ";",
  "; ",
  ">",
  ",",
  "-",
  "0",
  "1",
  "7",
  "19",
  "20",
  "21",
  "00",
  "01",
  "-1",
  "a",
  "_",
  "+"]
def sgB : List Str := ["\n",
  "; -",
  "0>0",
  "0,1",
  Txt.mul "9" 30,
  Txt.mul "9" 31,
  "1_0",
  " 0",
  "0 ",
  ".",
  "0>",
  ">0",
  ",0",
  "0,"]
theorem sg_short : ∀ s ∈ sgA ++ sgB, s.length ≤ 31 := by decide +kernel
theorem sg_len : (sgA ++ sgB).length = 34 := by decide +kernel
theorem mulok30 : MulOk "9" 30 := ⟨by decide +kernel, fun _ _ => by decide +kernel, fun _ _ => by decide +kernel⟩
theorem mulok31 : MulOk "9" 31 := ⟨by decide +kernel, fun _ _ => by decide +kernel, fun _ _ => by decide +kernel⟩
/-- the signs of some texts, and two for each -/
def wgt (l : List Str) : Nat := (l.map (·.length)).sum + l.length * 2
theorem wgt_take (n : Nat) : ∀ l : List Str, wgt (l.take n) ≤ wgt l := by
  induction n with
  | zero =>
    intro l
    simp [wgt]
  | succ n ih =>
    intro l
    cases l with
    | nil => exact Nat.le_refl _
    | cons x l =>
      have := ih l
      simp only [wgt, List.take_succ_cons, List.map_cons, List.sum_cons, List.length_cons] at this ⊢
      omega
theorem wgt_drop (n : Nat) : ∀ l : List Str, wgt (l.drop n) ≤ wgt l := by
  induction n with
  | zero => exact fun l => Nat.le_refl _
  | succ n ih =>
    intro l
    cases l with
    | nil => exact Nat.le_refl _
    | cons x l =>
      have := ih l
      simp only [wgt, List.drop_succ_cons, List.map_cons, List.sum_cons, List.length_cons] at this ⊢
      omega
theorem wgt_app (a b : List Str) : wgt (a ++ b) = wgt a + wgt b := by
  simp only [wgt, List.map_append, List.sum_append_nat, List.length_append]
  omega
section
open TL
theorem joinL_eq (S : List Nat) : ∀ ps : List (List Nat), ps ≠ [] → (joinL S ps).length + S.length = (ps.map (·.length)).sum + ps.length * S.length
  | [], h => absurd rfl h
  | [p], _ => by simp [joinL]
  | p :: q :: r, _ => by
    have ih := joinL_eq S (q :: r) (by simp)
    simp only [joinL, List.length_append, List.map_cons, List.sum_cons, List.length_cons] at ih ⊢
    have e : (r.length + 1 + 1) * S.length = (r.length + 1) * S.length + S.length := Nat.succ_mul _ _
    omega
theorem wgt_split (t : Str) : wgt (Txt.split t "; ") = t.length + 2 := by
  have h := congrArg tl (StrLaws.join_split t "; ")
  have hp := split_pos t "; "
  have h2 : tl (Txt.join "; " (Txt.split t "; ")) = tl t := by
    first | exact h | (rw [join_eq]; exact h)
  have h3 := congrArg List.length h2
  rw [tl_txtJoin, tl_se] at h3
  have h4 := joinL_eq [59, 32] ((Txt.split t "; ").map tl) (fun e => by
    have := congrArg List.length e
    rw [List.length_map] at this
    rw [this] at hp
    exact absurd hp (by decide))
  rw [h3, List.map_map, List.length_map] at h4
  have e : (Txt.split t "; ").map ((fun x => x.length) ∘ tl) = (Txt.split t "; ").map (·.length) := List.map_congr_left fun y _ => (len_tl y).symm
  rw [e, ← len_tl] at h4
  exact h4.symm
end
theorem join_wgt (l : List Str) : (l.map (·.length)).sum + l.length * ("; " : Str).length ≤ wgt l ∧ (Txt.join "; " l).length ≤ wgt l := by
  have e : ("; " : Str).length = 2 := by decide +kernel
  have h := join_len "; " l
  rw [e] at h ⊢
  exact ⟨Nat.le_refl _, h⟩
theorem cutV_str (l : List Str) (lo hi : Option Int) : ∃ l' : List Str, cutV (l.map V.str) lo hi = l'.map V.str ∧ wgt l' ≤ wgt l ∧ l'.length ≤ l.length := by
  refine ⟨(l.drop (HT.sIx l.length 0 lo)).take (HT.sIx l.length l.length hi - HT.sIx l.length 0 lo), ?_, Nat.le_trans (wgt_take _ _) (wgt_drop _ _), ?_⟩
  · unfold cutV
    rw [List.length_map, List.map_take, List.map_drop]
  · rw [List.length_take, List.length_drop]
    omega
theorem atI_mem {α : Type} {xs : List α} {z : Int} (h0 : 0 ≤ z) (h : z < xs.length) : ∃ x ∈ xs, atI xs z = some x := by
  have hz : z.toNat < xs.length := by omega
  exact ⟨xs[z.toNat], List.getElem_mem hz, atI_int h0 (List.getElem?_eq_getElem hz)⟩
theorem atI_end {α : Type} {xs : List α} (h : 0 < xs.length) : ∃ x ∈ xs, atI xs (-1) = some x := by
  have hn : xs ≠ [] := List.length_pos_iff.mp h
  have e := List.dropLast_concat_getLast hn
  exact ⟨xs.getLast hn, List.getLast_mem hn, by
    have := atI_last xs.dropLast (xs.getLast hn)
    rw [e] at this
    exact this⟩
theorem wgt_mem {l : List Str} {x : Str} (h : x ∈ l) : x.length ≤ wgt l := by
  have := mem_sum (List.mem_map.mpr ⟨x, h, rfl⟩ : x.length ∈ l.map (·.length))
  unfold wgt
  omega
def sp_bent (K : PySem.W.Frag) : Sp := fun vs H Q _ => ∃ (p : Addr) (t : Str) (m : Nat), vs = [.ref p, .str t] ∧ t.length ≤ 29000 ∧ Purse H p m ∧ m ≤ 1000000 ∧
  ∀ (t' : Str) H', t'.length ≤ 3 * t.length + 100 → ExD p H H' → Purse H' p (m + 6) → Q (.str t') H'
section
variable {P : Program} {w : World} {K : PySem.W.Frag} {mg : Str → Option Value} {base : Heap}
theorem ok_bent {f : Addr} {fd : FuncData} (T : Txt K mg) (F : Fun K "_law_bent" "_law_bent" s_bent f fd)
    (D_coin : DefOk P w K mg base CX0 1 "_law_coin" P_coin (sp_coin K)) :
    FnG P w K mg base CX0 2 f fd P_bent (sp_bent K) := by
  refine okG0 F sc_bent (fun vs H Q E h => ?_) (fun cdv A outer s H vs Q E hr hq h => ?_)
  · obtain ⟨p, t, m, rfl, _⟩ := h
    rfl
  · obtain ⟨p, t, m, rfl, hl, hp, hm, q⟩ := h
    refine ⟨_, (pss_cons (ps_set (i := 2) sc_bent.nd rfl (by first | exact .inl rfl | exact .inr rfl) (pe_lst (pa_cons pe_str (pa_cons pe_str (pa_cons pe_str (pa_cons pe_str (pa_cons pe_str (pa_cons pe_str (pa_cons pe_str (pa_cons pe_str (pa_cons pe_str (pa_cons pe_str (pa_cons pe_str (pa_cons pe_str (pa_cons pe_str (pa_cons pe_str (pa_cons pe_str (pa_cons pe_str (pa_cons pe_str (pa_cons pe_str (pa_cons pe_str (pa_cons pe_str pa_nil))))))))))))))))))))))
      (pss_cons (ps_set (i := 2) sc_bent.nd rfl (by first | exact .inl rfl | exact .inr rfl) (pe_op (op_catS K) (pv 2) (pe_lst (pa_cons pe_str (pa_cons pe_str (pa_cons pe_str (pa_cons pe_str (pa_cons (pe_op op_mulS pe_str pe_int) (pa_cons (pe_op op_mulS pe_str pe_int) (pa_cons pe_str (pa_cons pe_str (pa_cons pe_str (pa_cons pe_str (pa_cons pe_str (pa_cons pe_str (pa_cons pe_str (pa_cons pe_str pa_nil)))))))))))))))))
      (pss_cons (ps_par (i := 3) (j := 4) (by rfl) sc_bent.nd rfl rfl (by decide) rfl rfl (pa_cons (pe_ix (ix_listK K) (pv 2) (pe_callD D_coin (hr.mono (by decide)) hq pass0 (pa_cons (pv 0) (pa_cons (pe_callB (call_lenK K) (by rfl) T.b_len bt_len (pa_cons (pv 2) pa_nil)) pa_nil))) (fun _ _ => rfl)) (pa_cons (pe_callD D_coin (hr.mono (by decide)) hq pass0 (pa_cons (pv 0) (pa_cons (pe_op op_add (pe_callB call_len_str (by rfl) T.b_len bt_len (pa_cons (pv 1) pa_nil)) pe_int) pa_nil))) pa_nil)) (by rfl))
      (pss_cons (ps_set (i := 5) sc_bent.nd rfl (by first | exact .inl rfl | exact .inr rfl) (pe_callD D_coin (hr.mono (by decide)) hq pass0 (pa_cons (pv 0) (pa_cons pe_int pa_nil))))
      (pss_cons (ps_if (pt_cmpR op_lt (pv 5) pe_int (nomark _)) (pss_one (ps_ret (pe_op op_add_str (pe_op op_add_str (pe_slice sl_str (pv 1) po_none (po_some (pv 4))) (pv 3)) (pe_slice sl_str (pv 1) (po_some (pv 4)) po_none)))) pss_nil)
      (pss_cons (ps_if (pt_cmpR op_eq (pv 5) pe_int (nomark _)) (pss_one (ps_ret (pe_op op_add_str (pe_slice sl_str (pv 1) po_none (po_some (pv 4))) (pe_slice sl_str (pv 1) (po_some (pe_op op_add (pe_op op_add (pv 4) pe_int) (pe_callD D_coin (hr.mono (by decide)) hq pass0 (pa_cons (pv 0) (pa_cons pe_int pa_nil))))) po_none)))) pss_nil)
      (pss_cons (ps_if (pt_cmpR op_eq (pv 5) pe_int (nomark _)) (pss_one (ps_ret (pe_op op_add_str (pe_op op_add_str (pe_slice sl_str (pv 1) po_none (po_some (pv 4))) (pv 3)) (pe_slice sl_str (pv 1) (po_some (pe_op op_add (pv 4) pe_int)) po_none)))) pss_nil)
      (pss_cons (ps_set (i := 6) sc_bent.nd rfl (by first | exact .inl rfl | exact .inr rfl) (pe_split (pv 1) pe_str))
      (pss_cons (ps_set (i := 7) sc_bent.nd rfl (by first | exact .inl rfl | exact .inr rfl) (pe_callD D_coin (hr.mono (by decide)) hq pass0 (pa_cons (pv 0) (pa_cons (pe_callB (call_lenK K) (by rfl) T.b_len bt_len (pa_cons (pv 6) pa_nil)) pa_nil))))
      (pss_cons (ps_if (pt_cmpR op_eq (pv 5) pe_int (nomark _)) (pss_one (ps_ret (pe_joinK K pe_str (pe_op (op_catS K) (pe_slice (sl_listK K) (pv 6) po_none (po_some (pv 7))) (pe_slice (sl_listK K) (pv 6) (po_some (pe_op op_add (pv 7) pe_int)) po_none))))) pss_nil)
      (pss_cons (ps_set (i := 8) sc_bent.nd rfl (by first | exact .inl rfl | exact .inr rfl) (pe_ix (ix_listK K) (pe_lst (pa_cons (pv 3) (pa_cons (pe_ix (ix_listK K) (pv 6) pe_int (fun _ _ => rfl)) (pa_cons (pe_ix (ix_listK K) (pv 6) (pe_un un_neg pe_int) (fun _ _ => rfl)) pa_nil)))) (pe_callD D_coin (hr.mono (by decide)) hq pass0 (pa_cons (pv 0) (pa_cons pe_int pa_nil))) (fun _ _ => rfl)))
      (pss_one (ps_ret (pe_joinK K pe_str (pe_op (op_catS K) (pe_op (op_catS K) (pe_slice (sl_listK K) (pv 6) po_none (po_some (pv 7))) (pe_lst (pa_cons (pv 8) pa_nil))) (pe_slice (sl_listK K) (pv 6) (po_some (pe_op op_add (pv 7) (pe_callD D_coin (hr.mono (by decide)) hq pass0 (pa_cons (pv 0) (pa_cons pe_int pa_nil))))) po_none)))))))))))))))), ?_⟩
    refine ⟨by show 20 ≤ sizeLine; decide, fun o1 n1 => ?_⟩
    have E1 : Ex H (upd H o1 (.lst [(.str ""), (.str " "), (.str "  "), (.str ";"), (.str "; "), (.str ">"), (.str ","), (.str "-"), (.str "0"), (.str "1"), (.str "7"), (.str "19"), (.str "20"), (.str "21"), (.str "00"), (.str "01"), (.str "-1"), (.str "a"), (.str "_"), (.str "+")])) := Ex.nw n1
    have F1 : (upd H o1 (.lst [(.str ""), (.str " "), (.str "  "), (.str ";"), (.str "; "), (.str ">"), (.str ","), (.str "-"), (.str "0"), (.str "1"), (.str "7"), (.str "19"), (.str "20"), (.str "21"), (.str "00"), (.str "01"), (.str "-1"), (.str "a"), (.str "_"), (.str "+")])) o1 = some (.lst [(.str ""), (.str " "), (.str "  "), (.str ";"), (.str "; "), (.str ">"), (.str ","), (.str "-"), (.str "0"), (.str "1"), (.str "7"), (.str "19"), (.str "20"), (.str "21"), (.str "00"), (.str "01"), (.str "-1"), (.str "a"), (.str "_"), (.str "+")]) := upd_same
    generalize upd H o1 (.lst [(.str ""), (.str " "), (.str "  "), (.str ";"), (.str "; "), (.str ">"), (.str ","), (.str "-"), (.str "0"), (.str "1"), (.str "7"), (.str "19"), (.str "20"), (.str "21"), (.str "00"), (.str "01"), (.str "-1"), (.str "a"), (.str "_"), (.str "+")]) = G1 at E1 F1
    refine ⟨_, rfl, _, _, rfl, rfl, mulok30, _, _, rfl, rfl, mulok31, by show 14 ≤ sizeLine; decide, fun o2 n2 => ?_⟩
    have E2 : Ex G1 (upd G1 o2 (.lst [(.str "\n"), (.str "; -"), (.str "0>0"), (.str "0,1"), (.str (Txt.mul "9" 30)), (.str (Txt.mul "9" 31)), (.str "1_0"), (.str " 0"), (.str "0 "), (.str "."), (.str "0>"), (.str ">0"), (.str ",0"), (.str "0,")])) := Ex.nw n2
    have F2 : (upd G1 o2 (.lst [(.str "\n"), (.str "; -"), (.str "0>0"), (.str "0,1"), (.str (Txt.mul "9" 30)), (.str (Txt.mul "9" 31)), (.str "1_0"), (.str " 0"), (.str "0 "), (.str "."), (.str "0>"), (.str ">0"), (.str ",0"), (.str "0,")])) o2 = some (.lst [(.str "\n"), (.str "; -"), (.str "0>0"), (.str "0,1"), (.str (Txt.mul "9" 30)), (.str (Txt.mul "9" 31)), (.str "1_0"), (.str " 0"), (.str "0 "), (.str "."), (.str "0>"), (.str ">0"), (.str ",0"), (.str "0,")]) := upd_same
    generalize upd G1 o2 (.lst [(.str "\n"), (.str "; -"), (.str "0>0"), (.str "0,1"), (.str (Txt.mul "9" 30)), (.str (Txt.mul "9" 31)), (.str "1_0"), (.str " 0"), (.str "0 "), (.str "."), (.str "0>"), (.str ">0"), (.str ",0"), (.str "0,")]) = G2 at E2 F2
    have hp2 : Purse G2 p m := hp.up (E1.tr E2)
    refine ⟨o1, o2, sgA.map V.str, sgB.map V.str, rfl, rfl, .inl (.inl (E2 _ _ F1)), .inl (.inl F2), by decide +kernel, fun L hL => ?_⟩
    have Lp := hp2.off hL
    have e3 : Ex G2 (upd G2 L (.lst (sgA.map V.str ++ sgB.map V.str))) := Ex.nw hL
    have f3 : (upd G2 L (.lst (sgA.map V.str ++ sgB.map V.str))) L = some (.lst ((sgA ++ sgB).map V.str)) := by
      rw [upd_same, List.map_append]
    generalize upd G2 L (.lst (sgA.map V.str ++ sgB.map V.str)) = H3 at e3 f3
    have e03 : ExD p H H3 := (E1.tr (E2.tr e3)).d
    have hp3 := hp2.up e3
    have l34 : ((sgA ++ sgB).map V.str).length = 34 := by
      rw [List.length_map]
      exact sg_len
    -- the sign
    refine ⟨_, rfl, _, rfl, _, rfl, L, _, rfl, .inl (.inl (.inl f3)), p, (((sgA ++ sgB).map V.str).length : Int), m, rfl, by rw [l34]; decide, hp3, by omega, fun z H4 hz p4 e4 => ?_⟩
    have f4 := e4 L _ Lp f3
    obtain ⟨x, hxm, hx⟩ := atI_mem hz.1 hz.2
    obtain ⟨sg, hsg, rfl⟩ := List.mem_map.mp hxm
    have sl := sg_short sg hsg
    refine ⟨L, _, z, _, rfl, rfl, .inl (.inl f4), hx, ?_⟩
    -- the place
    refine ⟨_, rfl, _, rfl, t, rfl, le_line (by omega), _, _, rfl, rfl, p, _, _, rfl, ⟨by omega, by omega⟩, p4, by omega, fun at1 H5 ha p5 e5 => ?_⟩
    refine ⟨_, _, rfl, ?_⟩
    refine ⟨_, rfl, p, 6, _, rfl, by decide, p5, by omega, fun way H6 hw p6 e6 => ?_⟩
    have e06 : ExD p H H6 := e03.tr (e4.tr (e5.tr e6))
    have cl : ∀ lo hi, (cutS t lo hi).length ≤ t.length := fun lo hi => cutS_length t lo hi
    refine ⟨_, rfl, _, _, rfl, rfl, _, rfl, ite2 (fun h1 => ?_) (fun h1 => ?_)⟩
    · refine ⟨_, rfl, _, rfl, _, rfl, t, rfl, le_line (by omega), _, rfl, _, _, rfl, rfl, le_line ?_, _, rfl, _, rfl, _, rfl, t, rfl, le_line (by omega), _, _, rfl, rfl, le_line ?_, q _ H6 ?_ e06 (p6.mono (by omega))⟩
      · have := cl none (some at1)
        omega
      · have := cl none (some at1)
        have := cl (some at1) none
        rw [app_len]
        omega
      · have := cl none (some at1)
        have := cl (some at1) none
        rw [app_len, app_len]
        omega
    refine ⟨_, rfl, rfl, _, rfl, ite2 (fun h2 => ?_) (fun h2 => ?_)⟩
    · refine ⟨_, rfl, _, rfl, _, rfl, t, rfl, le_line (by omega), _, rfl, _, rfl, _, _, rfl, rfl, _, rfl, p, 3, _, rfl, by decide, p6, by omega, fun c H7 hc p7 e7 => ?_⟩
      refine ⟨_, _, rfl, rfl, _, rfl, t, rfl, le_line (by omega), _, _, rfl, rfl, le_line ?_, q _ H7 ?_ (e06.tr e7) (p7.mono (by omega))⟩
      · have := cl none (some at1)
        have := cl (some (at1 + 1 + c)) none
        omega
      · have := cl none (some at1)
        have := cl (some (at1 + 1 + c)) none
        rw [app_len]
        omega
    refine ⟨_, rfl, rfl, _, rfl, ite2 (fun h3 => ?_) (fun h3 => ?_)⟩
    · refine ⟨_, rfl, _, rfl, _, rfl, t, rfl, le_line (by omega), _, rfl, _, _, rfl, rfl, le_line ?_, _, rfl, _, rfl, _, _, rfl, rfl, _, rfl, t, rfl, le_line (by omega), _, _, rfl, rfl, le_line ?_, q _ H6 ?_ e06 (p6.mono (by omega))⟩
      · have := cl none (some at1)
        omega
      · have := cl none (some at1)
        have := cl (some (at1 + 1)) none
        rw [app_len]
        omega
      · have := cl none (some at1)
        have := cl (some (at1 + 1)) none
        rw [app_len, app_len]
        omega
    have ww := wgt_split t
    have wf := split_pos t "; "
    have wn := words_few (w := t) (sep := "; ") (by decide)
    refine ⟨_, rfl, ⟨_, rfl⟩, _, _, rfl, rfl, by decide +kernel, le_line (by omega), fun S hS => ?_⟩
    generalize Txt.split t "; " = W at ww wf wn ⊢
    have Sp := p6.off hS
    have e7 : Ex H6 (upd H6 S (.lst (W.map V.str))) := Ex.nw hS
    have f7 : (upd H6 S (.lst (W.map V.str))) S = some (.lst (W.map V.str)) := upd_same
    generalize upd H6 S (.lst (W.map V.str)) = H7 at e7 f7
    have p7 := p6.up e7
    have lW : (W.map V.str).length = W.length := List.length_map ..
    refine ⟨_, rfl, _, rfl, S, _, rfl, .inl (.inl (.inl f7)), p, ((W.map V.str).length : Int), _, rfl, ⟨by omega, by omega⟩, p7, by omega, fun spot H8 hs p8 e8 => ?_⟩
    have f8 := e8 S _ Sp f7
    have e08 : ExD p H H8 := e06.tr (e7.d.tr e8)
    refine ⟨_, rfl, rfl, _, rfl, ite2 (fun h4 => ?_) (fun h4 => ?_)⟩
    · obtain ⟨w1, c1, g1, g1'⟩ := cutV_str W none (some spot)
      obtain ⟨w2, c2, g2, g2'⟩ := cutV_str W (some (spot + 1)) none
      refine ⟨⟨_, rfl⟩, _, rfl, _, rfl, _, rfl, S, _, rfl, .inl (.inl f8), fun C1 hC1 => ?_⟩
      rw [c1]
      have e9 : Ex H8 (upd H8 C1 (.lst (w1.map V.str))) := Ex.nw hC1
      have f9 : (upd H8 C1 (.lst (w1.map V.str))) C1 = some (.lst (w1.map V.str)) := upd_same
      generalize upd H8 C1 (.lst (w1.map V.str)) = H9 at e9 f9
      refine ⟨_, rfl, _, rfl, _, _, rfl, rfl, _, rfl, S, _, rfl, .inl (.inl (e9 _ _ f8)), fun C2 hC2 => ?_⟩
      rw [c2]
      have e10 : Ex H9 (upd H9 C2 (.lst (w2.map V.str))) := Ex.nw hC2
      have f10 : (upd H9 C2 (.lst (w2.map V.str))) C2 = some (.lst (w2.map V.str)) := upd_same
      generalize upd H9 C2 (.lst (w2.map V.str)) = H10 at e10 f10
      refine ⟨C1, C2, _, _, rfl, rfl, .inl (.inl (e10 _ _ f9)), .inl (.inl f10), by rw [List.length_map, List.length_map]; omega, fun C3 hC3 => ?_⟩
      rw [← List.map_append]
      have e11 : Ex H10 (upd H10 C3 (.lst ((w1 ++ w2).map V.str))) := Ex.nw hC3
      have f11 : (upd H10 C3 (.lst ((w1 ++ w2).map V.str))) C3 = some (.lst ((w1 ++ w2).map V.str)) := upd_same
      generalize upd H10 C3 (.lst ((w1 ++ w2).map V.str)) = H11 at e11 f11
      have wa := wgt_app w1 w2
      obtain ⟨j1, j2⟩ := join_wgt (w1 ++ w2)
      have ea := e9.tr (e10.tr e11)
      exact ⟨_, C3, w1 ++ w2, rfl, rfl, .inl (.inl (.inl f11)), by omega, q _ H11 (by omega) (e08.tr ea.d) ((p8.up ea).mono (by omega))⟩
    -- the new part
    obtain ⟨z0, z0m, hz0⟩ := atI_mem (xs := W.map V.str) (z := 0) (by decide) (by omega)
    obtain ⟨s0, s0m, rfl⟩ := List.mem_map.mp z0m
    obtain ⟨z1, z1m, hz1⟩ := atI_end (xs := W.map V.str) (by omega)
    obtain ⟨s1, s1m, rfl⟩ := List.mem_map.mp z1m
    have b0 := wgt_mem s0m
    have b1 := wgt_mem s1m
    refine ⟨_, rfl, _, rfl, S, _, 0, _, rfl, rfl, .inl (.inl f8), hz0, _, rfl, 1, rfl, S, _, _, _, rfl, rfl, .inl (.inl f8), hz1, by show 3 ≤ sizeLine; decide, fun N hN => ?_⟩
    have Np := p8.off hN
    have e9 : Ex H8 (upd H8 N (.lst [.str sg, .str s0, .str s1])) := Ex.nw hN
    have f9 : (upd H8 N (.lst [.str sg, .str s0, .str s1])) N = some (.lst [.str sg, .str s0, .str s1]) := upd_same
    generalize upd H8 N (.lst [.str sg, .str s0, .str s1]) = H9 at e9 f9
    refine ⟨_, rfl, p, 3, _, rfl, by decide, p8.up e9, by omega, fun d HA hd pA eA => ?_⟩
    have fA := eA N _ Np f9
    obtain ⟨x2, x2m, hx2⟩ := atI_mem (xs := [V.str sg, .str s0, .str s1]) hd.1 (by exact hd.2)
    obtain ⟨nw, rfl, hnw⟩ : ∃ nw : Str, x2 = .str nw ∧ nw.length ≤ t.length + 33 := by
      simp only [List.mem_cons, List.not_mem_nil, or_false] at x2m
      rcases x2m with rfl | rfl | rfl
      · exact ⟨_, rfl, by omega⟩
      · exact ⟨_, rfl, by omega⟩
      · exact ⟨_, rfl, by omega⟩
    refine ⟨N, _, d, _, rfl, rfl, .inl (.inl fA), hx2, ?_⟩
    have f8A := eA S _ Sp (e9 _ _ f8)
    have e0A : ExD p H HA := e08.tr (e9.d.tr eA)
    obtain ⟨w1, c1, g1, g1'⟩ := cutV_str W none (some spot)
    refine ⟨⟨_, rfl⟩, _, rfl, _, rfl, _, rfl, S, _, rfl, .inl (.inl f8A), fun C1 hC1 => ?_⟩
    rw [c1]
    have C1p := pA.off hC1
    have eB : Ex HA (upd HA C1 (.lst (w1.map V.str))) := Ex.nw hC1
    have fB : (upd HA C1 (.lst (w1.map V.str))) C1 = some (.lst (w1.map V.str)) := upd_same
    generalize upd HA C1 (.lst (w1.map V.str)) = HB at eB fB
    refine ⟨_, rfl, by show 1 ≤ sizeLine; decide, fun C2 hC2 => ?_⟩
    have eC : Ex HB (upd HB C2 (.lst [.str nw])) := Ex.nw hC2
    have fC : (upd HB C2 (.lst [.str nw])) C2 = some (.lst [.str nw]) := upd_same
    generalize upd HB C2 (.lst [.str nw]) = HC at eC fC
    refine ⟨C1, C2, _, [.str nw], rfl, rfl, .inl (.inl (eC _ _ fB)), .inl (.inl fC), by rw [List.length_map]; show w1.length + 1 ≤ 1000000; omega, fun C3 hC3 => ?_⟩
    rw [show w1.map V.str ++ [V.str nw] = (w1 ++ [nw]).map V.str from by rw [List.map_append]; rfl]
    have pC := pA.up (eB.tr eC)
    have C3p := pC.off hC3
    have eD : Ex HC (upd HC C3 (.lst ((w1 ++ [nw]).map V.str))) := Ex.nw hC3
    have fD : (upd HC C3 (.lst ((w1 ++ [nw]).map V.str))) C3 = some (.lst ((w1 ++ [nw]).map V.str)) := upd_same
    generalize upd HC C3 (.lst ((w1 ++ [nw]).map V.str)) = HD at eD fD
    have eAD := eB.tr (eC.tr eD)
    refine ⟨_, rfl, _, rfl, _, rfl, p, 2, _, rfl, by decide, pA.up eAD, by omega, fun u HE hu pE eE => ?_⟩
    obtain ⟨w2, c2, g2, g2'⟩ := cutV_str W (some (spot + u)) none
    refine ⟨_, _, rfl, rfl, _, rfl, S, _, rfl, .inl (.inl (eE S _ Sp (eAD _ _ f8A))), fun C4 hC4 => ?_⟩
    rw [c2]
    have eF : Ex HE (upd HE C4 (.lst (w2.map V.str))) := Ex.nw hC4
    have fF : (upd HE C4 (.lst (w2.map V.str))) C4 = some (.lst (w2.map V.str)) := upd_same
    generalize upd HE C4 (.lst (w2.map V.str)) = HF at eF fF
    refine ⟨C3, C4, _, _, rfl, rfl, .inl (.inl (eF _ _ (eE C3 _ C3p fD))), .inl (.inl fF), by rw [List.length_map, List.length_map, List.length_append, List.length_singleton]; omega, fun C5 hC5 => ?_⟩
    rw [← List.map_append]
    have eG : Ex HF (upd HF C5 (.lst ((w1 ++ [nw] ++ w2).map V.str))) := Ex.nw hC5
    have fG : (upd HF C5 (.lst ((w1 ++ [nw] ++ w2).map V.str))) C5 = some (.lst ((w1 ++ [nw] ++ w2).map V.str)) := upd_same
    generalize upd HF C5 (.lst ((w1 ++ [nw] ++ w2).map V.str)) = HG at eG fG
    have wa := wgt_app (w1 ++ [nw]) w2
    have wb := wgt_app w1 [nw]
    have wc : wgt [nw] = nw.length + 2 := by simp [wgt]
    obtain ⟨j1, j2⟩ := join_wgt (w1 ++ [nw] ++ w2)
    have ea := eF.tr eG
    exact ⟨_, C5, w1 ++ [nw] ++ w2, rfl, rfl, .inl (.inl (.inl fG)), by omega, q _ HG (by omega) ((e0A.tr (eAD.d.tr eE)).tr ea.d) ((pE.up ea).mono (by omega))⟩
end

end K48
namespace K48
open PySem PySem.Spec PyProof.Rows L2 Nw
/-! _law_no_webs: slots 0 _law_web_here, 1 _law_count_here, 2 _law_pairs_here, 3 _law_nudges_here, 4 _law_found -/
abbrev s_no_webs : Stmt := topS 47
abbrev N_no_webs : List Str := ["_law_web_here", "_law_count_here", "_law_pairs_here", "_law_nudges_here", "_law_found"]
abbrev P_no_webs : List Str := ["_law_web_here"]
theorem sc_no_webs : FnScope N_no_webs P_no_webs (defScope s_no_webs) := ⟨rfl, rfl, rfl, by decide +kernel, rfl, by decide +kernel, by decide +kernel⟩
def NoW (K : PySem.W.Frag) (H : Hp) : List V → Prop
  | [] => True
  | v :: vs => (∃ d, Da K H d v ∧ Sh 41 40000 40 d ∧ webB d = false) ∧ NoW K H vs
theorem NoW.up {K : PySem.W.Frag} {H H' : Hp} (e : Ex H H') : ∀ {vs : List V}, NoW K H vs → NoW K H' vs
  | [], _ => trivial
  | v :: vs, g => by
    obtain ⟨d, h1, h2, h3⟩ := g.1
    exact ⟨⟨d, h1.up e, h2, h3⟩, NoW.up e g.2⟩
theorem NoW.app {K : PySem.W.Frag} {H : Hp} : ∀ {vs ws : List V}, NoW K H vs → NoW K H ws → NoW K H (vs ++ ws)
  | [], _, _, h => h
  | _ :: _, _, g, h => ⟨g.1, NoW.app g.2 h⟩
theorem NoW.at {K : PySem.W.Frag} {H : Hp} : ∀ {vs : List V} {i : Nat} {x : V}, NoW K H vs → vs[i]? = some x → ∃ d, Da K H d x ∧ Sh 41 40000 40 d ∧ webB d = false
  | [], _, _, _, h => by cases h
  | v :: vs, 0, x, g, h => by
    obtain rfl := Option.some.inj h
    exact g.1
  | v :: vs, i + 1, x, g, h => NoW.at (vs := vs) (i := i) g.2 h
theorem lstSh' {n k : Nat} {xs : List PyData} (h : Sh 41 n k (.tuple xs)) : Sh 41 n k (.list xs) := ⟨by have := h.s; simpa only [PyData.showable] using this, by have := h.l; simpa only [lf] using this, by have := h.n; simpa only [nodes] using this, by have := h.k; simpa only [PyData.depth] using this⟩
theorem tupSh' {n k : Nat} {xs : List PyData} (h : Sh 41 n k (.list xs)) : Sh 41 n k (.tuple xs) := ⟨by have := h.s; simpa only [PyData.showable] using this, by have := h.l; simpa only [lf] using this, by have := h.n; simpa only [nodes] using this, by have := h.k; simpa only [PyData.depth] using this⟩
theorem parts3 {n k : Nat} {a b c : PyData} (h : Sh 41 n k (.tuple [a, b, c])) : Sh 41 n k a ∧ Sh 41 n k b ∧ Sh 41 n k c := by
  obtain ⟨h1, h2, h3, h4⟩ := h
  simp only [PyData.showable, PyData.showableAll, lf, lfAll, nodes, nodesAll, PyData.depth, PyData.depthAll, Bool.and_eq_true, Bool.and_true] at h1 h2 h3 h4
  exact ⟨⟨h1.1, h2.1, by omega, by omega⟩, ⟨h1.2.1, h2.2.1, by omega, by omega⟩, ⟨h1.2.2, h2.2.2, by omega, by omega⟩⟩
theorem made3 {a b c : PyData} (h1 : Sh 41 12000 30 a) (h2 : Sh 41 12000 30 b) (h3 : Sh 41 12000 30 c) : Sh 41 40000 40 (.tuple [a, b, c]) :=
  (Sh.tuple (n := 12000) (k := 30) (m := 3) (fun x hx => by
    rcases List.mem_cons.mp hx with rfl | hx
    · exact h1
    · rcases List.mem_cons.mp hx with rfl | hx
      · exact h2
      · obtain rfl := List.mem_singleton.mp hx
        exact h3) (Nat.le_refl _)).wide (by omega) (by omega)
theorem made2 {a b : PyData} (h1 : Sh 41 12000 30 a) (h2 : Sh 41 12000 30 b) : Sh 41 40000 40 (.tuple [a, b]) :=
  (Sh.tuple (n := 12000) (k := 30) (m := 2) (fun x hx => by
    rcases List.mem_cons.mp hx with rfl | hx
    · exact h1
    · obtain rfl := List.mem_singleton.mp hx
      exact h2) (Nat.le_refl _)).wide (by omega) (by omega)
theorem no_pairs {n : Int} {a b : PyData} (h : tuplesB a n n = false) : webB (.tuple [.int n, a, b]) = false := by
  simp only [webB, h, Bool.false_and, Bool.and_false]
theorem no_nudges {n : Int} {a b : PyData} (h : nudgesB b n = false) : webB (.tuple [.int n, a, b]) = false := by
  simp only [webB, h, Bool.and_false]
theorem no_20 {n : Int} {es : List PyData} (h : n ≤ 20) : nudgesB (.list (es ++ [.list [.int 20]])) n = false := by
  have e : targetsB (.list [.int 20]) n = false := by
    have : decide ((20 : Int) < n) = false := decide_eq_false (by omega)
    simp only [targetsB, List.all_cons, List.all_nil, numB, this, Bool.and_false, Bool.false_and]
  simp only [nudgesB, List.all_append, List.all_cons, e, Bool.false_and, Bool.and_false]
theorem no_over {n : Int} : tuplesB (.list [.tuple [.int 0, .int n]]) n n = false := by
  have : decide (n < n) = false := decide_eq_false (by omega)
  simp only [tuplesB, List.all_cons, List.all_nil, tupB, numB, this, Bool.and_false, Bool.false_and]
theorem sh_over {n : Int} (h : Sh 41 12000 30 (.int n)) : Sh 41 12000 30 (.list [.tuple [.int 0, .int n]]) := by
  obtain ⟨h1, h2, h3, h4⟩ := h
  have z : lf 41 (.int 0) = true := by decide +kernel
  refine ⟨?_, ?_, ?_, ?_⟩
  · simp only [PyData.showable, PyData.showableAll, Bool.and_true, Bool.and_eq_true] at h1 ⊢
    exact ⟨by decide +kernel, h1⟩
  · simp only [lf, lfAll, Bool.and_true, Bool.and_eq_true] at h2 z ⊢
    exact ⟨z, h2⟩
  · simp only [nodes, nodesAll]
    omega
  · simp only [PyData.depth, PyData.depthAll]
    omega
theorem sh_cut {u : Wb} (hu : u.Ok) {es : List PyData} (h : ∀ e ∈ es, e ∈ u.ns.map dInts) (hl : es.length ≤ 8) : Sh 41 12000 30 (.list (es ++ [.list [.int 20]])) :=
  (Sh.list (n := 21) (k := 1) (m := 9) (fun x hx => by
    rcases List.mem_append.mp hx with hx | hx
    · obtain ⟨r, hr, rfl⟩ := List.mem_map.mp (h x hx)
      have b := (hu.ns r hr).2.1
      have h20 := hu.hi
      refine Sh.ints (k := 40) (m := 20) (by decide) (fun t ht => ?_) (fun t ht => ?_) (hu.row hr)
      · have := b t ht
        exact Nat.lt_of_lt_of_le (show t.natAbs < 64 by omega) (by decide +kernel)
      · have := b t ht
        exact Nat.lt_of_lt_of_le (show t.natAbs < 64 by omega) (by decide +kernel)
    · obtain rfl := List.mem_singleton.mp hx
      exact shB_sh (by decide +kernel)) (by rw [List.length_append, List.length_singleton]; omega)).wide (by omega) (by omega)
theorem ex_rm_new {H H' : Hp} {L : Addr} (e : Ex H H') (n : H L = none) : Ex H (rm H' L) := fun b o h => by
  have : b ≠ L := fun z => by
    rw [z, n] at h
    cases h
  rw [rm_ne this]
  exact e b o h
theorem ex_rm_upd {H : Hp} {L : Addr} {o : HO} : Ex (rm H L) (upd H L o) := fun b u h => by
  have : b ≠ L := fun z => by
    rw [z, rm_at] at h
    cases h
  rw [rm_ne this] at h
  rw [upd_ne this]
  exact h
def sp_no_webs (K : PySem.W.Frag) : Sp := fun vs H Q _ => ∃ v u, vs = [v] ∧ Da K H (Wb.d u) v ∧ u.Ok ∧ ∀ l xs H', Ex H H' → H' l = some (.lst xs) → NoW K H' xs → Q (.ref l) H'
section
variable {P : Program} {w : World} {K : PySem.W.Frag} {mg : Str → Option Value} {base : Heap}
theorem ok_no_webs {f : Addr} {fd : FuncData} (T : Txt K mg) (F : Fun K "_law_no_webs" "_law_no_webs" s_no_webs f fd) :
    FnG P w K mg base CX0 1 f fd P_no_webs (sp_no_webs K) := by
  refine okG0 F sc_no_webs (fun vs H Q E h => ?_) (fun cdv A outer s H vs Q E hr hq h => ?_)
  · obtain ⟨v, u, rfl, _⟩ := h
    rfl
  · obtain ⟨v, u, rfl, hd, hu, q⟩ := h
    obtain ⟨tw, x2, x3, rfl, hS, g2, g3⟩ := Wb.at hd
    obtain ⟨sI, sP, sN⟩ := parts3 (hu.sh.wide (by omega) (by omega) : Sh 41 12000 30 u.d)
    have h20 := hu.hi
    refine ⟨_, (pss_cons (ps_asg (pv 0) (pg_tupK (n := 3) K rfl (pgs_cons (pg_name (i := 1) sc_no_webs.nd rfl (by first | exact .inl rfl | exact .inr rfl)) (pgs_cons (pg_name (i := 2) sc_no_webs.nd rfl (by first | exact .inl rfl | exact .inr rfl)) (pgs_cons (pg_name (i := 3) sc_no_webs.nd rfl (by first | exact .inl rfl | exact .inr rfl)) pgs_nil)))))
      (pss_cons (ps_set (i := 4) sc_no_webs.nd rfl (by first | exact .inl rfl | exact .inr rfl) (pe_lst (pa_cons pe_non (pa_cons pe_int (pa_cons pe_bl (pa_cons pe_str (pa_cons pe_str (pa_cons (pe_lst pa_nil) (pa_cons (pe_tup pa_nil) (pa_cons pe_dnewK (pa_cons (pe_callTy (call_listK K) (by rfl) T.b_list bt_list (pa_cons (pv 0) pa_nil)) (pa_cons (pe_slice (sl_tupK K) (pv 0) po_none (po_some pe_int)) (pa_cons (pe_tup (pa_cons pe_int (pa_cons (pe_lst pa_nil) (pa_cons (pe_lst pa_nil) pa_nil)))) (pa_cons (pe_tup (pa_cons pe_int (pa_cons (pe_lst pa_nil) (pa_cons (pe_lst pa_nil) pa_nil)))) pa_nil))))))))))))))
      (pss_cons (ps_set (i := 4) sc_no_webs.nd rfl (by first | exact .inl rfl | exact .inr rfl) (pe_op (op_catS K) (pv 4) (pe_lst (pa_cons (pe_tup (pa_cons pe_bl (pa_cons (pe_lst pa_nil) (pa_cons (pe_lst pa_nil) pa_nil)))) (pa_cons (pe_tup (pa_cons pe_int (pa_cons (pe_lst (pa_cons (pe_tup (pa_cons pe_int (pa_cons pe_int pa_nil))) pa_nil)) (pa_cons (pe_lst pa_nil) pa_nil)))) (pa_cons (pe_tup (pa_cons pe_int (pa_cons (pe_lst (pa_cons (pe_tup (pa_cons pe_int (pa_cons pe_int pa_nil))) pa_nil)) (pa_cons (pe_lst pa_nil) pa_nil)))) (pa_cons (pe_tup (pa_cons pe_int (pa_cons (pe_lst (pa_cons (pe_tup (pa_cons pe_int (pa_cons pe_int pa_nil))) (pa_cons (pe_tup (pa_cons pe_int (pa_cons pe_int pa_nil))) pa_nil))) (pa_cons (pe_lst pa_nil) pa_nil)))) (pa_cons (pe_tup (pa_cons pe_int (pa_cons (pe_lst pa_nil) (pa_cons (pe_lst (pa_cons (pe_lst pa_nil) pa_nil)) pa_nil)))) pa_nil))))))))
      (pss_cons (ps_set (i := 4) sc_no_webs.nd rfl (by first | exact .inl rfl | exact .inr rfl) (pe_op (op_catS K) (pv 4) (pe_lst (pa_cons (pe_tup (pa_cons pe_int (pa_cons (pe_lst pa_nil) (pa_cons (pe_op op_rep (pe_lst (pa_cons (pe_lst (pa_cons pe_int pa_nil)) pa_nil)) pe_int) pa_nil)))) (pa_cons (pe_tup (pa_cons pe_int (pa_cons (pe_lst pa_nil) (pa_cons (pe_lst (pa_cons (pe_tup (pa_cons pe_int pa_nil)) pa_nil)) pa_nil)))) (pa_cons (pe_tup (pa_cons pe_int (pa_cons (pe_lst (pa_cons (pe_lst (pa_cons pe_int (pa_cons pe_int pa_nil))) pa_nil)) (pa_cons (pe_lst pa_nil) pa_nil)))) (pa_cons (pe_tup (pa_cons pe_int (pa_cons (pe_lst (pa_cons (pe_tup (pa_cons pe_int (pa_cons pe_int pa_nil))) (pa_cons (pe_tup (pa_cons pe_int (pa_cons pe_int pa_nil))) pa_nil))) (pa_cons (pe_lst pa_nil) pa_nil)))) pa_nil)))))))
      (pss_cons (ps_expr (pe_bm PySem.F.plainAttrs_list PySem.F.slot_list_append PySem.F.type_list_append mt_append (pv 4) (pa_cons (pe_tup (pa_cons pe_int (pa_cons (pe_lst pa_nil) (pa_cons (pe_lst (pa_cons (pe_lst (pa_cons pe_int (pa_cons pe_int pa_nil))) pa_nil)) pa_nil)))) pa_nil)))
      (pss_cons (ps_set (i := 4) sc_no_webs.nd rfl (by first | exact .inl rfl | exact .inr rfl) (pe_op (op_catS K) (pv 4) (pe_lst (pa_cons (pe_tup (pa_cons (pv 1) (pa_cons (pe_callTy (call_tupleK K) (by rfl) T.b_tuple bt_tuple (pa_cons (pv 2) pa_nil)) (pa_cons (pv 3) pa_nil)))) (pa_cons (pe_tup (pa_cons (pv 1) (pa_cons (pv 2) (pa_cons (pe_op (op_catS K) (pe_slice (sl_listK K) (pv 3) po_none (po_some pe_int)) (pe_lst (pa_cons (pe_lst (pa_cons pe_int pa_nil)) pa_nil))) pa_nil)))) pa_nil)))))
      (pss_cons (ps_expr (pe_bm PySem.F.plainAttrs_list PySem.F.slot_list_append PySem.F.type_list_append mt_append (pv 4) (pa_cons (pe_tup (pa_cons (pv 1) (pa_cons (pe_lst (pa_cons (pe_tup (pa_cons pe_int (pa_cons (pv 1) pa_nil))) pa_nil)) (pa_cons (pv 3) pa_nil)))) pa_nil)))
      (pss_one (ps_ret (pe_op (op_catS K) (pv 4) (pe_lst (pa_cons (pe_tup (pa_cons (pv 1) (pa_cons pe_non (pa_cons (pv 3) pa_nil)))) (pa_cons (pe_tup (pa_cons (pv 1) (pa_cons (pv 2) (pa_cons pe_non pa_nil)))) (pa_cons (pe_tup (pa_cons pe_int (pa_cons (pe_lst (pa_cons (pe_tup (pa_cons pe_int (pa_cons pe_bl pa_nil))) pa_nil)) (pa_cons (pe_lst pa_nil) pa_nil)))) pa_nil)))))))))))))), ?_⟩
    refine ⟨_, rfl, tw, _, rfl, hS, rfl, _, _, rfl, _, _, rfl, _, _, rfl, rfl, ?_⟩
    obtain ⟨a2, xs2, rfl, hL2, hA2, hz2⟩ := g2
    obtain ⟨a3, xs3, rfl, hL3, hA3, hz3⟩ := g3
    have dP : Da K H (dPairs u.ps) (.ref a2) := ⟨a2, xs2, rfl, hL2, hA2, hz2⟩
    have dN : Da K H (dRows u.ns) (.ref a3) := ⟨a3, xs3, rfl, hL3, hA3, hz3⟩
    have l3 := hA3.len
    rw [List.length_map] at l3
    have few := hu.few
    refine ⟨Nat.zero_le _, fun o1 n1 => ?_⟩
    have E1 : Ex H (upd H o1 (.lst [])) := Ex.nw n1
    have F1 : (upd H o1 (.lst [])) o1 = some (.lst []) := upd_same
    generalize upd H o1 (.lst []) = G1 at E1 F1
    refine ⟨Nat.zero_le _, fun o2 n2 => ?_⟩
    have E2 : Ex G1 (upd G1 o2 (.tup [])) := Ex.nw n2
    have F2 : (upd G1 o2 (.tup [])) o2 = some (.tup []) := upd_same
    generalize upd G1 o2 (.tup []) = G2 at E2 F2
    refine fun o3 n3 => ?_
    have E3 : Ex G2 (upd G2 o3 (.dK [])) := Ex.nw n3
    have F3 : (upd G2 o3 (.dK [])) o3 = some (.dK []) := upd_same
    generalize upd G2 o3 (.dK []) = G3 at E3 F3
    refine ⟨_, rfl, tw, _, rfl, .inr ((E1.tr (E2.tr E3)).t hS), fun o4 n4 => ?_⟩
    have E4 : Ex G3 (upd G3 o4 (.lst [.int u.n, .ref a2, .ref a3])) := Ex.nw n4
    have F4 : (upd G3 o4 (.lst [.int u.n, .ref a2, .ref a3])) o4 = some (.lst [.int u.n, .ref a2, .ref a3]) := upd_same
    generalize upd G3 o4 (.lst [.int u.n, .ref a2, .ref a3]) = G4 at E4 F4
    refine ⟨_, rfl, _, rfl, tw, _, rfl, ((E1.tr (E2.tr (E3.tr E4))).t hS), (fun h => absurd h.2 (show ¬ ((2 : Nat) = 3) from by decide)), fun o5 n5 => ?_⟩
    rw [show cutV [V.int u.n, V.ref a2, V.ref a3] none (some 2) = [.int u.n, .ref a2] from rfl]
    have E5 : Ex G4 (upd G4 o5 (.tup [.int u.n, .ref a2])) := Ex.nw n5
    have F5 : (upd G4 o5 (.tup [.int u.n, .ref a2])) o5 = some (.tup [.int u.n, .ref a2]) := upd_same
    generalize upd G4 o5 (.tup [.int u.n, .ref a2]) = G5 at E5 F5
    refine ⟨Nat.zero_le _, fun o6 n6 => ?_⟩
    have E6 : Ex G5 (upd G5 o6 (.lst [])) := Ex.nw n6
    have F6 : (upd G5 o6 (.lst [])) o6 = some (.lst []) := upd_same
    generalize upd G5 o6 (.lst []) = G6 at E6 F6
    refine ⟨Nat.zero_le _, fun o7 n7 => ?_⟩
    have E7 : Ex G6 (upd G6 o7 (.lst [])) := Ex.nw n7
    have F7 : (upd G6 o7 (.lst [])) o7 = some (.lst []) := upd_same
    generalize upd G6 o7 (.lst []) = G7 at E7 F7
    refine ⟨by show 3 ≤ sizeLine; decide, fun o8 n8 => ?_⟩
    have E8 : Ex G7 (upd G7 o8 (.tup [(.int 0), (.ref o6), (.ref o7)])) := Ex.nw n8
    have F8 : (upd G7 o8 (.tup [(.int 0), (.ref o6), (.ref o7)])) o8 = some (.tup [(.int 0), (.ref o6), (.ref o7)]) := upd_same
    generalize upd G7 o8 (.tup [(.int 0), (.ref o6), (.ref o7)]) = G8 at E8 F8
    refine ⟨Nat.zero_le _, fun o9 n9 => ?_⟩
    have E9 : Ex G8 (upd G8 o9 (.lst [])) := Ex.nw n9
    have F9 : (upd G8 o9 (.lst [])) o9 = some (.lst []) := upd_same
    generalize upd G8 o9 (.lst []) = G9 at E9 F9
    refine ⟨Nat.zero_le _, fun o10 n10 => ?_⟩
    have E10 : Ex G9 (upd G9 o10 (.lst [])) := Ex.nw n10
    have F10 : (upd G9 o10 (.lst [])) o10 = some (.lst []) := upd_same
    generalize upd G9 o10 (.lst []) = G10 at E10 F10
    refine ⟨by show 3 ≤ sizeLine; decide, fun o11 n11 => ?_⟩
    have E11 : Ex G10 (upd G10 o11 (.tup [(.int 21), (.ref o9), (.ref o10)])) := Ex.nw n11
    have F11 : (upd G10 o11 (.tup [(.int 21), (.ref o9), (.ref o10)])) o11 = some (.tup [(.int 21), (.ref o9), (.ref o10)]) := upd_same
    generalize upd G10 o11 (.tup [(.int 21), (.ref o9), (.ref o10)]) = G11 at E11 F11
    refine ⟨by show 12 ≤ sizeLine; decide, fun o12 n12 => ?_⟩
    have E12 : Ex G11 (upd G11 o12 (.lst [.non, (.int 0), (.bl true), (.str ""), (.str "1; -; -"), (.ref o1), (.ref o2), (.ref o3), (.ref o4), (.ref o5), (.ref o8), (.ref o11)])) := Ex.nw n12
    have F12 : (upd G11 o12 (.lst [.non, (.int 0), (.bl true), (.str ""), (.str "1; -; -"), (.ref o1), (.ref o2), (.ref o3), (.ref o4), (.ref o5), (.ref o8), (.ref o11)])) o12 = some (.lst [.non, (.int 0), (.bl true), (.str ""), (.str "1; -; -"), (.ref o1), (.ref o2), (.ref o3), (.ref o4), (.ref o5), (.ref o8), (.ref o11)]) := upd_same
    generalize upd G11 o12 (.lst [.non, (.int 0), (.bl true), (.str ""), (.str "1; -; -"), (.ref o1), (.ref o2), (.ref o3), (.ref o4), (.ref o5), (.ref o8), (.ref o11)]) = G12 at E12 F12
    have pA : NoW K G12 [.non, (.int 0), (.bl true), (.str ""), (.str "1; -; -"), (.ref o1), (.ref o2), (.ref o3), (.ref o4), (.ref o5), (.ref o8), (.ref o11)] := ⟨⟨.none, rfl, (shB_sh (by decide +kernel)), (by decide +kernel)⟩,
        ⟨(.int 0), rfl, (shB_sh (by decide +kernel)), (by decide +kernel)⟩,
        ⟨(.bool true), rfl, (shB_sh (by decide +kernel)), (by decide +kernel)⟩,
        ⟨(.str ""), rfl, (shB_sh (by decide +kernel)), (by decide +kernel)⟩,
        ⟨(.str "1; -; -"), rfl, (shB_sh (by decide +kernel)), (by decide +kernel)⟩,
        ⟨(.list []), ⟨o1, _, rfl, (E2.tr (E3.tr (E4.tr (E5.tr (E6.tr (E7.tr (E8.tr (E9.tr (E10.tr (E11.tr E12)))))))))) _ _ F1, rfl, by show 0 ≤ 100000; decide⟩, (shB_sh (by decide +kernel)), (by decide +kernel)⟩,
        ⟨(.tuple []), ⟨o2, _, rfl, (E3.tr (E4.tr (E5.tr (E6.tr (E7.tr (E8.tr (E9.tr (E10.tr (E11.tr E12))))))))) _ _ F2, rfl⟩, (shB_sh (by decide +kernel)), (by decide +kernel)⟩,
        ⟨(.dict []), ⟨o3, [], rfl, (E4.tr (E5.tr (E6.tr (E7.tr (E8.tr (E9.tr (E10.tr (E11.tr E12)))))))) _ _ F3, rfl, rfl⟩, (shB_sh (by decide +kernel)), (by decide +kernel)⟩,
        ⟨(.list [.int u.n, dPairs u.ps, dRows u.ns]), ⟨o4, _, rfl, (E5.tr (E6.tr (E7.tr (E8.tr (E9.tr (E10.tr (E11.tr E12))))))) _ _ F4, ⟨_, _, rfl, rfl, _, _, rfl, dP.up (E1.tr (E2.tr (E3.tr (E4.tr (E5.tr (E6.tr (E7.tr (E8.tr (E9.tr (E10.tr (E11.tr E12))))))))))), _, _, rfl, dN.up (E1.tr (E2.tr (E3.tr (E4.tr (E5.tr (E6.tr (E7.tr (E8.tr (E9.tr (E10.tr (E11.tr E12))))))))))), rfl⟩, by show 3 ≤ 100000; decide⟩, (lstSh' (made3 sI sP sN)), rfl⟩,
        ⟨(.tuple [.int u.n, dPairs u.ps]), ⟨o5, _, rfl, (E6.tr (E7.tr (E8.tr (E9.tr (E10.tr (E11.tr E12)))))) _ _ F5, ⟨_, _, rfl, rfl, _, _, rfl, dP.up (E1.tr (E2.tr (E3.tr (E4.tr (E5.tr (E6.tr (E7.tr (E8.tr (E9.tr (E10.tr (E11.tr E12))))))))))), rfl⟩⟩, (made2 sI sP), rfl⟩,
        ⟨(.tuple [(.int 0), (.list []), (.list [])]), ⟨o8, _, rfl, (E9.tr (E10.tr (E11.tr E12))) _ _ F8, ⟨_, _, rfl, rfl, ⟨_, _, rfl, ⟨o6, _, rfl, (E7.tr (E8.tr (E9.tr (E10.tr (E11.tr E12))))) _ _ F6, rfl, by show 0 ≤ 100000; decide⟩, ⟨_, _, rfl, ⟨o7, _, rfl, (E8.tr (E9.tr (E10.tr (E11.tr E12)))) _ _ F7, rfl, by show 0 ≤ 100000; decide⟩, rfl⟩⟩⟩⟩, (shB_sh (by decide +kernel)), (by decide +kernel)⟩,
        ⟨(.tuple [(.int 21), (.list []), (.list [])]), ⟨o11, _, rfl, E12 _ _ F11, ⟨_, _, rfl, rfl, ⟨_, _, rfl, ⟨o9, _, rfl, (E10.tr (E11.tr E12)) _ _ F9, rfl, by show 0 ≤ 100000; decide⟩, ⟨_, _, rfl, ⟨o10, _, rfl, (E11.tr E12) _ _ F10, rfl, by show 0 ≤ 100000; decide⟩, rfl⟩⟩⟩⟩, (shB_sh (by decide +kernel)), (by decide +kernel)⟩, trivial⟩
    refine ⟨_, rfl, Nat.zero_le _, fun o13 n13 => ?_⟩
    have E13 : Ex G12 (upd G12 o13 (.lst [])) := Ex.nw n13
    have F13 : (upd G12 o13 (.lst [])) o13 = some (.lst []) := upd_same
    generalize upd G12 o13 (.lst []) = G13 at E13 F13
    refine ⟨Nat.zero_le _, fun o14 n14 => ?_⟩
    have E14 : Ex G13 (upd G13 o14 (.lst [])) := Ex.nw n14
    have F14 : (upd G13 o14 (.lst [])) o14 = some (.lst []) := upd_same
    generalize upd G13 o14 (.lst []) = G14 at E14 F14
    refine ⟨by show 3 ≤ sizeLine; decide, fun o15 n15 => ?_⟩
    have E15 : Ex G14 (upd G14 o15 (.tup [(.bl true), (.ref o13), (.ref o14)])) := Ex.nw n15
    have F15 : (upd G14 o15 (.tup [(.bl true), (.ref o13), (.ref o14)])) o15 = some (.tup [(.bl true), (.ref o13), (.ref o14)]) := upd_same
    generalize upd G14 o15 (.tup [(.bl true), (.ref o13), (.ref o14)]) = G15 at E15 F15
    refine ⟨by show 2 ≤ sizeLine; decide, fun o16 n16 => ?_⟩
    have E16 : Ex G15 (upd G15 o16 (.tup [(.int 0), (.int 1)])) := Ex.nw n16
    have F16 : (upd G15 o16 (.tup [(.int 0), (.int 1)])) o16 = some (.tup [(.int 0), (.int 1)]) := upd_same
    generalize upd G15 o16 (.tup [(.int 0), (.int 1)]) = G16 at E16 F16
    refine ⟨by show 1 ≤ sizeLine; decide, fun o17 n17 => ?_⟩
    have E17 : Ex G16 (upd G16 o17 (.lst [(.ref o16)])) := Ex.nw n17
    have F17 : (upd G16 o17 (.lst [(.ref o16)])) o17 = some (.lst [(.ref o16)]) := upd_same
    generalize upd G16 o17 (.lst [(.ref o16)]) = G17 at E17 F17
    refine ⟨Nat.zero_le _, fun o18 n18 => ?_⟩
    have E18 : Ex G17 (upd G17 o18 (.lst [])) := Ex.nw n18
    have F18 : (upd G17 o18 (.lst [])) o18 = some (.lst []) := upd_same
    generalize upd G17 o18 (.lst []) = G18 at E18 F18
    refine ⟨by show 3 ≤ sizeLine; decide, fun o19 n19 => ?_⟩
    have E19 : Ex G18 (upd G18 o19 (.tup [(.int 1), (.ref o17), (.ref o18)])) := Ex.nw n19
    have F19 : (upd G18 o19 (.tup [(.int 1), (.ref o17), (.ref o18)])) o19 = some (.tup [(.int 1), (.ref o17), (.ref o18)]) := upd_same
    generalize upd G18 o19 (.tup [(.int 1), (.ref o17), (.ref o18)]) = G19 at E19 F19
    refine ⟨by show 2 ≤ sizeLine; decide, fun o20 n20 => ?_⟩
    have E20 : Ex G19 (upd G19 o20 (.tup [(.int 0), (.int 5)])) := Ex.nw n20
    have F20 : (upd G19 o20 (.tup [(.int 0), (.int 5)])) o20 = some (.tup [(.int 0), (.int 5)]) := upd_same
    generalize upd G19 o20 (.tup [(.int 0), (.int 5)]) = G20 at E20 F20
    refine ⟨by show 1 ≤ sizeLine; decide, fun o21 n21 => ?_⟩
    have E21 : Ex G20 (upd G20 o21 (.lst [(.ref o20)])) := Ex.nw n21
    have F21 : (upd G20 o21 (.lst [(.ref o20)])) o21 = some (.lst [(.ref o20)]) := upd_same
    generalize upd G20 o21 (.lst [(.ref o20)]) = G21 at E21 F21
    refine ⟨Nat.zero_le _, fun o22 n22 => ?_⟩
    have E22 : Ex G21 (upd G21 o22 (.lst [])) := Ex.nw n22
    have F22 : (upd G21 o22 (.lst [])) o22 = some (.lst []) := upd_same
    generalize upd G21 o22 (.lst []) = G22 at E22 F22
    refine ⟨by show 3 ≤ sizeLine; decide, fun o23 n23 => ?_⟩
    have E23 : Ex G22 (upd G22 o23 (.tup [(.int 1), (.ref o21), (.ref o22)])) := Ex.nw n23
    have F23 : (upd G22 o23 (.tup [(.int 1), (.ref o21), (.ref o22)])) o23 = some (.tup [(.int 1), (.ref o21), (.ref o22)]) := upd_same
    generalize upd G22 o23 (.tup [(.int 1), (.ref o21), (.ref o22)]) = G23 at E23 F23
    refine ⟨by show 2 ≤ sizeLine; decide, fun o24 n24 => ?_⟩
    have E24 : Ex G23 (upd G23 o24 (.tup [(.int 1), (.int 0)])) := Ex.nw n24
    have F24 : (upd G23 o24 (.tup [(.int 1), (.int 0)])) o24 = some (.tup [(.int 1), (.int 0)]) := upd_same
    generalize upd G23 o24 (.tup [(.int 1), (.int 0)]) = G24 at E24 F24
    refine ⟨by show 2 ≤ sizeLine; decide, fun o25 n25 => ?_⟩
    have E25 : Ex G24 (upd G24 o25 (.tup [(.int 0), (.int 1)])) := Ex.nw n25
    have F25 : (upd G24 o25 (.tup [(.int 0), (.int 1)])) o25 = some (.tup [(.int 0), (.int 1)]) := upd_same
    generalize upd G24 o25 (.tup [(.int 0), (.int 1)]) = G25 at E25 F25
    refine ⟨by show 2 ≤ sizeLine; decide, fun o26 n26 => ?_⟩
    have E26 : Ex G25 (upd G25 o26 (.lst [(.ref o24), (.ref o25)])) := Ex.nw n26
    have F26 : (upd G25 o26 (.lst [(.ref o24), (.ref o25)])) o26 = some (.lst [(.ref o24), (.ref o25)]) := upd_same
    generalize upd G25 o26 (.lst [(.ref o24), (.ref o25)]) = G26 at E26 F26
    refine ⟨Nat.zero_le _, fun o27 n27 => ?_⟩
    have E27 : Ex G26 (upd G26 o27 (.lst [])) := Ex.nw n27
    have F27 : (upd G26 o27 (.lst [])) o27 = some (.lst []) := upd_same
    generalize upd G26 o27 (.lst []) = G27 at E27 F27
    refine ⟨by show 3 ≤ sizeLine; decide, fun o28 n28 => ?_⟩
    have E28 : Ex G27 (upd G27 o28 (.tup [(.int 2), (.ref o26), (.ref o27)])) := Ex.nw n28
    have F28 : (upd G27 o28 (.tup [(.int 2), (.ref o26), (.ref o27)])) o28 = some (.tup [(.int 2), (.ref o26), (.ref o27)]) := upd_same
    generalize upd G27 o28 (.tup [(.int 2), (.ref o26), (.ref o27)]) = G28 at E28 F28
    refine ⟨Nat.zero_le _, fun o29 n29 => ?_⟩
    have E29 : Ex G28 (upd G28 o29 (.lst [])) := Ex.nw n29
    have F29 : (upd G28 o29 (.lst [])) o29 = some (.lst []) := upd_same
    generalize upd G28 o29 (.lst []) = G29 at E29 F29
    refine ⟨Nat.zero_le _, fun o30 n30 => ?_⟩
    have E30 : Ex G29 (upd G29 o30 (.lst [])) := Ex.nw n30
    have F30 : (upd G29 o30 (.lst [])) o30 = some (.lst []) := upd_same
    generalize upd G29 o30 (.lst []) = G30 at E30 F30
    refine ⟨by show 1 ≤ sizeLine; decide, fun o31 n31 => ?_⟩
    have E31 : Ex G30 (upd G30 o31 (.lst [(.ref o30)])) := Ex.nw n31
    have F31 : (upd G30 o31 (.lst [(.ref o30)])) o31 = some (.lst [(.ref o30)]) := upd_same
    generalize upd G30 o31 (.lst [(.ref o30)]) = G31 at E31 F31
    refine ⟨by show 3 ≤ sizeLine; decide, fun o32 n32 => ?_⟩
    have E32 : Ex G31 (upd G31 o32 (.tup [(.int 1), (.ref o29), (.ref o31)])) := Ex.nw n32
    have F32 : (upd G31 o32 (.tup [(.int 1), (.ref o29), (.ref o31)])) o32 = some (.tup [(.int 1), (.ref o29), (.ref o31)]) := upd_same
    generalize upd G31 o32 (.tup [(.int 1), (.ref o29), (.ref o31)]) = G32 at E32 F32
    refine ⟨by show 5 ≤ sizeLine; decide, fun o33 n33 => ?_⟩
    have E33 : Ex G32 (upd G32 o33 (.lst [(.ref o15), (.ref o19), (.ref o23), (.ref o28), (.ref o32)])) := Ex.nw n33
    have F33 : (upd G32 o33 (.lst [(.ref o15), (.ref o19), (.ref o23), (.ref o28), (.ref o32)])) o33 = some (.lst [(.ref o15), (.ref o19), (.ref o23), (.ref o28), (.ref o32)]) := upd_same
    generalize upd G32 o33 (.lst [(.ref o15), (.ref o19), (.ref o23), (.ref o28), (.ref o32)]) = G33 at E33 F33
    have pB : NoW K G33 [(.ref o15), (.ref o19), (.ref o23), (.ref o28), (.ref o32)] := ⟨⟨(.tuple [(.bool true), (.list []), (.list [])]), ⟨o15, _, rfl, (E16.tr (E17.tr (E18.tr (E19.tr (E20.tr (E21.tr (E22.tr (E23.tr (E24.tr (E25.tr (E26.tr (E27.tr (E28.tr (E29.tr (E30.tr (E31.tr (E32.tr E33))))))))))))))))) _ _ F15, ⟨_, _, rfl, rfl, ⟨_, _, rfl, ⟨o13, _, rfl, (E14.tr (E15.tr (E16.tr (E17.tr (E18.tr (E19.tr (E20.tr (E21.tr (E22.tr (E23.tr (E24.tr (E25.tr (E26.tr (E27.tr (E28.tr (E29.tr (E30.tr (E31.tr (E32.tr E33))))))))))))))))))) _ _ F13, rfl, by show 0 ≤ 100000; decide⟩, ⟨_, _, rfl, ⟨o14, _, rfl, (E15.tr (E16.tr (E17.tr (E18.tr (E19.tr (E20.tr (E21.tr (E22.tr (E23.tr (E24.tr (E25.tr (E26.tr (E27.tr (E28.tr (E29.tr (E30.tr (E31.tr (E32.tr E33)))))))))))))))))) _ _ F14, rfl, by show 0 ≤ 100000; decide⟩, rfl⟩⟩⟩⟩, (shB_sh (by decide +kernel)), (by decide +kernel)⟩,
        ⟨(.tuple [(.int 1), (.list [(.tuple [(.int 0), (.int 1)])]), (.list [])]), ⟨o19, _, rfl, (E20.tr (E21.tr (E22.tr (E23.tr (E24.tr (E25.tr (E26.tr (E27.tr (E28.tr (E29.tr (E30.tr (E31.tr (E32.tr E33))))))))))))) _ _ F19, ⟨_, _, rfl, rfl, ⟨_, _, rfl, ⟨o17, _, rfl, (E18.tr (E19.tr (E20.tr (E21.tr (E22.tr (E23.tr (E24.tr (E25.tr (E26.tr (E27.tr (E28.tr (E29.tr (E30.tr (E31.tr (E32.tr E33))))))))))))))) _ _ F17, ⟨_, _, rfl, ⟨o16, _, rfl, (E17.tr (E18.tr (E19.tr (E20.tr (E21.tr (E22.tr (E23.tr (E24.tr (E25.tr (E26.tr (E27.tr (E28.tr (E29.tr (E30.tr (E31.tr (E32.tr E33)))))))))))))))) _ _ F16, ⟨_, _, rfl, rfl, ⟨_, _, rfl, rfl, rfl⟩⟩⟩, rfl⟩, by show 1 ≤ 100000; decide⟩, ⟨_, _, rfl, ⟨o18, _, rfl, (E19.tr (E20.tr (E21.tr (E22.tr (E23.tr (E24.tr (E25.tr (E26.tr (E27.tr (E28.tr (E29.tr (E30.tr (E31.tr (E32.tr E33)))))))))))))) _ _ F18, rfl, by show 0 ≤ 100000; decide⟩, rfl⟩⟩⟩⟩, (shB_sh (by decide +kernel)), (by decide +kernel)⟩,
        ⟨(.tuple [(.int 1), (.list [(.tuple [(.int 0), (.int 5)])]), (.list [])]), ⟨o23, _, rfl, (E24.tr (E25.tr (E26.tr (E27.tr (E28.tr (E29.tr (E30.tr (E31.tr (E32.tr E33))))))))) _ _ F23, ⟨_, _, rfl, rfl, ⟨_, _, rfl, ⟨o21, _, rfl, (E22.tr (E23.tr (E24.tr (E25.tr (E26.tr (E27.tr (E28.tr (E29.tr (E30.tr (E31.tr (E32.tr E33))))))))))) _ _ F21, ⟨_, _, rfl, ⟨o20, _, rfl, (E21.tr (E22.tr (E23.tr (E24.tr (E25.tr (E26.tr (E27.tr (E28.tr (E29.tr (E30.tr (E31.tr (E32.tr E33)))))))))))) _ _ F20, ⟨_, _, rfl, rfl, ⟨_, _, rfl, rfl, rfl⟩⟩⟩, rfl⟩, by show 1 ≤ 100000; decide⟩, ⟨_, _, rfl, ⟨o22, _, rfl, (E23.tr (E24.tr (E25.tr (E26.tr (E27.tr (E28.tr (E29.tr (E30.tr (E31.tr (E32.tr E33)))))))))) _ _ F22, rfl, by show 0 ≤ 100000; decide⟩, rfl⟩⟩⟩⟩, (shB_sh (by decide +kernel)), (by decide +kernel)⟩,
        ⟨(.tuple [(.int 2), (.list [(.tuple [(.int 1), (.int 0)]), (.tuple [(.int 0), (.int 1)])]), (.list [])]), ⟨o28, _, rfl, (E29.tr (E30.tr (E31.tr (E32.tr E33)))) _ _ F28, ⟨_, _, rfl, rfl, ⟨_, _, rfl, ⟨o26, _, rfl, (E27.tr (E28.tr (E29.tr (E30.tr (E31.tr (E32.tr E33)))))) _ _ F26, ⟨_, _, rfl, ⟨o24, _, rfl, (E25.tr (E26.tr (E27.tr (E28.tr (E29.tr (E30.tr (E31.tr (E32.tr E33)))))))) _ _ F24, ⟨_, _, rfl, rfl, ⟨_, _, rfl, rfl, rfl⟩⟩⟩, ⟨_, _, rfl, ⟨o25, _, rfl, (E26.tr (E27.tr (E28.tr (E29.tr (E30.tr (E31.tr (E32.tr E33))))))) _ _ F25, ⟨_, _, rfl, rfl, ⟨_, _, rfl, rfl, rfl⟩⟩⟩, rfl⟩⟩, by show 2 ≤ 100000; decide⟩, ⟨_, _, rfl, ⟨o27, _, rfl, (E28.tr (E29.tr (E30.tr (E31.tr (E32.tr E33))))) _ _ F27, rfl, by show 0 ≤ 100000; decide⟩, rfl⟩⟩⟩⟩, (shB_sh (by decide +kernel)), (by decide +kernel)⟩,
        ⟨(.tuple [(.int 1), (.list []), (.list [(.list [])])]), ⟨o32, _, rfl, E33 _ _ F32, ⟨_, _, rfl, rfl, ⟨_, _, rfl, ⟨o29, _, rfl, (E30.tr (E31.tr (E32.tr E33))) _ _ F29, rfl, by show 0 ≤ 100000; decide⟩, ⟨_, _, rfl, ⟨o31, _, rfl, (E32.tr E33) _ _ F31, ⟨_, _, rfl, ⟨o30, _, rfl, (E31.tr (E32.tr E33)) _ _ F30, rfl, by show 0 ≤ 100000; decide⟩, rfl⟩, by show 1 ≤ 100000; decide⟩, rfl⟩⟩⟩⟩, (shB_sh (by decide +kernel)), (by decide +kernel)⟩, trivial⟩
    refine ⟨o12, o33, _, _, rfl, rfl, .inl (.inl ((E13.tr (E14.tr (E15.tr (E16.tr (E17.tr (E18.tr (E19.tr (E20.tr (E21.tr (E22.tr (E23.tr (E24.tr (E25.tr (E26.tr (E27.tr (E28.tr (E29.tr (E30.tr (E31.tr (E32.tr E33)))))))))))))))))))) _ _ F12)), (.inl (.inl (Ex.rfl _ _ F33))), by show 12 + 5 ≤ 1000000; decide, fun o34 n34 => ?_⟩
    have E34 : Ex G33 (upd G33 o34 (.lst ([.non, (.int 0), (.bl true), (.str ""), (.str "1; -; -"), (.ref o1), (.ref o2), (.ref o3), (.ref o4), (.ref o5), (.ref o8), (.ref o11)] ++ [(.ref o15), (.ref o19), (.ref o23), (.ref o28), (.ref o32)]))) := Ex.nw n34
    have F34 : (upd G33 o34 (.lst ([.non, (.int 0), (.bl true), (.str ""), (.str "1; -; -"), (.ref o1), (.ref o2), (.ref o3), (.ref o4), (.ref o5), (.ref o8), (.ref o11)] ++ [(.ref o15), (.ref o19), (.ref o23), (.ref o28), (.ref o32)]))) o34 = some (.lst ([.non, (.int 0), (.bl true), (.str ""), (.str "1; -; -"), (.ref o1), (.ref o2), (.ref o3), (.ref o4), (.ref o5), (.ref o8), (.ref o11)] ++ [(.ref o15), (.ref o19), (.ref o23), (.ref o28), (.ref o32)])) := upd_same
    generalize upd G33 o34 (.lst ([.non, (.int 0), (.bl true), (.str ""), (.str "1; -; -"), (.ref o1), (.ref o2), (.ref o3), (.ref o4), (.ref o5), (.ref o8), (.ref o11)] ++ [(.ref o15), (.ref o19), (.ref o23), (.ref o28), (.ref o32)])) = G34 at E34 F34
    refine ⟨_, rfl, Nat.zero_le _, fun o35 n35 => ?_⟩
    have E35 : Ex G34 (upd G34 o35 (.lst [])) := Ex.nw n35
    have F35 : (upd G34 o35 (.lst [])) o35 = some (.lst []) := upd_same
    generalize upd G34 o35 (.lst []) = G35 at E35 F35
    refine ⟨by show 1 ≤ sizeLine; decide, fun o36 n36 => ?_⟩
    have E36 : Ex G35 (upd G35 o36 (.lst [(.int 0)])) := Ex.nw n36
    have F36 : (upd G35 o36 (.lst [(.int 0)])) o36 = some (.lst [(.int 0)]) := upd_same
    generalize upd G35 o36 (.lst [(.int 0)]) = G36 at E36 F36
    refine ⟨by show 1 ≤ sizeLine; decide, fun o37 n37 => ?_⟩
    have E37 : Ex G36 (upd G36 o37 (.lst [(.ref o36)])) := Ex.nw n37
    have F37 : (upd G36 o37 (.lst [(.ref o36)])) o37 = some (.lst [(.ref o36)]) := upd_same
    generalize upd G36 o37 (.lst [(.ref o36)]) = G37 at E37 F37
    refine ⟨o37, 9, _, rfl, rfl, Ex.rfl _ _ F37, by decide, by decide, mil (by show 1 * 9 ≤ 1000000; decide), fun o38 n38 => ?_⟩
    rw [show ((List.replicate (9 : Int).toNat ([(.ref o36)] : List V)).flatten) = [(.ref o36), (.ref o36), (.ref o36), (.ref o36), (.ref o36), (.ref o36), (.ref o36), (.ref o36), (.ref o36)] from rfl]
    have E38 : Ex G37 (upd G37 o38 (.lst [(.ref o36), (.ref o36), (.ref o36), (.ref o36), (.ref o36), (.ref o36), (.ref o36), (.ref o36), (.ref o36)])) := Ex.nw n38
    have F38 : (upd G37 o38 (.lst [(.ref o36), (.ref o36), (.ref o36), (.ref o36), (.ref o36), (.ref o36), (.ref o36), (.ref o36), (.ref o36)])) o38 = some (.lst [(.ref o36), (.ref o36), (.ref o36), (.ref o36), (.ref o36), (.ref o36), (.ref o36), (.ref o36), (.ref o36)]) := upd_same
    generalize upd G37 o38 (.lst [(.ref o36), (.ref o36), (.ref o36), (.ref o36), (.ref o36), (.ref o36), (.ref o36), (.ref o36), (.ref o36)]) = G38 at E38 F38
    refine ⟨by show 3 ≤ sizeLine; decide, fun o39 n39 => ?_⟩
    have E39 : Ex G38 (upd G38 o39 (.tup [(.int 1), (.ref o35), (.ref o38)])) := Ex.nw n39
    have F39 : (upd G38 o39 (.tup [(.int 1), (.ref o35), (.ref o38)])) o39 = some (.tup [(.int 1), (.ref o35), (.ref o38)]) := upd_same
    generalize upd G38 o39 (.tup [(.int 1), (.ref o35), (.ref o38)]) = G39 at E39 F39
    refine ⟨Nat.zero_le _, fun o40 n40 => ?_⟩
    have E40 : Ex G39 (upd G39 o40 (.lst [])) := Ex.nw n40
    have F40 : (upd G39 o40 (.lst [])) o40 = some (.lst []) := upd_same
    generalize upd G39 o40 (.lst []) = G40 at E40 F40
    refine ⟨by show 1 ≤ sizeLine; decide, fun o41 n41 => ?_⟩
    have E41 : Ex G40 (upd G40 o41 (.tup [(.int 0)])) := Ex.nw n41
    have F41 : (upd G40 o41 (.tup [(.int 0)])) o41 = some (.tup [(.int 0)]) := upd_same
    generalize upd G40 o41 (.tup [(.int 0)]) = G41 at E41 F41
    refine ⟨by show 1 ≤ sizeLine; decide, fun o42 n42 => ?_⟩
    have E42 : Ex G41 (upd G41 o42 (.lst [(.ref o41)])) := Ex.nw n42
    have F42 : (upd G41 o42 (.lst [(.ref o41)])) o42 = some (.lst [(.ref o41)]) := upd_same
    generalize upd G41 o42 (.lst [(.ref o41)]) = G42 at E42 F42
    refine ⟨by show 3 ≤ sizeLine; decide, fun o43 n43 => ?_⟩
    have E43 : Ex G42 (upd G42 o43 (.tup [(.int 1), (.ref o40), (.ref o42)])) := Ex.nw n43
    have F43 : (upd G42 o43 (.tup [(.int 1), (.ref o40), (.ref o42)])) o43 = some (.tup [(.int 1), (.ref o40), (.ref o42)]) := upd_same
    generalize upd G42 o43 (.tup [(.int 1), (.ref o40), (.ref o42)]) = G43 at E43 F43
    refine ⟨by show 2 ≤ sizeLine; decide, fun o44 n44 => ?_⟩
    have E44 : Ex G43 (upd G43 o44 (.lst [(.int 0), (.int 1)])) := Ex.nw n44
    have F44 : (upd G43 o44 (.lst [(.int 0), (.int 1)])) o44 = some (.lst [(.int 0), (.int 1)]) := upd_same
    generalize upd G43 o44 (.lst [(.int 0), (.int 1)]) = G44 at E44 F44
    refine ⟨by show 1 ≤ sizeLine; decide, fun o45 n45 => ?_⟩
    have E45 : Ex G44 (upd G44 o45 (.lst [(.ref o44)])) := Ex.nw n45
    have F45 : (upd G44 o45 (.lst [(.ref o44)])) o45 = some (.lst [(.ref o44)]) := upd_same
    generalize upd G44 o45 (.lst [(.ref o44)]) = G45 at E45 F45
    refine ⟨Nat.zero_le _, fun o46 n46 => ?_⟩
    have E46 : Ex G45 (upd G45 o46 (.lst [])) := Ex.nw n46
    have F46 : (upd G45 o46 (.lst [])) o46 = some (.lst []) := upd_same
    generalize upd G45 o46 (.lst []) = G46 at E46 F46
    refine ⟨by show 3 ≤ sizeLine; decide, fun o47 n47 => ?_⟩
    have E47 : Ex G46 (upd G46 o47 (.tup [(.int 2), (.ref o45), (.ref o46)])) := Ex.nw n47
    have F47 : (upd G46 o47 (.tup [(.int 2), (.ref o45), (.ref o46)])) o47 = some (.tup [(.int 2), (.ref o45), (.ref o46)]) := upd_same
    generalize upd G46 o47 (.tup [(.int 2), (.ref o45), (.ref o46)]) = G47 at E47 F47
    refine ⟨by show 2 ≤ sizeLine; decide, fun o48 n48 => ?_⟩
    have E48 : Ex G47 (upd G47 o48 (.tup [(.int 0), (.int 0)])) := Ex.nw n48
    have F48 : (upd G47 o48 (.tup [(.int 0), (.int 0)])) o48 = some (.tup [(.int 0), (.int 0)]) := upd_same
    generalize upd G47 o48 (.tup [(.int 0), (.int 0)]) = G48 at E48 F48
    refine ⟨by show 2 ≤ sizeLine; decide, fun o49 n49 => ?_⟩
    have E49 : Ex G48 (upd G48 o49 (.tup [(.int 0), (.int 0)])) := Ex.nw n49
    have F49 : (upd G48 o49 (.tup [(.int 0), (.int 0)])) o49 = some (.tup [(.int 0), (.int 0)]) := upd_same
    generalize upd G48 o49 (.tup [(.int 0), (.int 0)]) = G49 at E49 F49
    refine ⟨by show 2 ≤ sizeLine; decide, fun o50 n50 => ?_⟩
    have E50 : Ex G49 (upd G49 o50 (.lst [(.ref o48), (.ref o49)])) := Ex.nw n50
    have F50 : (upd G49 o50 (.lst [(.ref o48), (.ref o49)])) o50 = some (.lst [(.ref o48), (.ref o49)]) := upd_same
    generalize upd G49 o50 (.lst [(.ref o48), (.ref o49)]) = G50 at E50 F50
    refine ⟨Nat.zero_le _, fun o51 n51 => ?_⟩
    have E51 : Ex G50 (upd G50 o51 (.lst [])) := Ex.nw n51
    have F51 : (upd G50 o51 (.lst [])) o51 = some (.lst []) := upd_same
    generalize upd G50 o51 (.lst []) = G51 at E51 F51
    refine ⟨by show 3 ≤ sizeLine; decide, fun o52 n52 => ?_⟩
    have E52 : Ex G51 (upd G51 o52 (.tup [(.int 2), (.ref o50), (.ref o51)])) := Ex.nw n52
    have F52 : (upd G51 o52 (.tup [(.int 2), (.ref o50), (.ref o51)])) o52 = some (.tup [(.int 2), (.ref o50), (.ref o51)]) := upd_same
    generalize upd G51 o52 (.tup [(.int 2), (.ref o50), (.ref o51)]) = G52 at E52 F52
    refine ⟨by show 4 ≤ sizeLine; decide, fun o53 n53 => ?_⟩
    have E53 : Ex G52 (upd G52 o53 (.lst [(.ref o39), (.ref o43), (.ref o47), (.ref o52)])) := Ex.nw n53
    have F53 : (upd G52 o53 (.lst [(.ref o39), (.ref o43), (.ref o47), (.ref o52)])) o53 = some (.lst [(.ref o39), (.ref o43), (.ref o47), (.ref o52)]) := upd_same
    generalize upd G52 o53 (.lst [(.ref o39), (.ref o43), (.ref o47), (.ref o52)]) = G53 at E53 F53
    have pC : NoW K G53 [(.ref o39), (.ref o43), (.ref o47), (.ref o52)] := ⟨⟨(.tuple [(.int 1), (.list []), (.list [(.list [(.int 0)]), (.list [(.int 0)]), (.list [(.int 0)]), (.list [(.int 0)]), (.list [(.int 0)]), (.list [(.int 0)]), (.list [(.int 0)]), (.list [(.int 0)]), (.list [(.int 0)])])]), ⟨o39, _, rfl, (E40.tr (E41.tr (E42.tr (E43.tr (E44.tr (E45.tr (E46.tr (E47.tr (E48.tr (E49.tr (E50.tr (E51.tr (E52.tr E53))))))))))))) _ _ F39, ⟨_, _, rfl, rfl, ⟨_, _, rfl, ⟨o35, _, rfl, (E36.tr (E37.tr (E38.tr (E39.tr (E40.tr (E41.tr (E42.tr (E43.tr (E44.tr (E45.tr (E46.tr (E47.tr (E48.tr (E49.tr (E50.tr (E51.tr (E52.tr E53))))))))))))))))) _ _ F35, rfl, by show 0 ≤ 100000; decide⟩, ⟨_, _, rfl, ⟨o38, _, rfl, (E39.tr (E40.tr (E41.tr (E42.tr (E43.tr (E44.tr (E45.tr (E46.tr (E47.tr (E48.tr (E49.tr (E50.tr (E51.tr (E52.tr E53)))))))))))))) _ _ F38, ⟨_, _, rfl, ⟨o36, _, rfl, (E37.tr (E38.tr (E39.tr (E40.tr (E41.tr (E42.tr (E43.tr (E44.tr (E45.tr (E46.tr (E47.tr (E48.tr (E49.tr (E50.tr (E51.tr (E52.tr E53)))))))))))))))) _ _ F36, ⟨_, _, rfl, rfl, rfl⟩, by show 1 ≤ 100000; decide⟩, ⟨_, _, rfl, ⟨o36, _, rfl, (E37.tr (E38.tr (E39.tr (E40.tr (E41.tr (E42.tr (E43.tr (E44.tr (E45.tr (E46.tr (E47.tr (E48.tr (E49.tr (E50.tr (E51.tr (E52.tr E53)))))))))))))))) _ _ F36, ⟨_, _, rfl, rfl, rfl⟩, by show 1 ≤ 100000; decide⟩, ⟨_, _, rfl, ⟨o36, _, rfl, (E37.tr (E38.tr (E39.tr (E40.tr (E41.tr (E42.tr (E43.tr (E44.tr (E45.tr (E46.tr (E47.tr (E48.tr (E49.tr (E50.tr (E51.tr (E52.tr E53)))))))))))))))) _ _ F36, ⟨_, _, rfl, rfl, rfl⟩, by show 1 ≤ 100000; decide⟩, ⟨_, _, rfl, ⟨o36, _, rfl, (E37.tr (E38.tr (E39.tr (E40.tr (E41.tr (E42.tr (E43.tr (E44.tr (E45.tr (E46.tr (E47.tr (E48.tr (E49.tr (E50.tr (E51.tr (E52.tr E53)))))))))))))))) _ _ F36, ⟨_, _, rfl, rfl, rfl⟩, by show 1 ≤ 100000; decide⟩, ⟨_, _, rfl, ⟨o36, _, rfl, (E37.tr (E38.tr (E39.tr (E40.tr (E41.tr (E42.tr (E43.tr (E44.tr (E45.tr (E46.tr (E47.tr (E48.tr (E49.tr (E50.tr (E51.tr (E52.tr E53)))))))))))))))) _ _ F36, ⟨_, _, rfl, rfl, rfl⟩, by show 1 ≤ 100000; decide⟩, ⟨_, _, rfl, ⟨o36, _, rfl, (E37.tr (E38.tr (E39.tr (E40.tr (E41.tr (E42.tr (E43.tr (E44.tr (E45.tr (E46.tr (E47.tr (E48.tr (E49.tr (E50.tr (E51.tr (E52.tr E53)))))))))))))))) _ _ F36, ⟨_, _, rfl, rfl, rfl⟩, by show 1 ≤ 100000; decide⟩, ⟨_, _, rfl, ⟨o36, _, rfl, (E37.tr (E38.tr (E39.tr (E40.tr (E41.tr (E42.tr (E43.tr (E44.tr (E45.tr (E46.tr (E47.tr (E48.tr (E49.tr (E50.tr (E51.tr (E52.tr E53)))))))))))))))) _ _ F36, ⟨_, _, rfl, rfl, rfl⟩, by show 1 ≤ 100000; decide⟩, ⟨_, _, rfl, ⟨o36, _, rfl, (E37.tr (E38.tr (E39.tr (E40.tr (E41.tr (E42.tr (E43.tr (E44.tr (E45.tr (E46.tr (E47.tr (E48.tr (E49.tr (E50.tr (E51.tr (E52.tr E53)))))))))))))))) _ _ F36, ⟨_, _, rfl, rfl, rfl⟩, by show 1 ≤ 100000; decide⟩, ⟨_, _, rfl, ⟨o36, _, rfl, (E37.tr (E38.tr (E39.tr (E40.tr (E41.tr (E42.tr (E43.tr (E44.tr (E45.tr (E46.tr (E47.tr (E48.tr (E49.tr (E50.tr (E51.tr (E52.tr E53)))))))))))))))) _ _ F36, ⟨_, _, rfl, rfl, rfl⟩, by show 1 ≤ 100000; decide⟩, rfl⟩⟩⟩⟩⟩⟩⟩⟩⟩, by show 9 ≤ 100000; decide⟩, rfl⟩⟩⟩⟩, (shB_sh (by decide +kernel)), (by decide +kernel)⟩,
        ⟨(.tuple [(.int 1), (.list []), (.list [(.tuple [(.int 0)])])]), ⟨o43, _, rfl, (E44.tr (E45.tr (E46.tr (E47.tr (E48.tr (E49.tr (E50.tr (E51.tr (E52.tr E53))))))))) _ _ F43, ⟨_, _, rfl, rfl, ⟨_, _, rfl, ⟨o40, _, rfl, (E41.tr (E42.tr (E43.tr (E44.tr (E45.tr (E46.tr (E47.tr (E48.tr (E49.tr (E50.tr (E51.tr (E52.tr E53)))))))))))) _ _ F40, rfl, by show 0 ≤ 100000; decide⟩, ⟨_, _, rfl, ⟨o42, _, rfl, (E43.tr (E44.tr (E45.tr (E46.tr (E47.tr (E48.tr (E49.tr (E50.tr (E51.tr (E52.tr E53)))))))))) _ _ F42, ⟨_, _, rfl, ⟨o41, _, rfl, (E42.tr (E43.tr (E44.tr (E45.tr (E46.tr (E47.tr (E48.tr (E49.tr (E50.tr (E51.tr (E52.tr E53))))))))))) _ _ F41, ⟨_, _, rfl, rfl, rfl⟩⟩, rfl⟩, by show 1 ≤ 100000; decide⟩, rfl⟩⟩⟩⟩, (shB_sh (by decide +kernel)), (by decide +kernel)⟩,
        ⟨(.tuple [(.int 2), (.list [(.list [(.int 0), (.int 1)])]), (.list [])]), ⟨o47, _, rfl, (E48.tr (E49.tr (E50.tr (E51.tr (E52.tr E53))))) _ _ F47, ⟨_, _, rfl, rfl, ⟨_, _, rfl, ⟨o45, _, rfl, (E46.tr (E47.tr (E48.tr (E49.tr (E50.tr (E51.tr (E52.tr E53))))))) _ _ F45, ⟨_, _, rfl, ⟨o44, _, rfl, (E45.tr (E46.tr (E47.tr (E48.tr (E49.tr (E50.tr (E51.tr (E52.tr E53)))))))) _ _ F44, ⟨_, _, rfl, rfl, ⟨_, _, rfl, rfl, rfl⟩⟩, by show 2 ≤ 100000; decide⟩, rfl⟩, by show 1 ≤ 100000; decide⟩, ⟨_, _, rfl, ⟨o46, _, rfl, (E47.tr (E48.tr (E49.tr (E50.tr (E51.tr (E52.tr E53)))))) _ _ F46, rfl, by show 0 ≤ 100000; decide⟩, rfl⟩⟩⟩⟩, (shB_sh (by decide +kernel)), (by decide +kernel)⟩,
        ⟨(.tuple [(.int 2), (.list [(.tuple [(.int 0), (.int 0)]), (.tuple [(.int 0), (.int 0)])]), (.list [])]), ⟨o52, _, rfl, E53 _ _ F52, ⟨_, _, rfl, rfl, ⟨_, _, rfl, ⟨o50, _, rfl, (E51.tr (E52.tr E53)) _ _ F50, ⟨_, _, rfl, ⟨o48, _, rfl, (E49.tr (E50.tr (E51.tr (E52.tr E53)))) _ _ F48, ⟨_, _, rfl, rfl, ⟨_, _, rfl, rfl, rfl⟩⟩⟩, ⟨_, _, rfl, ⟨o49, _, rfl, (E50.tr (E51.tr (E52.tr E53))) _ _ F49, ⟨_, _, rfl, rfl, ⟨_, _, rfl, rfl, rfl⟩⟩⟩, rfl⟩⟩, by show 2 ≤ 100000; decide⟩, ⟨_, _, rfl, ⟨o51, _, rfl, (E52.tr E53) _ _ F51, rfl, by show 0 ≤ 100000; decide⟩, rfl⟩⟩⟩⟩, (shB_sh (by decide +kernel)), (by decide +kernel)⟩, trivial⟩
    have pL3 : NoW K G53 (([.non, (.int 0), (.bl true), (.str ""), (.str "1; -; -"), (.ref o1), (.ref o2), (.ref o3), (.ref o4), (.ref o5), (.ref o8), (.ref o11)] ++ [(.ref o15), (.ref o19), (.ref o23), (.ref o28), (.ref o32)]) ++ [(.ref o39), (.ref o43), (.ref o47), (.ref o52)]) := ((pA.up (E13.tr (E14.tr (E15.tr (E16.tr (E17.tr (E18.tr (E19.tr (E20.tr (E21.tr (E22.tr (E23.tr (E24.tr (E25.tr (E26.tr (E27.tr (E28.tr (E29.tr (E30.tr (E31.tr (E32.tr (E33.tr (E34.tr (E35.tr (E36.tr (E37.tr (E38.tr (E39.tr (E40.tr (E41.tr (E42.tr (E43.tr (E44.tr (E45.tr (E46.tr (E47.tr (E48.tr (E49.tr (E50.tr (E51.tr (E52.tr E53))))))))))))))))))))))))))))))))))))))))).app (pB.up (E34.tr (E35.tr (E36.tr (E37.tr (E38.tr (E39.tr (E40.tr (E41.tr (E42.tr (E43.tr (E44.tr (E45.tr (E46.tr (E47.tr (E48.tr (E49.tr (E50.tr (E51.tr (E52.tr E53))))))))))))))))))))).app pC
    refine ⟨o34, o53, _, _, rfl, rfl, .inl (.inl ((E35.tr (E36.tr (E37.tr (E38.tr (E39.tr (E40.tr (E41.tr (E42.tr (E43.tr (E44.tr (E45.tr (E46.tr (E47.tr (E48.tr (E49.tr (E50.tr (E51.tr (E52.tr E53)))))))))))))))))) _ _ F34)), (.inl (.inl (Ex.rfl _ _ F53))), by show 17 + 4 ≤ 1000000; decide, fun o54 n54 => ?_⟩
    have E54 : Ex G53 (upd G53 o54 (.lst (([.non, (.int 0), (.bl true), (.str ""), (.str "1; -; -"), (.ref o1), (.ref o2), (.ref o3), (.ref o4), (.ref o5), (.ref o8), (.ref o11)] ++ [(.ref o15), (.ref o19), (.ref o23), (.ref o28), (.ref o32)]) ++ [(.ref o39), (.ref o43), (.ref o47), (.ref o52)]))) := Ex.nw n54
    have F54 : (upd G53 o54 (.lst (([.non, (.int 0), (.bl true), (.str ""), (.str "1; -; -"), (.ref o1), (.ref o2), (.ref o3), (.ref o4), (.ref o5), (.ref o8), (.ref o11)] ++ [(.ref o15), (.ref o19), (.ref o23), (.ref o28), (.ref o32)]) ++ [(.ref o39), (.ref o43), (.ref o47), (.ref o52)]))) o54 = some (.lst (([.non, (.int 0), (.bl true), (.str ""), (.str "1; -; -"), (.ref o1), (.ref o2), (.ref o3), (.ref o4), (.ref o5), (.ref o8), (.ref o11)] ++ [(.ref o15), (.ref o19), (.ref o23), (.ref o28), (.ref o32)]) ++ [(.ref o39), (.ref o43), (.ref o47), (.ref o52)])) := upd_same
    generalize upd G53 o54 (.lst (([.non, (.int 0), (.bl true), (.str ""), (.str "1; -; -"), (.ref o1), (.ref o2), (.ref o3), (.ref o4), (.ref o5), (.ref o8), (.ref o11)] ++ [(.ref o15), (.ref o19), (.ref o23), (.ref o28), (.ref o32)]) ++ [(.ref o39), (.ref o43), (.ref o47), (.ref o52)])) = G54 at E54 F54
    have e0 : Ex H G54 := (E1.tr (E2.tr (E3.tr (E4.tr (E5.tr (E6.tr (E7.tr (E8.tr (E9.tr (E10.tr (E11.tr (E12.tr (E13.tr (E14.tr (E15.tr (E16.tr (E17.tr (E18.tr (E19.tr (E20.tr (E21.tr (E22.tr (E23.tr (E24.tr (E25.tr (E26.tr (E27.tr (E28.tr (E29.tr (E30.tr (E31.tr (E32.tr (E33.tr (E34.tr (E35.tr (E36.tr (E37.tr (E38.tr (E39.tr (E40.tr (E41.tr (E42.tr (E43.tr (E44.tr (E45.tr (E46.tr (E47.tr (E48.tr (E49.tr (E50.tr (E51.tr (E52.tr (E53.tr E54)))))))))))))))))))))))))))))))))))))))))))))))))))))
    have eG : Ex G53 G54 := E54
    replace pL3 := pL3
    generalize hV3 : (([.non, (.int 0), (.bl true), (.str ""), (.str "1; -; -"), (.ref o1), (.ref o2), (.ref o3), (.ref o4), (.ref o5), (.ref o8), (.ref o11)] ++ [(.ref o15), (.ref o19), (.ref o23), (.ref o28), (.ref o32)]) ++ [(.ref o39), (.ref o43), (.ref o47), (.ref o52)] : List V) = V3 at pL3 F54
    have lV3 : V3.length = 21 := by rw [← hV3]; rfl
    clear hV3
    have dP0 := dP
    have dN0 := dN
    have hL20 := hL2
    have hL30 := hL3
    have hA20 := hA2
    have hA30 := hA3
    have x1 : Ex H G53 := (E1.tr (E2.tr (E3.tr (E4.tr (E5.tr (E6.tr (E7.tr (E8.tr (E9.tr (E10.tr (E11.tr (E12.tr (E13.tr (E14.tr (E15.tr (E16.tr (E17.tr (E18.tr (E19.tr (E20.tr (E21.tr (E22.tr (E23.tr (E24.tr (E25.tr (E26.tr (E27.tr (E28.tr (E29.tr (E30.tr (E31.tr (E32.tr (E33.tr (E34.tr (E35.tr (E36.tr (E37.tr (E38.tr (E39.tr (E40.tr (E41.tr (E42.tr (E43.tr (E44.tr (E45.tr (E46.tr (E47.tr (E48.tr (E49.tr (E50.tr (E51.tr (E52.tr E53))))))))))))))))))))))))))))))))))))))))))))))))))))
    have e1 := e0
    have lV1 := lV3
    have dNm2 := dN0.up (ex_rm_new e1 (x1.fr n54))
    refine ⟨_, rfl, .inl ⟨rfl, _, .inl (.inl F54)⟩, Nat.zero_le _, fun o101 n101 => ?_⟩
    have E101 : Ex G54 (upd G54 o101 (.lst [])) := Ex.nw n101
    have F101 : (upd G54 o101 (.lst [])) o101 = some (.lst []) := upd_same
    generalize upd G54 o101 (.lst []) = G101 at E101 F101
    have N101 : ¬ (o101 = o54) := fun e => by rw [e, Ex.rfl _ _ F54] at n101; cases n101
    have F101' : rm G101 o54 o101 = _ := (rm_ne N101).trans F101
    refine ⟨by show 2 ≤ sizeLine; decide, fun o102 n102 => ?_⟩
    have E102 : Ex G101 (upd G101 o102 (.lst [(.int 1), (.int 0)])) := Ex.nw n102
    have F102 : (upd G101 o102 (.lst [(.int 1), (.int 0)])) o102 = some (.lst [(.int 1), (.int 0)]) := upd_same
    generalize upd G101 o102 (.lst [(.int 1), (.int 0)]) = G102 at E102 F102
    have N102 : ¬ (o102 = o54) := fun e => by rw [e, E101 _ _ F54] at n102; cases n102
    have F102' : rm G102 o54 o102 = _ := (rm_ne N102).trans F102
    refine ⟨by show 1 ≤ sizeLine; decide, fun o103 n103 => ?_⟩
    have E103 : Ex G102 (upd G102 o103 (.lst [(.ref o102)])) := Ex.nw n103
    have F103 : (upd G102 o103 (.lst [(.ref o102)])) o103 = some (.lst [(.ref o102)]) := upd_same
    generalize upd G102 o103 (.lst [(.ref o102)]) = G103 at E103 F103
    have N103 : ¬ (o103 = o54) := fun e => by rw [e, (E101.tr E102) _ _ F54] at n103; cases n103
    have F103' : rm G103 o54 o103 = _ := (rm_ne N103).trans F103
    refine ⟨by show 3 ≤ sizeLine; decide, fun o104 n104 => ?_⟩
    have E104 : Ex G103 (upd G103 o104 (.tup [(.int 2), (.ref o101), (.ref o103)])) := Ex.nw n104
    have F104 : (upd G103 o104 (.tup [(.int 2), (.ref o101), (.ref o103)])) o104 = some (.tup [(.int 2), (.ref o101), (.ref o103)]) := upd_same
    generalize upd G103 o104 (.tup [(.int 2), (.ref o101), (.ref o103)]) = G104 at E104 F104
    have N104 : ¬ (o104 = o54) := fun e => by rw [e, (E101.tr (E102.tr E103)) _ _ F54] at n104; cases n104
    have F104' : rm G104 o54 o104 = _ := (rm_ne N104).trans F104
    have pT2 : ∃ d, Da K (rm G104 o54) d (.ref o104) ∧ Sh 41 40000 40 d ∧ webB d = false := ⟨(.tuple [(.int 2), (.list []), (.list [(.list [(.int 1), (.int 0)])])]), ⟨o104, _, rfl, (Ex.rm (p := o54) Ex.rfl) _ _ F104', ⟨_, _, rfl, rfl, ⟨_, _, rfl, ⟨o101, _, rfl, (Ex.rm (p := o54) (E102.tr (E103.tr E104))) _ _ F101', rfl, by show 0 ≤ 100000; decide⟩, ⟨_, _, rfl, ⟨o103, _, rfl, (Ex.rm (p := o54) E104) _ _ F103', ⟨_, _, rfl, ⟨o102, _, rfl, (Ex.rm (p := o54) (E103.tr E104)) _ _ F102', ⟨_, _, rfl, rfl, ⟨_, _, rfl, rfl, rfl⟩⟩, by show 2 ≤ 100000; decide⟩, rfl⟩, by show 1 ≤ 100000; decide⟩, rfl⟩⟩⟩⟩, (shB_sh (by decide +kernel)), (by decide +kernel)⟩
    refine ⟨o54, V3, (.ref o104), rfl, rfl, (E101.tr (E102.tr (E103.tr E104))) _ _ F54, mil' (by omega), ?_⟩
    have x2 : Ex G53 (upd G104 o54 (.lst (V3 ++ [(.ref o104)]))) := (eG.tr (E101.tr (E102.tr (E103.tr E104)))).wr n54
    have e2 : Ex H (upd G104 o54 (.lst (V3 ++ [(.ref o104)]))) := x1.tr x2
    have q2 : NoW K (upd G104 o54 (.lst (V3 ++ [(.ref o104)]))) (V3 ++ [(.ref o104)]) := (pL3.up x2).app ⟨pT2.imp fun d h => ⟨h.1.up ex_rm_upd, h.2⟩, trivial⟩
    have f2 : (upd G104 o54 (.lst (V3 ++ [(.ref o104)]))) o54 = some (.lst (V3 ++ [(.ref o104)])) := upd_same
    generalize upd G104 o54 (.lst (V3 ++ [(.ref o104)])) = K2 at x2 e2 q2 f2
    have lV2 : (V3 ++ [(.ref o104)] : List V).length = 22 := by rw [List.length_append, lV1]; rfl
    generalize (V3 ++ [(.ref o104)] : List V) = V2 at q2 f2 lV2
    have dP := dP0.up e2
    have dN := dN0.up e2
    have hL2 := e2 _ _ hL20
    have hL3 := e2 _ _ hL30
    have hA2 := hA20.up e2
    have hA3 := hA30.up e2
    refine ⟨_, rfl, _, rfl, _, rfl, a2, _, rfl, .inl ⟨.inl (.inl (Ex.rfl _ _ hL2)), fun o201 n201 => ?_⟩⟩
    have E201 : Ex K2 (upd K2 o201 (.tup xs2)) := Ex.nw n201
    have F201 : (upd K2 o201 (.tup xs2)) o201 = some (.tup xs2) := upd_same
    generalize upd K2 o201 (.tup xs2) = G201 at E201 F201
    refine ⟨_, rfl, by show 3 ≤ sizeLine; decide, fun o202 n202 => ?_⟩
    have E202 : Ex G201 (upd G201 o202 (.tup [(.int u.n), (.ref o201), (.ref a3)])) := Ex.nw n202
    have F202 : (upd G201 o202 (.tup [(.int u.n), (.ref o201), (.ref a3)])) o202 = some (.tup [(.int u.n), (.ref o201), (.ref a3)]) := upd_same
    generalize upd G201 o202 (.tup [(.int u.n), (.ref o201), (.ref a3)]) = G202 at E202 F202
    refine ⟨_, rfl, _, rfl, _, rfl, _, rfl, a3, _, rfl, .inl (.inl ((E201.tr E202) _ _ hL3)), fun o203 n203 => ?_⟩
    have E203 : Ex G202 (upd G202 o203 (.lst (cutV xs3 none (some 7)))) := Ex.nw n203
    have F203 : (upd G202 o203 (.lst (cutV xs3 none (some 7)))) o203 = some (.lst (cutV xs3 none (some 7))) := upd_same
    generalize upd G202 o203 (.lst (cutV xs3 none (some 7))) = G203 at E203 F203
    refine ⟨by show 1 ≤ sizeLine; decide, fun o204 n204 => ?_⟩
    have E204 : Ex G203 (upd G203 o204 (.lst [(.int 20)])) := Ex.nw n204
    have F204 : (upd G203 o204 (.lst [(.int 20)])) o204 = some (.lst [(.int 20)]) := upd_same
    generalize upd G203 o204 (.lst [(.int 20)]) = G204 at E204 F204
    refine ⟨by show 1 ≤ sizeLine; decide, fun o205 n205 => ?_⟩
    have E205 : Ex G204 (upd G204 o205 (.lst [(.ref o204)])) := Ex.nw n205
    have F205 : (upd G204 o205 (.lst [(.ref o204)])) o205 = some (.lst [(.ref o204)]) := upd_same
    generalize upd G204 o205 (.lst [(.ref o204)]) = G205 at E205 F205
    obtain ⟨es, des, mes⟩ := DaAll.of_mem hA3 (ws := cutV xs3 none (some 7)) fun x hx => List.mem_of_mem_drop (List.mem_of_mem_take hx)
    have les := des.len
    have lcut : (cutV xs3 none (some 7)).length ≤ xs3.length := by unfold cutV; rw [List.length_take, List.length_drop]; omega
    refine ⟨o203, o205, _, _, rfl, rfl, .inl (.inl ((E204.tr E205) _ _ F203)), (.inl (.inl (Ex.rfl _ _ F205))), by show (cutV xs3 none (some 7)).length + 1 ≤ 1000000; omega, fun o206 n206 => ?_⟩
    have E206 : Ex G205 (upd G205 o206 (.lst (cutV xs3 none (some 7) ++ [(.ref o204)]))) := Ex.nw n206
    have F206 : (upd G205 o206 (.lst (cutV xs3 none (some 7) ++ [(.ref o204)]))) o206 = some (.lst (cutV xs3 none (some 7) ++ [(.ref o204)])) := upd_same
    generalize upd G205 o206 (.lst (cutV xs3 none (some 7) ++ [(.ref o204)])) = G206 at E206 F206
    refine ⟨by show 3 ≤ sizeLine; decide, fun o207 n207 => ?_⟩
    have E207 : Ex G206 (upd G206 o207 (.tup [(.int u.n), (.ref a2), (.ref o206)])) := Ex.nw n207
    have F207 : (upd G206 o207 (.tup [(.int u.n), (.ref a2), (.ref o206)])) o207 = some (.tup [(.int u.n), (.ref a2), (.ref o206)]) := upd_same
    generalize upd G206 o207 (.tup [(.int u.n), (.ref a2), (.ref o206)]) = G207 at E207 F207
    refine ⟨by show 2 ≤ sizeLine; decide, fun o208 n208 => ?_⟩
    have E208 : Ex G207 (upd G207 o208 (.lst [(.ref o202), (.ref o207)])) := Ex.nw n208
    have F208 : (upd G207 o208 (.lst [(.ref o202), (.ref o207)])) o208 = some (.lst [(.ref o202), (.ref o207)]) := upd_same
    generalize upd G207 o208 (.lst [(.ref o202), (.ref o207)]) = G208 at E208 F208
    have pX : NoW K G208 [(.ref o202), (.ref o207)] := ⟨⟨(.tuple [(.int u.n), (.tuple (u.ps.map dPair)), (dRows u.ns)]), ⟨o202, _, rfl, (E203.tr (E204.tr (E205.tr (E206.tr (E207.tr E208))))) _ _ F202, ⟨_, _, rfl, rfl, ⟨_, _, rfl, ⟨o201, _, rfl, (E202.tr (E203.tr (E204.tr (E205.tr (E206.tr (E207.tr E208)))))) _ _ F201, hA2.up (E201.tr (E202.tr (E203.tr (E204.tr (E205.tr (E206.tr (E207.tr E208)))))))⟩, ⟨_, _, rfl, (dN.up (E201.tr (E202.tr (E203.tr (E204.tr (E205.tr (E206.tr (E207.tr E208)))))))), rfl⟩⟩⟩⟩, (made3 sI (tupSh' sP) sN), (no_pairs rfl)⟩,
        ⟨(.tuple [(.int u.n), (dPairs u.ps), (.list (es ++ [(.list [(.int 20)])]))]), ⟨o207, _, rfl, E208 _ _ F207, ⟨_, _, rfl, rfl, ⟨_, _, rfl, (dP.up (E201.tr (E202.tr (E203.tr (E204.tr (E205.tr (E206.tr (E207.tr E208)))))))), ⟨_, _, rfl, ⟨o206, _, rfl, (E207.tr E208) _ _ F206, DaAll.app (es := [(.list [(.int 20)])]) (ws := [(.ref o204)]) (des.up (E201.tr (E202.tr (E203.tr (E204.tr (E205.tr (E206.tr (E207.tr E208)))))))) ⟨_, _, rfl, ⟨o204, _, rfl, (E205.tr (E206.tr (E207.tr E208))) _ _ F204, ⟨_, _, rfl, rfl, rfl⟩, by show 1 ≤ 100000; decide⟩, rfl⟩, by rw [List.length_append, List.length_singleton]; omega⟩, rfl⟩⟩⟩⟩, (made3 sI sP (sh_cut hu mes (by omega))), (no_nudges (no_20 h20))⟩, trivial⟩
    have pL4 : NoW K G208 (V2 ++ [(.ref o202), (.ref o207)]) := (q2.up (E201.tr (E202.tr (E203.tr (E204.tr (E205.tr (E206.tr (E207.tr E208)))))))).app pX
    have x3 : Ex H G208 := e2.tr (E201.tr (E202.tr (E203.tr (E204.tr (E205.tr (E206.tr (E207.tr E208)))))))
    refine ⟨o54, o208, _, _, rfl, rfl, .inl (.inl ((E201.tr (E202.tr (E203.tr (E204.tr (E205.tr (E206.tr (E207.tr E208))))))) _ _ f2)), (.inl (.inl (Ex.rfl _ _ F208))), by rw [lV2]; show 22 + 2 ≤ 1000000; decide, fun o209 n209 => ?_⟩
    have E209 : Ex G208 (upd G208 o209 (.lst (V2 ++ [(.ref o202), (.ref o207)]))) := Ex.nw n209
    have F209 : (upd G208 o209 (.lst (V2 ++ [(.ref o202), (.ref o207)]))) o209 = some (.lst (V2 ++ [(.ref o202), (.ref o207)])) := upd_same
    generalize upd G208 o209 (.lst (V2 ++ [(.ref o202), (.ref o207)])) = G209 at E209 F209
    have e3 : Ex H G209 := e2.tr (E201.tr (E202.tr (E203.tr (E204.tr (E205.tr (E206.tr (E207.tr (E208.tr E209))))))))
    have eG3 : Ex G208 G209 := E209
    have lV3' : (V2 ++ [(.ref o202), (.ref o207)] : List V).length = 24 := by rw [List.length_append, lV2]; rfl
    generalize (V2 ++ [(.ref o202), (.ref o207)] : List V) = V4 at pL4 F209 lV3'
    have lV3 := lV3'
    have dNm4 := dN0.up (ex_rm_new e3 (x3.fr n209))
    refine ⟨_, rfl, .inl ⟨rfl, _, .inl (.inl F209)⟩, _, rfl, _, rfl, by show 2 ≤ sizeLine; decide, fun o301 n301 => ?_⟩
    have E301 : Ex G209 (upd G209 o301 (.tup [(.int 0), (.int u.n)])) := Ex.nw n301
    have F301 : (upd G209 o301 (.tup [(.int 0), (.int u.n)])) o301 = some (.tup [(.int 0), (.int u.n)]) := upd_same
    generalize upd G209 o301 (.tup [(.int 0), (.int u.n)]) = G301 at E301 F301
    have N301 : ¬ (o301 = o209) := fun e => by rw [e, Ex.rfl _ _ F209] at n301; cases n301
    have F301' : rm G301 o209 o301 = _ := (rm_ne N301).trans F301
    refine ⟨by show 1 ≤ sizeLine; decide, fun o302 n302 => ?_⟩
    have E302 : Ex G301 (upd G301 o302 (.lst [(.ref o301)])) := Ex.nw n302
    have F302 : (upd G301 o302 (.lst [(.ref o301)])) o302 = some (.lst [(.ref o301)]) := upd_same
    generalize upd G301 o302 (.lst [(.ref o301)]) = G302 at E302 F302
    have N302 : ¬ (o302 = o209) := fun e => by rw [e, E301 _ _ F209] at n302; cases n302
    have F302' : rm G302 o209 o302 = _ := (rm_ne N302).trans F302
    refine ⟨_, rfl, by show 3 ≤ sizeLine; decide, fun o303 n303 => ?_⟩
    have E303 : Ex G302 (upd G302 o303 (.tup [(.int u.n), (.ref o302), (.ref a3)])) := Ex.nw n303
    have F303 : (upd G302 o303 (.tup [(.int u.n), (.ref o302), (.ref a3)])) o303 = some (.tup [(.int u.n), (.ref o302), (.ref a3)]) := upd_same
    generalize upd G302 o303 (.tup [(.int u.n), (.ref o302), (.ref a3)]) = G303 at E303 F303
    have N303 : ¬ (o303 = o209) := fun e => by rw [e, (E301.tr E302) _ _ F209] at n303; cases n303
    have F303' : rm G303 o209 o303 = _ := (rm_ne N303).trans F303
    have pT4 : ∃ d, Da K (rm G303 o209) d (.ref o303) ∧ Sh 41 40000 40 d ∧ webB d = false := ⟨(.tuple [(.int u.n), (.list [(.tuple [(.int 0), (.int u.n)])]), (dRows u.ns)]), ⟨o303, _, rfl, (Ex.rm (p := o209) Ex.rfl) _ _ F303', ⟨_, _, rfl, rfl, ⟨_, _, rfl, ⟨o302, _, rfl, (Ex.rm (p := o209) E303) _ _ F302', ⟨_, _, rfl, ⟨o301, _, rfl, (Ex.rm (p := o209) (E302.tr E303)) _ _ F301', ⟨_, _, rfl, rfl, ⟨_, _, rfl, rfl, rfl⟩⟩⟩, rfl⟩, by show 1 ≤ 100000; decide⟩, ⟨_, _, rfl, (dNm4.up (Ex.rm (p := o209) (E301.tr (E302.tr E303)))), rfl⟩⟩⟩⟩, (made3 sI (sh_over sI) sN), (no_pairs no_over)⟩
    refine ⟨o209, V4, (.ref o303), rfl, rfl, (E301.tr (E302.tr E303)) _ _ F209, mil' (by omega), ?_⟩
    have x4 : Ex G208 (upd G303 o209 (.lst (V4 ++ [(.ref o303)]))) := (eG3.tr (E301.tr (E302.tr E303))).wr n209
    have e4 : Ex H (upd G303 o209 (.lst (V4 ++ [(.ref o303)]))) := x3.tr x4
    have q4 : NoW K (upd G303 o209 (.lst (V4 ++ [(.ref o303)]))) (V4 ++ [(.ref o303)]) := (pL4.up x4).app ⟨pT4.imp fun d h => ⟨h.1.up ex_rm_upd, h.2⟩, trivial⟩
    have f4 : (upd G303 o209 (.lst (V4 ++ [(.ref o303)]))) o209 = some (.lst (V4 ++ [(.ref o303)])) := upd_same
    generalize upd G303 o209 (.lst (V4 ++ [(.ref o303)])) = K4 at x4 e4 q4 f4
    have lV4 : (V4 ++ [(.ref o303)] : List V).length = 25 := by rw [List.length_append, lV3]; rfl
    generalize (V4 ++ [(.ref o303)] : List V) = V4 at q4 f4 lV4
    have dP := dP0.up e4
    have dN := dN0.up e4
    have hL2 := e4 _ _ hL20
    have hL3 := e4 _ _ hL30
    have hA2 := hA20.up e4
    have hA3 := hA30.up e4
    refine ⟨_, rfl, _, rfl, _, rfl, by show 3 ≤ sizeLine; decide, fun o401 n401 => ?_⟩
    have E401 : Ex K4 (upd K4 o401 (.tup [(.int u.n), .non, (.ref a3)])) := Ex.nw n401
    have F401 : (upd K4 o401 (.tup [(.int u.n), .non, (.ref a3)])) o401 = some (.tup [(.int u.n), .non, (.ref a3)]) := upd_same
    generalize upd K4 o401 (.tup [(.int u.n), .non, (.ref a3)]) = G401 at E401 F401
    refine ⟨_, rfl, _, rfl, by show 3 ≤ sizeLine; decide, fun o402 n402 => ?_⟩
    have E402 : Ex G401 (upd G401 o402 (.tup [(.int u.n), (.ref a2), .non])) := Ex.nw n402
    have F402 : (upd G401 o402 (.tup [(.int u.n), (.ref a2), .non])) o402 = some (.tup [(.int u.n), (.ref a2), .non]) := upd_same
    generalize upd G401 o402 (.tup [(.int u.n), (.ref a2), .non]) = G402 at E402 F402
    refine ⟨by show 2 ≤ sizeLine; decide, fun o403 n403 => ?_⟩
    have E403 : Ex G402 (upd G402 o403 (.tup [(.int 0), (.bl false)])) := Ex.nw n403
    have F403 : (upd G402 o403 (.tup [(.int 0), (.bl false)])) o403 = some (.tup [(.int 0), (.bl false)]) := upd_same
    generalize upd G402 o403 (.tup [(.int 0), (.bl false)]) = G403 at E403 F403
    refine ⟨by show 1 ≤ sizeLine; decide, fun o404 n404 => ?_⟩
    have E404 : Ex G403 (upd G403 o404 (.lst [(.ref o403)])) := Ex.nw n404
    have F404 : (upd G403 o404 (.lst [(.ref o403)])) o404 = some (.lst [(.ref o403)]) := upd_same
    generalize upd G403 o404 (.lst [(.ref o403)]) = G404 at E404 F404
    refine ⟨Nat.zero_le _, fun o405 n405 => ?_⟩
    have E405 : Ex G404 (upd G404 o405 (.lst [])) := Ex.nw n405
    have F405 : (upd G404 o405 (.lst [])) o405 = some (.lst []) := upd_same
    generalize upd G404 o405 (.lst []) = G405 at E405 F405
    refine ⟨by show 3 ≤ sizeLine; decide, fun o406 n406 => ?_⟩
    have E406 : Ex G405 (upd G405 o406 (.tup [(.int 1), (.ref o404), (.ref o405)])) := Ex.nw n406
    have F406 : (upd G405 o406 (.tup [(.int 1), (.ref o404), (.ref o405)])) o406 = some (.tup [(.int 1), (.ref o404), (.ref o405)]) := upd_same
    generalize upd G405 o406 (.tup [(.int 1), (.ref o404), (.ref o405)]) = G406 at E406 F406
    refine ⟨by show 3 ≤ sizeLine; decide, fun o407 n407 => ?_⟩
    have E407 : Ex G406 (upd G406 o407 (.lst [(.ref o401), (.ref o402), (.ref o406)])) := Ex.nw n407
    have F407 : (upd G406 o407 (.lst [(.ref o401), (.ref o402), (.ref o406)])) o407 = some (.lst [(.ref o401), (.ref o402), (.ref o406)]) := upd_same
    generalize upd G406 o407 (.lst [(.ref o401), (.ref o402), (.ref o406)]) = G407 at E407 F407
    have pY : NoW K G407 [(.ref o401), (.ref o402), (.ref o406)] := ⟨⟨(.tuple [(.int u.n), .none, (dRows u.ns)]), ⟨o401, _, rfl, (E402.tr (E403.tr (E404.tr (E405.tr (E406.tr E407))))) _ _ F401, ⟨_, _, rfl, rfl, ⟨_, _, rfl, rfl, ⟨_, _, rfl, (dN.up (E401.tr (E402.tr (E403.tr (E404.tr (E405.tr (E406.tr E407))))))), rfl⟩⟩⟩⟩, (made3 sI (shB_sh (by decide +kernel)) sN), (no_pairs rfl)⟩,
        ⟨(.tuple [(.int u.n), (dPairs u.ps), .none]), ⟨o402, _, rfl, (E403.tr (E404.tr (E405.tr (E406.tr E407)))) _ _ F402, ⟨_, _, rfl, rfl, ⟨_, _, rfl, (dP.up (E401.tr (E402.tr (E403.tr (E404.tr (E405.tr (E406.tr E407))))))), ⟨_, _, rfl, rfl, rfl⟩⟩⟩⟩, (made3 sI sP (shB_sh (by decide +kernel))), (no_nudges rfl)⟩,
        ⟨(.tuple [(.int 1), (.list [(.tuple [(.int 0), (.bool false)])]), (.list [])]), ⟨o406, _, rfl, E407 _ _ F406, ⟨_, _, rfl, rfl, ⟨_, _, rfl, ⟨o404, _, rfl, (E405.tr (E406.tr E407)) _ _ F404, ⟨_, _, rfl, ⟨o403, _, rfl, (E404.tr (E405.tr (E406.tr E407))) _ _ F403, ⟨_, _, rfl, rfl, ⟨_, _, rfl, rfl, rfl⟩⟩⟩, rfl⟩, by show 1 ≤ 100000; decide⟩, ⟨_, _, rfl, ⟨o405, _, rfl, (E406.tr E407) _ _ F405, rfl, by show 0 ≤ 100000; decide⟩, rfl⟩⟩⟩⟩, (shB_sh (by decide +kernel)), (by decide +kernel)⟩, trivial⟩
    have pL5 : NoW K G407 (V4 ++ [(.ref o401), (.ref o402), (.ref o406)]) := (q4.up (E401.tr (E402.tr (E403.tr (E404.tr (E405.tr (E406.tr E407))))))).app pY
    refine ⟨o209, o407, _, _, rfl, rfl, .inl (.inl ((E401.tr (E402.tr (E403.tr (E404.tr (E405.tr (E406.tr E407)))))) _ _ f4)), (.inl (.inl (Ex.rfl _ _ F407))), by rw [lV4]; show 25 + 3 ≤ 1000000; decide, fun o408 n408 => ?_⟩
    have E408 : Ex G407 (upd G407 o408 (.lst (V4 ++ [(.ref o401), (.ref o402), (.ref o406)]))) := Ex.nw n408
    have F408 : (upd G407 o408 (.lst (V4 ++ [(.ref o401), (.ref o402), (.ref o406)]))) o408 = some (.lst (V4 ++ [(.ref o401), (.ref o402), (.ref o406)])) := upd_same
    generalize upd G407 o408 (.lst (V4 ++ [(.ref o401), (.ref o402), (.ref o406)])) = G408 at E408 F408
    exact q o408 _ G408 (e4.tr (E401.tr (E402.tr (E403.tr (E404.tr (E405.tr (E406.tr (E407.tr E408)))))))) F408 (pL5.up E408)
end

end K48
namespace K48
open PySem PySem.Spec PyProof.Rows L2 Nw
/-! law: slots 0 _law_script, 1 _law_k, 2 _law_purse_here, 3 _law_web_here, 4 _law_turn, 5 _law_text_here, 6 _law_again, 7 _law_value, 8 _law_some, 9 _law_told_here, 10 _law_one, 11 _law_due_here -/
abbrev s_law : Stmt := topS 48
abbrev N_law : List Str := ["_law_script", "_law_k", "_law_purse_here", "_law_web_here", "_law_turn", "_law_text_here", "_law_again", "_law_value", "_law_some", "_law_told_here", "_law_one", "_law_due_here"]
abbrev P_law : List Str := ["_law_script"]
theorem sc_law : FnScope N_law P_law (defScope s_law) := ⟨rfl, rfl, rfl, by decide +kernel, rfl, by decide +kernel, by decide +kernel⟩
section
open TL
theorem rep_join (w : List Nat) : ∀ n : Nat, joinL [32] (List.replicate (n + 1) w) = (List.replicate n (w ++ [32])).flatten ++ w
  | 0 => by simp [joinL]
  | n + 1 => by
    have ih := rep_join w n
    rw [List.replicate_succ (n := n)] at ih
    rw [List.replicate_succ, List.replicate_succ, joinL, ih, List.replicate_succ, List.flatten_cons]
    simp only [List.append_assoc]
theorem tl_rep (x : Str) (n : Nat) (hn : 2 ≤ n) (hx : 0 < x.length) : tl (Txt.mul x (n : Int)) = (List.replicate n (tl x)).flatten := by
  have h1 : ¬ ((n : Int) < 1) := by omega
  have h2 : ¬ (((n : Int) == 1 || x.length == 0) = true) := by simp; omega
  unfold Txt.mul
  rw [if_neg h1, if_neg h2]
  have go : ∀ (m : Nat) (a : Array Nat), ((List.replicate m x.cps).foldl (· ++ ·) a).toList = a.toList ++ (List.replicate m x.cps.toList).flatten := by
    intro m
    induction m with
    | zero =>
      intro a
      simp
    | succ m ih =>
      intro a
      rw [List.replicate_succ, List.foldl_cons, ih, List.replicate_succ, List.flatten_cons, Array.toList_append, List.append_assoc]
  have := go n #[]
  show ((List.replicate ((n : Int)).toNat x.cps).foldl (· ++ ·) #[]).toList = _
  rw [show ((n : Int)).toNat = n by omega, this]
  rfl
theorem mul_len (x : Str) (n : Nat) (hn : 2 ≤ n) (hx : 0 < x.length) : (Txt.mul x (n : Int)).length ≤ n * x.length := by
  have h := congrArg List.length (tl_rep x n hn hx)
  rw [← len_tl, List.length_flatten, List.map_replicate, List.sum_replicate_nat, ← len_tl] at h
  omega
/-- the long text of one pair, over and over -/
def bigT : Str := ("1; " ++ Txt.mul "0>0 " 900) ++ "0>0; -"
def bigP : Str := Txt.join " " (List.replicate 901 ("0>0" : Str))
theorem big_eq : bigT = Txt.join "; " ["1", bigP, "-"] := by
  refine ext_tl ?_
  unfold bigT bigP
  have e := tl_rep "0>0 " 900 (by decide) (by decide +kernel)
  have e1 : tl ("0>0 " : Str) = [48, 62, 48, 32] := by decide +kernel
  have e2 : tl ("0>0" : Str) = [48, 62, 48] := by decide +kernel
  rw [e1] at e
  rw [tl_append, tl_append, show ((900 : Nat) : Int) = 900 from rfl] at *
  rw [show tl (Txt.mul "0>0 " 900) = (List.replicate 900 [48, 62, 48, 32]).flatten from e]
  rw [tl_txtJoin, tl_se, List.map_cons, List.map_cons, List.map_cons, List.map_nil, tl_txtJoin, tl_sp, List.map_replicate, e2, rep_join]
  simp only [joinL]
  rw [show tl ("1; " : Str) = [49, 59, 32] by decide +kernel, show tl ("0>0; -" : Str) = [48, 62, 48, 59, 32, 45] by decide +kernel, show tl ("1" : Str) = [49] by decide +kernel, show tl ("-" : Str) = [45] by decide +kernel]
  simp only [List.append_assoc, List.cons_append, List.nil_append]
theorem allO_rep {α : Type} (x : α) : ∀ n : Nat, allO (List.replicate n (some x)) = some (List.replicate n x)
  | 0 => rfl
  | n + 1 => by
    rw [List.replicate_succ, allO, allO_rep x n]
    rfl
theorem big_words : Txt.split bigP " " = List.replicate 901 ("0>0" : Str) := split_join tl_sp (by decide +kernel) (by decide) fun w hw => by
  obtain rfl := List.eq_of_mem_replicate hw
  decide +kernel
theorem big_signs : ∀ c ∈ tl bigP, c = 32 ∨ c = 48 ∨ c = 62 := fun c hc => by
  unfold bigP at hc
  rw [tl_txtJoin, tl_sp] at hc
  rcases mem_joinL hc with h | ⟨z, h, h'⟩
  · exact .inl (List.mem_singleton.mp h)
  · rw [List.map_replicate] at h
    obtain rfl := List.eq_of_mem_replicate h
    have : tl ("0>0" : Str) = [48, 62, 48] := by decide +kernel
    rw [this] at h'
    simp only [List.mem_cons, List.not_mem_nil, or_false] at h'
    omega
theorem big_split : Txt.split bigT "; " = (["1", bigP, "-"] : List Str) := by
  rw [big_eq]
  refine split_join tl_se (by decide +kernel) (by simp) fun w hw => ?_
  simp only [List.mem_cons, List.not_mem_nil, or_false] at hw
  rcases hw with rfl | rfl | rfl
  · decide +kernel
  · exact fun h => by
      have := big_signs _ h
      omega
  · decide +kernel
theorem big_part : partP bigP = some (List.replicate 901 (0, 0)) := by
  have hn : bigP ≠ "-" := fun e => by
    have h := congrArg (fun x => Txt.split x " ") e
    rw [big_words] at h
    have h2 := congrArg List.length h
    rw [List.length_replicate] at h2
    revert h2
    decide +kernel
  unfold partP
  rw [if_neg hn, big_words, List.map_replicate, show pairW "0>0" = some (0, 0) by decide +kernel, allO_rep]
theorem dueP_no {ps : List Str} (h1 : badAt ps = none) (h2 : webP ps = false) : dueP ps = some (ps.length : Int) := by
  unfold dueP
  rw [h1]
  exact if_neg fun z => by
    rw [h2] at z
    exact absurd z.2 Bool.false_ne_true
theorem webP_of {a b c : Str} {x y z : PyData} (p0 : partD 0 a = some x) (p1 : partD 1 b = some y) (p2 : partD 2 c = some z) : webP [a, b, c] = webB (.tuple [x, y, z]) := by
  unfold webP
  show (match partD 0 a, partD 1 b, partD 2 c with | some a, some b, some c => webB (.tuple [a, b, c]) | _, _, _ => false) = _
  rw [p0, p1, p2]
theorem badAt3 {a b c : Str} {x y z : PyData} (p0 : partD 0 a = some x) (p1 : partD 1 b = some y) (p2 : partD 2 c = some z) : badAt [a, b, c] = none := badAt_no fun j t hj ht => by
  match j, hj, ht with
  | 0, _, ht =>
    obtain rfl : a = t := Option.some.inj ht
    rw [p0]
    exact fun z => nomatch z
  | 1, _, ht =>
    obtain rfl : b = t := Option.some.inj ht
    rw [p1]
    exact fun z => nomatch z
  | 2, _, ht =>
    obtain rfl : c = t := Option.some.inj ht
    rw [p2]
    exact fun z => nomatch z
theorem no_asc {L : List (Int × Int)} {p : Int × Int} : webB (.tuple [.int 1, dPairs (p :: p :: L), dRows []]) = false := by
  cases h : webB (.tuple [.int 1, dPairs (p :: p :: L), dRows []]) with
  | false => rfl
  | true =>
    obtain ⟨u, hu, hok⟩ := webB_inv h
    have e : (⟨1, p :: p :: L, []⟩ : Wb) = u := wbd_inj hu
    rw [← e] at hok
    have := hok.asc
    simp only [ascB, Bool.and_eq_true] at this
    have := ltPr_iff.mp this.1
    omega
theorem big_due : dueS bigT = some 3 := by
  unfold dueS
  rw [big_split]
  have p0 : partD 0 "1" = some (.int 1) := by
    have e : partD 0 "1" = (numW "1").map PyData.int := rfl
    rw [e, show numW "1" = some 1 by decide +kernel]
    rfl
  have p1 : partD 1 bigP = some (dPairs (List.replicate 901 (0, 0))) := by
    have e : partD 1 bigP = (partP bigP).map dPairs := rfl
    rw [e, big_part]
    rfl
  have p2 : partD 2 "-" = some (dRows []) := by
    have e : partD 2 "-" = (partN "-").map dRows := rfl
    rw [e]
    unfold partN
    rw [if_pos rfl]
    rfl
  rw [dueP_no (badAt3 p0 p1 p2)]
  · rfl
  · rw [webP_of p0 p1 p2, List.replicate_succ, List.replicate_succ]
    exact no_asc
end
theorem len_webT {u : Wb} (h : u.Ok) : (webS u).length ≤ 6000 := by
  have sm := h.sml
  have h20 := h.hi
  have hp : u.ps.length ≤ 400 := pairs_400 (fun p hp => by have := h.ps p hp; omega) h.asc
  have l1 : (psS u.ps).length ≤ 4000 := by
    unfold psS
    split
    · decide +kernel
    · exact join_short (m := 8) (k := 400) (fun y hy => by
        obtain ⟨x, hx, rfl⟩ := List.mem_map.mp hy
        have := sm.ps x hx
        exact (len_pS (p := x) (by omega) (by omega)).1) (by rw [List.length_map]; exact hp) (by decide +kernel)
  have l2 : (nsS u.ns).length ≤ 1640 := len_nsS (fun r hr => ⟨(sm.ns r hr).2.1, fun x hx => by have := (sm.ns r hr).2.2 x hx; omega⟩) (by have := sm.nl; omega)
  have l0 : (nS u.n).length ≤ 2 := len_nS sm.n.1 (by have := sm.n.2; omega)
  have j := join_len "; " [nS u.n, psS u.ps, nsS u.ns]
  have e : ("; " : Str).length = 2 := by decide +kernel
  rw [e] at j
  simp only [List.map_cons, List.map_nil, List.sum_cons, List.sum_nil, List.length_cons, List.length_nil] at j
  unfold webS
  omega
def tx1 : List Str := ["",
  "1",
  "1; -",
  "1; -; -",
  "1; -; -; -",
  "1; - -; -",
  "1; 0>0 0>0; -",
  "21; -; -",
  "0; -; -",
  "2; -; 1,0",
  "1;-;-",
  "2; 0>1  1>1; -",
  "2; 1>0 0>1; -",
  "1; -; 0 0 0 0 0 0 0 0 0",
  "1; -; -;",
  "1; ; -",
  "a",
  "1; 0>0; ",
  (Txt.mul "9" 30) ++ "; -; -"]
def tx2 : List Str := ["1; 0>" ++ (Txt.mul "9" 31) ++ "; -",
  "1; 0>" ++ (Txt.mul "9" 30) ++ "; -",
  "1; -; " ++ (Txt.mul "9" 31),
  "1; -; " ++ (Txt.mul "9" 30)]
def txts : List Str := tx1 ++ bigT :: tx2
def du1 : List (Option Int) := [some 0,
  some 1,
  some 2,
  none,
  some 4,
  some 1,
  some 3,
  some 3,
  some 3,
  some 3,
  some 0,
  some 1,
  some 3,
  some 3,
  some 2,
  some 1,
  some 0,
  some 2,
  some 3]
def du2 : List (Option Int) := [some 1,
  some 3,
  some 2,
  some 3]
def dues : List (Option Int) := du1 ++ some 3 :: du2
theorem due1 : tx1.map dueS = du1 := by decide +kernel
theorem due2 : tx2.map dueS = du2 := by decide +kernel
theorem due_all : txts.map dueS = dues := by
  unfold txts dues
  rw [List.map_append, List.map_cons, due1, due2, big_due]
theorem mul900 : (Txt.mul "0>0 " 900).length ≤ 3600 := by
  have h := mul_len "0>0 " 900 (by decide) (by decide +kernel)
  have e3 : ("0>0 " : Str).length = 4 := by decide +kernel
  rw [e3] at h
  exact h
theorem big_l1 : ("1; " : Str).length + (Txt.mul "0>0 " 900).length ≤ sizeLine := by
  have := mul900
  have e1 : ("1; " : Str).length = 3 := by decide +kernel
  exact le_line (by omega)
theorem big_l2 : (("1; " : Str) ++ Txt.mul "0>0 " 900).length + ("0>0; -" : Str).length ≤ sizeLine := by
  have := mul900
  have e1 : ("1; " : Str).length = 3 := by decide +kernel
  have e2 : ("0>0; -" : Str).length = 6 := by decide +kernel
  rw [app_len, e1, e2]
  exact le_line (by omega)
theorem tx_len : ∀ t ∈ txts, t.length ≤ 90000 := fun t ht => by
  unfold txts at ht
  rcases List.mem_append.mp ht with h | h
  · have : ∀ t ∈ tx1, t.length ≤ 90000 := by decide +kernel
    exact this t h
  · rcases List.mem_cons.mp h with rfl | h
    · have h1 := mul900
      have e1 : ("1; " : Str).length = 3 := by decide +kernel
      have e2 : ("0>0; -" : Str).length = 6 := by decide +kernel
      unfold bigT
      rw [app_len, app_len, e1, e2]
      omega
    · have : ∀ t ∈ tx2, t.length ≤ 90000 := by decide +kernel
      exact this t h
theorem mok {x : Str} {n : Int} (h1 : (decide (n < -(2 ^ 63 : Int)) || decide (n ≥ 2 ^ 63)) = false) (h2 : ¬ ((x.length : Int) > (2 ^ 63 - 1) / n)) (h3 : Builtin.Str.tooLong (x.length * n.toNat) = false) : MulOk x n := ⟨h1, fun _ _ => h2, fun _ _ => h3⟩
theorem big_few : Builtin.Str.tooLong (("0>0 " : Str).length * (900 : Int).toNat) = false := by decide +kernel
def fT (t : Str) : PyData := toldT ((dueS t).map some)
def gT (o : Option Int) : PyData := toldT (o.map some)
theorem fg : txts.map fT = dues.map gT := by
  rw [← due_all, List.map_map]
  rfl
theorem lay_gT (o : Option Int) : (gT o).canLay0 = true := by
  cases o with
  | none => rfl
  | some n =>
    show (PyData.tuple [.str "error", .int n]).canLay0 = true
    simp only [PyData.canLay0, PyData.canLayAll0, Bool.and_true]
    decide +kernel
theorem dep_gT (o : Option Int) : (gT o).depth ≤ 2 := by
  cases o with
  | none => exact Nat.zero_le _
  | some n =>
    show (PyData.tuple [.str "error", .int n]).depth ≤ 2
    simp [PyData.depth, PyData.depthAll]
theorem lay_gTs (l : List (Option Int)) : (PyData.list (l.map gT)).canLay0 = true := by
  have h : ∀ l : List (Option Int), PyData.canLayAll0 (l.map gT) = true := fun l => by
    induction l with
    | nil => rfl
    | cons x l ih => simp only [List.map_cons, PyData.canLayAll0, lay_gT, ih, Bool.and_true]
  simp only [PyData.canLay0, h]
theorem dep_gTs (l : List (Option Int)) : (PyData.list (l.map gT)).depth ≤ 64 := by
  have h : ∀ l : List (Option Int), PyData.depthAll (l.map gT) ≤ 4 := fun l => by
    induction l with
    | nil => simp [PyData.depthAll]
    | cons x l ih =>
      have := dep_gT x
      simp only [List.map_cons, PyData.depthAll]
      omega
  have := h l
  simp only [PyData.depth]
  omega
/-- values that are no texts -/
def NoT (K : PySem.W.Frag) (H : Hp) : List V → Prop
  | [] => True
  | v :: vs => (∃ d, Da K H d v ∧ ∀ t, d ≠ .str t) ∧ NoT K H vs
theorem NoT.at {K : PySem.W.Frag} {H : Hp} : ∀ {vs : List V} {i : Nat} {x : V}, NoT K H vs → vs[i]? = some x → ∃ d, Da K H d x ∧ ∀ t, d ≠ .str t
  | [], _, _, _, h => by cases h
  | v :: vs, 0, x, g, h => by
    obtain rfl := Option.some.inj h
    exact g.1
  | v :: vs, i + 1, x, g, h => NoT.at (vs := vs) (i := i) g.2 h
theorem noT_due {d : PyData} (h : ∀ t, d ≠ .str t) : dueT d = some none := by
  cases d with
  | str t => exact absurd rfl (h t)
  | _ => rfl
def limT : Nat → Nat
  | 0 => 6000
  | 1 => 18100
  | _ => 54400
def sp_law (K : PySem.W.Frag) : Sp := fun vs H Q _ => ∃ (a : Addr) (ns : List Int), vs = [.ref a] ∧ ns.length ≤ 63 ∧ SqL K H a (ns.map V.int) ∧ ∀ H', Ex H H' → Q (.bl true) H'
theorem sp_law_start {K : PySem.W.Frag} {H : Hp} {a : Addr} {ns : List Int} (hl : ns.length ≤ 63) (hS : SqL K H a (ns.map V.int)) : sp_law K [.ref a] H (fun v _ => v = .bl true) (fun _ _ _ => False) :=
  ⟨a, ns, rfl, hl, hS, fun _ _ => rfl⟩
section
variable {P : Program} {w : World} {K : PySem.W.Frag} {mg : Str → Option Value} {base : Heap}
theorem ok_law {f : Addr} {fd : FuncData} (T : Txt K mg) (F : Fun K "law" "law" s_law f fd)
    (D_purse : DefOk P w K mg base CX0 1 "_law_purse" P_purse (sp_purse K))
    (D_coin : DefOk P w K mg base CX0 1 "_law_coin" P_coin (sp_coin K))
    (D_web : DefOk P w K mg base CX0 3 "_law_web" P_web (sp_web K))
    (D_text : DefOk P w K mg base CX0 1 "_law_text" P_text (sp_text K))
    (D_told : DefOk P w K mg base CX0 8 "_law_told" P_told (sp_told K))
    (D_bent : DefOk P w K mg base CX0 2 "_law_bent" P_bent (sp_bent K))
    (D_right : DefOk P w K mg base CX0 9 "_law_right" P_right (sp_right K))
    (D_shown : DefOk P w K mg base CX0 9 "_law_shown" P_shown (sp_shown K))
    (D_no_webs : DefOk P w K mg base CX0 1 "_law_no_webs" P_no_webs (sp_no_webs K)) :
    FnG P w K mg base CX0 10 f fd P_law (sp_law K) := by
  refine okG0 F sc_law (fun vs H Q E h => ?_) (fun cdv A outer s H vs Q E hr hq h => ?_)
  · obtain ⟨a, ns, rfl, _⟩ := h
    rfl
  · obtain ⟨a, ns, rfl, hn, hS, q⟩ := h
    refine ⟨_, (pss_cons (ps_for PassesOwn.never rfl (pi_range1 (by rfl) T.b_range (pa_cons (pe_callB (call_max2 rfl) (by rfl) T.b_max bt_max (pa_cons pe_int (pa_cons (pe_callB (call_min2 rfl) (by rfl) T.b_min bt_min (pa_cons pe_int (pa_cons (pe_callB (call_lenK K) (by rfl) T.b_len bt_len (pa_cons (pv 0) pa_nil)) pa_nil))) pa_nil))) pa_nil)) (pg_name (i := 1) sc_law.nd rfl (by first | exact .inl rfl | exact .inr rfl)) (pss_cons (ps_set (i := 2) sc_law.nd rfl (by first | exact .inl rfl | exact .inr rfl) (pe_callD D_purse (hr.mono (by decide)) hq pass0 (pa_cons (pv 0) (pa_cons (pv 1) pa_nil))))
      (pss_cons (ps_set (i := 3) sc_law.nd rfl (by first | exact .inl rfl | exact .inr rfl) (pe_callD D_web (hr.mono (by decide)) hq pass0 (pa_cons (pv 2) (pa_cons pe_int (pa_cons pe_int pa_nil)))))
      (pss_cons (ps_if (pt_cmpR (op_neNil K hr) (pe_lc (own := [("_law_value", 7)]) rfl sc_law.nd (pi_listK K (pe_callD D_no_webs (hr.mono (by decide)) hq pass0 (pa_cons (pv 3) pa_nil))) (blkOk_by (N := N_law) (sc := defScope s_law) (by decide +kernel)) (fun _ _ _ _ _ => (pg_name (i := 7) sc_law.nd rfl (by first | exact .inl rfl | exact .inr rfl))) (fun _ _ _ _ _ => (pts_one (pt_cmpR op_ne (pe_callD D_shown (hr.mono (by decide)) hq pass0 (pa_cons (pv 7) pa_nil)) pe_str (nomark _)))) (fun _ _ _ _ _ => (pv 7))) (pe_lst pa_nil) (nomark _)) (pss_one (ps_ret pe_bl)) pss_nil)
      (pss_cons (ps_if (pt_cmpR op_notN (pe_callD D_shown (hr.mono (by decide)) hq pass0 (pa_cons (pv 3) pa_nil)) pe_non (nomark _)) (pss_one (ps_ret pe_bl)) pss_nil)
      (pss_one (ps_for PassesOwn.never rfl (pi_range1 (by rfl) T.b_range (pa_cons pe_int pa_nil)) (pg_name (i := 4) sc_law.nd rfl (by first | exact .inl rfl | exact .inr rfl)) (pss_cons (ps_set (i := 5) sc_law.nd rfl (by first | exact .inl rfl | exact .inr rfl) (pe_callD D_text (hr.mono (by decide)) hq pass0 (pa_cons (pe_callD D_web (hr.mono (by decide)) hq pass0 (pa_cons (pv 2) (pa_cons (pe_ix (ix_listK K) (pe_lst (pa_cons pe_int (pa_cons pe_int (pa_cons pe_int pa_nil)))) (pe_op op_modN (pe_callTy call_int1 (by rfl) T.b_int bt_int (pa_cons (pv 4) pa_nil)) pe_int) (fun _ _ => rfl)) (pa_cons pe_int pa_nil)))) pa_nil)))
      (pss_cons (ps_for PassesOwn.never rfl (pi_range1 (by rfl) T.b_range (pa_cons (pe_op op_add pe_int (pe_callD D_coin (hr.mono (by decide)) hq pass0 (pa_cons (pv 2) (pa_cons pe_int pa_nil)))) pa_nil)) (pg_name (i := 6) sc_law.nd rfl (by first | exact .inl rfl | exact .inr rfl)) (pss_one (ps_set (i := 5) sc_law.nd rfl (by first | exact .inl rfl | exact .inr rfl) (pe_callD D_bent (hr.mono (by decide)) hq pass0 (pa_cons (pv 2) (pa_cons (pv 5) pa_nil))))))
      (pss_one (ps_if (pt_not (pt_val (pe_callD D_right (hr.mono (by decide)) hq pass0 (pa_cons (pv 5) pa_nil)))) (pss_one (ps_ret pe_bl)) pss_nil)))))))))))
      (pss_cons (ps_if (pt_cmpR (op_neNil K hr) (pe_lc (own := [("_law_value", 7)]) rfl sc_law.nd (pi_listK K (pe_lst (pa_cons pe_non (pa_cons pe_int (pa_cons pe_bl (pa_cons (pe_lst pa_nil) (pa_cons (pe_lst (pa_cons pe_str pa_nil)) (pa_cons (pe_tup pa_nil) (pa_cons pe_dnewK pa_nil))))))))) (blkOk_by (N := N_law) (sc := defScope s_law) (by decide +kernel)) (fun _ _ _ _ _ => (pg_name (i := 7) sc_law.nd rfl (by first | exact .inl rfl | exact .inr rfl))) (fun _ _ _ _ _ => (pts_one (pt_cmpR (op_neDk K hr.units) (pe_callD D_told (hr.mono (by decide)) hq pass0 (pa_cons (pv 7) pa_nil)) (pe_tup (pa_cons pe_str (pa_cons pe_non pa_nil))) (nomark _)))) (fun _ _ _ _ _ => (pv 7))) (pe_lst pa_nil) (nomark _)) (pss_one (ps_ret pe_bl)) pss_nil)
      (pss_cons (ps_set (i := 8) sc_law.nd rfl (by first | exact .inl rfl | exact .inr rfl) (pe_lst (pa_cons pe_str (pa_cons pe_str (pa_cons pe_str (pa_cons pe_str (pa_cons pe_str (pa_cons pe_str (pa_cons pe_str (pa_cons pe_str (pa_cons pe_str (pa_cons pe_str pa_nil))))))))))))
      (pss_cons (ps_set (i := 8) sc_law.nd rfl (by first | exact .inl rfl | exact .inr rfl) (pe_op (op_catS K) (pv 8) (pe_lst (pa_cons pe_str (pa_cons pe_str (pa_cons pe_str (pa_cons pe_str (pa_cons pe_str (pa_cons pe_str (pa_cons pe_str pa_nil))))))))))
      (pss_cons (ps_set (i := 8) sc_law.nd rfl (by first | exact .inl rfl | exact .inr rfl) (pe_op (op_catS K) (pv 8) (pe_lst (pa_cons pe_str (pa_cons (pe_op op_add_str (pe_op op_mulS pe_str pe_int) pe_str) pa_nil)))))
      (pss_cons (ps_expr (pe_bm PySem.F.plainAttrs_list PySem.F.slot_list_append PySem.F.type_list_append mt_append (pv 8) (pa_cons (pe_op op_add_str (pe_op op_add_str pe_str (pe_op op_mulS pe_str pe_int)) pe_str) pa_nil)))
      (pss_cons (ps_set (i := 8) sc_law.nd rfl (by first | exact .inl rfl | exact .inr rfl) (pe_op (op_catS K) (pv 8) (pe_lst (pa_cons (pe_op op_add_str (pe_op op_add_str pe_str (pe_op op_mulS pe_str pe_int)) pe_str) (pa_cons (pe_op op_add_str (pe_op op_add_str pe_str (pe_op op_mulS pe_str pe_int)) pe_str) (pa_cons (pe_op op_add_str pe_str (pe_op op_mulS pe_str pe_int)) (pa_cons (pe_op op_add_str pe_str (pe_op op_mulS pe_str pe_int)) pa_nil)))))))
      (pss_cons (ps_setLc (i := 9) (own := [("_law_one", 10)]) rfl sc_law.nd rfl rfl (sw_true rfl rfl rfl (by decide +kernel)) (pi_listK K (pv 8)) (blkOk_by (N := N_law) (sc := defScope s_law) (by decide +kernel)) (fun _ _ _ _ _ => (pg_name (i := 10) sc_law.nd rfl (by first | exact .inl rfl | exact .inr rfl))) (fun _ _ _ _ _ => pts_nil) (fun _ _ _ _ _ => (pe_callD D_told (hr.mono (by decide)) hq pass0 (pa_cons (pv 10) pa_nil))))
      (pss_cons (ps_set (i := 11) sc_law.nd rfl (by first | exact .inl rfl | exact .inr rfl) (pe_lst (pa_cons pe_int (pa_cons pe_int (pa_cons pe_int (pa_cons pe_non (pa_cons pe_int (pa_cons pe_int (pa_cons pe_int (pa_cons pe_int (pa_cons pe_int (pa_cons pe_int (pa_cons pe_int (pa_cons pe_int (pa_cons pe_int (pa_cons pe_int (pa_cons pe_int (pa_cons pe_int (pa_cons pe_int (pa_cons pe_int (pa_cons pe_int (pa_cons pe_int (pa_cons pe_int (pa_cons pe_int (pa_cons pe_int (pa_cons pe_int pa_nil))))))))))))))))))))))))))
      (pss_one (ps_ret (pe_cmpR (op_eqDk K hr.units) (pv 9) (pe_lc (own := [("_law_one", 10)]) rfl sc_law.nd (pi_listK K (pv 11)) (blkOk_by (N := N_law) (sc := defScope s_law) (by decide +kernel)) (fun _ _ _ _ _ => (pg_name (i := 10) sc_law.nd rfl (by first | exact .inl rfl | exact .inr rfl))) (fun _ _ _ _ _ => pts_nil) (fun _ _ _ _ _ => (pe_ifExp (pt_cmpR op_isN (pv 10) pe_non (nomark _)) pe_non (pe_tup (pa_cons pe_str (pa_cons (pv 10) pa_nil)))))) (nomark _))))))))))))), ?_⟩
    refine ⟨_, rfl, a, _, rfl, .inl hS, ?_⟩
    have hmm : ∃ m : Int, m = (if (if ((ns.map V.int).length : Int) < 6 then ((ns.map V.int).length : Int) else 6) > 1 then (if ((ns.map V.int).length : Int) < 6 then ((ns.map V.int).length : Int) else 6) else 1) ∧ 0 ≤ m ∧ m ≤ 6 := by
      refine ⟨_, rfl, ?_, ?_⟩
      · split <;> split <;> omega
      · split <;> split <;> omega
    obtain ⟨m, em, m0, m6⟩ := hmm
    refine ⟨_, _, rfl, _, _, rfl, m, by rw [em], by omega, by omega, ?_⟩
    refine for_by m.toNat (fun i σ H' => ∃ y1 y2 y3 y4 y5 y6, σ = [some (V.ref a), y1, y2, y3, y4, y5, y6, none, none, none, none, none] ∧ Ex H H')
      ⟨_, _, _, _, _, _, rfl, Ex.rfl⟩ (fun i σ H' hi p => hi) (fun σ H' p => Nat.le_refl _) ?_ ?_
    · rintro i σ H1 x H2 hi ⟨y1, y2, y3, y4, y5, y6, rfl, e1⟩ ⟨rfl, rfl⟩
      refine ⟨_, rfl, _, rfl, a, ns, (0 + (i : Int)), rfl, e1.l hS, by omega, fun p H3 hp e3 p3 => ?_⟩
      refine ⟨_, rfl, p, 20, 8, 0, rfl, by decide, by decide, p3, by omega, fun v u H4 e4 p4 hd hu _ _ => ?_⟩
      replace hd := hd.up rm_ex
      refine ⟨_, rfl, v, u, rfl, hd, hu, fun l xs H5 e5 hl hx => ?_⟩
      have sl : SqL K H5 l xs := .inl (.inl hl)
      refine ⟨l, rfl, ⟨_, sl⟩, fun D hD => ?_⟩
      refine lc_by xs.length (fun j H' => Ex H5 H' ∧ H' D = some (.lst [])) ⟨Ex.nw hD, upd_same⟩ (fun j H' hj p => itl_go sl p.1 hj) (fun H' p => itl_stop sl p.1) ?_ ?_
      · rintro j H6 x H7 hj ⟨e6, hD6⟩ yy
        obtain ⟨rfl, hxj⟩ := itl_yld yy sl e6
        obtain ⟨d, h1, h2, h3⟩ := hx.at hxj
        refine ⟨rfl, _, rfl, x, d, rfl, h1.up e6, h2, fun _ H8 e8 => ?_, fun u' hu' ok => ?_⟩
        · refine ⟨rfl, _, rfl, ite2 (fun h => by simp at h) (fun _ => ?_)⟩
          exact ⟨e6.tr e8, e8 _ _ hD6⟩
        · exfalso
          rw [hu', ok.web] at h3
          cases h3
      · rintro H6 ⟨e6, hD6⟩
        refine ⟨Nat.zero_le _, fun z2 hz2 => ?_⟩
        have e7 : Ex H6 (upd H6 z2 (.lst [])) := Ex.nw hz2
        have f7 : (upd H6 z2 (.lst [])) z2 = some (.lst []) := upd_same
        generalize upd H6 z2 (.lst []) = H7 at e7 f7
        have e57 := e5.tr (e6.tr e7)
        refine ⟨D, z2, [], rfl, rfl, .inl (.inl (e7 _ _ hD6)), .inl (.inl f7), _, rfl, ite2 (fun h => Bool.noConfusion h) (fun _ => ?_)⟩
        refine ⟨_, rfl, v, u.d, rfl, hd.up e57, hu.sh.wide (by omega) (by omega), fun hw => ?_, fun _ _ _ H8 e8 => ?_⟩
        · exfalso
          rw [hu.web] at hw
          cases hw
        refine ⟨rfl, _, rfl, ite2 (fun h => by simp at h) (fun _ => ?_)⟩
        have e48 : ExD p H3 H8 := e4.tr (e57.tr e8).d
        have p8 : Purse H8 p 700 := p4.up (e57.tr e8)
        refine ⟨12, rfl, by omega, by omega, ?_⟩
        refine for_by 12 (fun j σ H' => ∃ y4 y5 y6, σ = [some (V.ref a), some (V.int (0 + (i : Int))), some (V.ref p), some v, y4, y5, y6, none, none, none, none, none] ∧ ExD p H3 H' ∧ Purse H' p (700 + 720 * j))
          ⟨_, _, _, rfl, e48, p8⟩ (fun j σ H' hj p => hj) (fun σ H' p => Nat.le_refl _) ?_ ?_
        · rintro j σ H9 x H10 hj ⟨z4, z5, z6, rfl, e9, p9⟩ ⟨rfl, rfl⟩
          refine ⟨_, rfl, by show 3 ≤ sizeLine; decide, fun o1 n1 => ?_⟩
          have E1 : Ex H10 (upd H10 o1 (.lst [.int 2, .int 4, .int 9])) := Ex.nw n1
          have F1 : (upd H10 o1 (.lst [.int 2, .int 4, .int 9])) o1 = some (.lst [.int 2, .int 4, .int 9]) := upd_same
          generalize upd H10 o1 (.lst [.int 2, .int 4, .int 9]) = G1 at E1 F1
          have fm := fmod_in (a := 0 + (j : Int)) (m := 3) (by decide)
          obtain ⟨x, xm, hxz⟩ := atI_mem (xs := [V.int 2, .int 4, .int 9]) fm.1 fm.2
          obtain ⟨z, rfl, hz⟩ : ∃ z : Int, x = .int z ∧ (1 ≤ z ∧ z ≤ 20) := by
            simp only [List.mem_cons, List.not_mem_nil, or_false] at xm
            rcases xm with rfl | rfl | rfl
            · exact ⟨2, rfl, by decide⟩
            · exact ⟨4, rfl, by decide⟩
            · exact ⟨9, rfl, by decide⟩
          refine ⟨_, rfl, .inl ⟨_, rfl, _, _, rfl, rfl, (show (3 : Int) ≠ 0 by decide), o1, _, _, .int z, rfl, rfl, .inl (.inl F1), hxz, ?_⟩⟩
          refine ⟨p, z, 3, 700 + 720 * j, rfl, hz, by decide, p9.up E1, by omega, fun v2 u2 H11 e11 p11 hd2 hu2 _ _ => ?_⟩
          refine ⟨v2, u2, rfl, hd2.up rm_ex, hu2, fun H12 e12 => ?_⟩
          have p12 := p11.up e12
          have e3c : ExD p H3 H12 := e9.tr (E1.d.tr (e11.tr e12.d))
          refine ⟨_, rfl, p, 2, _, rfl, by decide, p12, by omega, fun c H13 hc p13 e13 => ?_⟩
          refine ⟨_, _, rfl, rfl, 1 + c, rfl, by omega, by omega, ?_⟩
          refine for_by (1 + c).toNat (fun k σ H' => ∃ y6 t, σ = [some (V.ref a), some (V.int (0 + (i : Int))), some (V.ref p), some v, some (V.int (0 + (j : Int))), some (V.str t), y6, none, none, none, none, none] ∧ ExD p H3 H' ∧ Purse H' p (700 + 720 * j + 701 + 6 * k) ∧ t.length ≤ limT k)
            ⟨_, _, rfl, e3c.tr e13, p13, len_webT hu2⟩ (fun k σ H' hk p => hk) (fun σ H' p => Nat.le_refl _) ?_ ?_
          · rintro k σ H14 x H15 hk ⟨w6, t, rfl, e14, p14, ht⟩ ⟨rfl, rfl⟩
            have hk2 : k = 0 ∨ k = 1 := by omega
            have hlim : limT k ≤ 18100 ∧ 3 * limT k + 100 ≤ limT (k + 1) := by
              rcases hk2 with rfl | rfl
              · exact ⟨by decide, by decide⟩
              · exact ⟨by decide, by decide⟩
            refine ⟨_, rfl, _, rfl, p, t, _, rfl, by omega, p14, by omega, fun t' H16 ht' e16 p16 => ?_⟩
            exact ⟨_, t', rfl, e14.tr e16, p16, by omega⟩
          · rintro σ H14 ⟨w6, t, rfl, e14, p14, ht⟩
            have hlim : limT (1 + c).toNat ≤ 54400 := by
              have : (1 + c).toNat = 1 ∨ (1 + c).toNat = 2 := by omega
              rcases this with h | h
              · rw [h]
                decide
              · rw [h]
                decide
            refine ⟨_, rfl, t, rfl, by omega, fun H15 e15 => ⟨_, rfl, ite2 (fun h => Bool.noConfusion h) (fun _ => ?_)⟩⟩
            exact ⟨_, _, _, rfl, e14.tr e15.d, (p14.up e15).mono (by omega)⟩
        · rintro σ H9 ⟨z4, z5, z6, rfl, e9, p9⟩
          exact ⟨_, _, _, _, _, _, rfl, e1.tr (fun b o g => e9 b o (fun n => by rw [n, hp] at g; cases g) (e3 b o g))⟩
    · rintro σ H1 ⟨y1, y2, y3, y4, y5, y6, rfl, e1⟩
      refine ⟨Nat.zero_le _, fun o1 n1 => ?_⟩
      have E1 : Ex H1 (upd H1 o1 (.lst [])) := Ex.nw n1
      have F1 : (upd H1 o1 (.lst [])) o1 = some (.lst []) := upd_same
      generalize upd H1 o1 (.lst []) = G1 at E1 F1
      refine ⟨by show 1 ≤ sizeLine; decide, fun o2 n2 => ?_⟩
      have E2 : Ex G1 (upd G1 o2 (.lst [(.str "1; -; -")])) := Ex.nw n2
      have F2 : (upd G1 o2 (.lst [(.str "1; -; -")])) o2 = some (.lst [(.str "1; -; -")]) := upd_same
      generalize upd G1 o2 (.lst [(.str "1; -; -")]) = G2 at E2 F2
      refine ⟨Nat.zero_le _, fun o3 n3 => ?_⟩
      have E3 : Ex G2 (upd G2 o3 (.tup [])) := Ex.nw n3
      have F3 : (upd G2 o3 (.tup [])) o3 = some (.tup []) := upd_same
      generalize upd G2 o3 (.tup []) = G3 at E3 F3
      refine fun o4 n4 => ?_
      have E4 : Ex G3 (upd G3 o4 (.dK [])) := Ex.nw n4
      have F4 : (upd G3 o4 (.dK [])) o4 = some (.dK []) := upd_same
      generalize upd G3 o4 (.dK []) = G4 at E4 F4
      refine ⟨by show 7 ≤ sizeLine; decide, fun o5 n5 => ?_⟩
      have E5 : Ex G4 (upd G4 o5 (.lst [.non, (.int 0), (.bl true), (.ref o1), (.ref o2), (.ref o3), (.ref o4)])) := Ex.nw n5
      have F5 : (upd G4 o5 (.lst [.non, (.int 0), (.bl true), (.ref o1), (.ref o2), (.ref o3), (.ref o4)])) o5 = some (.lst [.non, (.int 0), (.bl true), (.ref o1), (.ref o2), (.ref o3), (.ref o4)]) := upd_same
      generalize upd G4 o5 (.lst [.non, (.int 0), (.bl true), (.ref o1), (.ref o2), (.ref o3), (.ref o4)]) = G5 at E5 F5
      have pN : NoT K G5 [.non, (.int 0), (.bl true), (.ref o1), (.ref o2), (.ref o3), (.ref o4)] := ⟨⟨.none, rfl, fun t z => nomatch z⟩, ⟨(.int 0), rfl, fun t z => nomatch z⟩, ⟨(.bool true), rfl, fun t z => nomatch z⟩, ⟨(.list []), ⟨o1, _, rfl, (E2.tr (E3.tr (E4.tr E5))) _ _ F1, rfl, by show 0 ≤ 100000; decide⟩, fun t z => nomatch z⟩, ⟨(.list [(.str "1; -; -")]), ⟨o2, _, rfl, (E3.tr (E4.tr E5)) _ _ F2, ⟨_, _, rfl, rfl, rfl⟩, by show 1 ≤ 100000; decide⟩, fun t z => nomatch z⟩, ⟨(.tuple []), ⟨o3, _, rfl, (E4.tr E5) _ _ F3, rfl⟩, fun t z => nomatch z⟩, ⟨(.dict []), ⟨o4, [], rfl, E5 _ _ F4, rfl, rfl⟩, fun t z => nomatch z⟩, trivial⟩
      have e2 : Ex H G5 := e1.tr (E1.tr (E2.tr (E3.tr (E4.tr E5))))
      have sN : SqL K G5 o5 [.non, (.int 0), (.bl true), (.ref o1), (.ref o2), (.ref o3), (.ref o4)] := .inl (.inl F5)
      generalize G5 = HN at pN e2 sN
      generalize ([.non, (.int 0), (.bl true), (.ref o1), (.ref o2), (.ref o3), (.ref o4)] : List V) = VN at pN sN
      refine ⟨o5, rfl, ⟨_, sN⟩, fun D hD => ?_⟩
      refine lc_by VN.length (fun j H' => Ex HN H' ∧ H' D = some (.lst [])) ⟨Ex.nw hD, upd_same⟩ (fun j H' hj p => itl_go sN p.1 hj) (fun H' p => itl_stop sN p.1) ?_ ?_
      · rintro j H6 x H7 hj ⟨e6, hD6⟩ yy
        obtain ⟨rfl, hxj⟩ := itl_yld yy sN e6
        obtain ⟨d, h1, h2⟩ := pN.at hxj
        refine ⟨rfl, _, rfl, x, d, rfl, h1.up e6, fun t z => absurd z (h2 t), fun v' H8 e8 hv => ?_⟩
        rw [noT_due h2] at hv
        replace hv := hv.up newH.sub
        refine ⟨by show 2 ≤ sizeLine; decide, fun T1 hT1 => ?_⟩
        have e9 : Ex H8 (upd H8 T1 (.tup [.str "error", .non])) := Ex.nw hT1
        have f9 : (upd H8 T1 (.tup [.str "error", .non])) T1 = some (.tup [.str "error", .non]) := upd_same
        generalize upd H8 T1 (.tup [.str "error", .non]) = H9 at e9 f9
        have dT : Da K H9 (toldT (some none)) (.ref T1) := ⟨T1, _, rfl, f9, _, _, rfl, rfl, _, _, rfl, rfl, rfl⟩
        have lay : (toldT (some none)).canLay0 = true := by decide +kernel
        have shp : SeqAt.shaped (toldT (some none)) = true := shaped_of lay (by decide +kernel)
        refine ⟨_, _, (hv.up e9).dp _ _ (nd_of_lay lay), dT.dp _ _ (nd_of_lay lay), shp, shp, _, rfl, ite2 (fun h => ?_) (fun _ => ?_)⟩
        · rw [SeqAt.eqv_refl _ lay] at h
          cases h
        · exact ⟨e6.tr (e8.tr e9), e9 _ _ (e8 _ _ hD6)⟩
      rintro H6 ⟨e6, hD6⟩
      refine ⟨Nat.zero_le _, fun z2 hz2 => ?_⟩
      have e7 : Ex H6 (upd H6 z2 (.lst [])) := Ex.nw hz2
      have f7 : (upd H6 z2 (.lst [])) z2 = some (.lst []) := upd_same
      generalize upd H6 z2 (.lst []) = H7 at e7 f7
      refine ⟨D, z2, [], rfl, rfl, .inl (.inl (e7 _ _ hD6)), .inl (.inl f7), _, rfl, ite2 (fun h => Bool.noConfusion h) (fun _ => ?_)⟩
      have e27 : Ex H H7 := e2.tr (e6.tr e7)
      refine ⟨by show 10 ≤ sizeLine; decide, fun o101 n101 => ?_⟩
      have E101 : Ex H7 (upd H7 o101 (.lst [(.str ""), (.str "1"), (.str "1; -"), (.str "1; -; -"), (.str "1; -; -; -"), (.str "1; - -; -"), (.str "1; 0>0 0>0; -"), (.str "21; -; -"), (.str "0; -; -"), (.str "2; -; 1,0")])) := Ex.nw n101
      have F101 : (upd H7 o101 (.lst [(.str ""), (.str "1"), (.str "1; -"), (.str "1; -; -"), (.str "1; -; -; -"), (.str "1; - -; -"), (.str "1; 0>0 0>0; -"), (.str "21; -; -"), (.str "0; -; -"), (.str "2; -; 1,0")])) o101 = some (.lst [(.str ""), (.str "1"), (.str "1; -"), (.str "1; -; -"), (.str "1; -; -; -"), (.str "1; - -; -"), (.str "1; 0>0 0>0; -"), (.str "21; -; -"), (.str "0; -; -"), (.str "2; -; 1,0")]) := upd_same
      generalize upd H7 o101 (.lst [(.str ""), (.str "1"), (.str "1; -"), (.str "1; -; -"), (.str "1; -; -; -"), (.str "1; - -; -"), (.str "1; 0>0 0>0; -"), (.str "21; -; -"), (.str "0; -; -"), (.str "2; -; 1,0")]) = G101 at E101 F101
      refine ⟨_, rfl, by show 7 ≤ sizeLine; decide, fun o102 n102 => ?_⟩
      have E102 : Ex G101 (upd G101 o102 (.lst [(.str "1;-;-"), (.str "2; 0>1  1>1; -"), (.str "2; 1>0 0>1; -"), (.str "1; -; 0 0 0 0 0 0 0 0 0"), (.str "1; -; -;"), (.str "1; ; -"), (.str "a")])) := Ex.nw n102
      have F102 : (upd G101 o102 (.lst [(.str "1;-;-"), (.str "2; 0>1  1>1; -"), (.str "2; 1>0 0>1; -"), (.str "1; -; 0 0 0 0 0 0 0 0 0"), (.str "1; -; -;"), (.str "1; ; -"), (.str "a")])) o102 = some (.lst [(.str "1;-;-"), (.str "2; 0>1  1>1; -"), (.str "2; 1>0 0>1; -"), (.str "1; -; 0 0 0 0 0 0 0 0 0"), (.str "1; -; -;"), (.str "1; ; -"), (.str "a")]) := upd_same
      generalize upd G101 o102 (.lst [(.str "1;-;-"), (.str "2; 0>1  1>1; -"), (.str "2; 1>0 0>1; -"), (.str "1; -; 0 0 0 0 0 0 0 0 0"), (.str "1; -; -;"), (.str "1; ; -"), (.str "a")]) = G102 at E102 F102
      refine ⟨o101, o102, _, _, rfl, rfl, .inl (.inl (E102 _ _ F101)), (.inl (.inl (Ex.rfl _ _ F102))), (by show 10 + 7 ≤ 1000000; decide), fun o103 n103 => ?_⟩
      have E103 : Ex G102 (upd G102 o103 (.lst ([(.str ""), (.str "1"), (.str "1; -"), (.str "1; -; -"), (.str "1; -; -; -"), (.str "1; - -; -"), (.str "1; 0>0 0>0; -"), (.str "21; -; -"), (.str "0; -; -"), (.str "2; -; 1,0")] ++ [(.str "1;-;-"), (.str "2; 0>1  1>1; -"), (.str "2; 1>0 0>1; -"), (.str "1; -; 0 0 0 0 0 0 0 0 0"), (.str "1; -; -;"), (.str "1; ; -"), (.str "a")]))) := Ex.nw n103
      have F103 : (upd G102 o103 (.lst ([(.str ""), (.str "1"), (.str "1; -"), (.str "1; -; -"), (.str "1; -; -; -"), (.str "1; - -; -"), (.str "1; 0>0 0>0; -"), (.str "21; -; -"), (.str "0; -; -"), (.str "2; -; 1,0")] ++ [(.str "1;-;-"), (.str "2; 0>1  1>1; -"), (.str "2; 1>0 0>1; -"), (.str "1; -; 0 0 0 0 0 0 0 0 0"), (.str "1; -; -;"), (.str "1; ; -"), (.str "a")]))) o103 = some (.lst ([(.str ""), (.str "1"), (.str "1; -"), (.str "1; -; -"), (.str "1; -; -; -"), (.str "1; - -; -"), (.str "1; 0>0 0>0; -"), (.str "21; -; -"), (.str "0; -; -"), (.str "2; -; 1,0")] ++ [(.str "1;-;-"), (.str "2; 0>1  1>1; -"), (.str "2; 1>0 0>1; -"), (.str "1; -; 0 0 0 0 0 0 0 0 0"), (.str "1; -; -;"), (.str "1; ; -"), (.str "a")])) := upd_same
      generalize upd G102 o103 (.lst ([(.str ""), (.str "1"), (.str "1; -"), (.str "1; -; -"), (.str "1; -; -; -"), (.str "1; - -; -"), (.str "1; 0>0 0>0; -"), (.str "21; -; -"), (.str "0; -; -"), (.str "2; -; 1,0")] ++ [(.str "1;-;-"), (.str "2; 0>1  1>1; -"), (.str "2; 1>0 0>1; -"), (.str "1; -; 0 0 0 0 0 0 0 0 0"), (.str "1; -; -;"), (.str "1; ; -"), (.str "a")])) = G103 at E103 F103
      refine ⟨_, rfl, _, _, rfl, rfl, (mok (by decide +kernel) (by decide +kernel) (by decide +kernel)), _, _, rfl, rfl, (le_line (by decide +kernel)), by show 2 ≤ sizeLine; decide, fun o104 n104 => ?_⟩
      have E104 : Ex G103 (upd G103 o104 (.lst [(.str "1; 0>0; "), (.str ((Txt.mul "9" 30) ++ "; -; -"))])) := Ex.nw n104
      have F104 : (upd G103 o104 (.lst [(.str "1; 0>0; "), (.str ((Txt.mul "9" 30) ++ "; -; -"))])) o104 = some (.lst [(.str "1; 0>0; "), (.str ((Txt.mul "9" 30) ++ "; -; -"))]) := upd_same
      generalize upd G103 o104 (.lst [(.str "1; 0>0; "), (.str ((Txt.mul "9" 30) ++ "; -; -"))]) = G104 at E104 F104
      refine ⟨o103, o104, _, _, rfl, rfl, .inl (.inl (E104 _ _ F103)), (.inl (.inl (Ex.rfl _ _ F104))), (by show 17 + 2 ≤ 1000000; decide), fun o105 n105 => ?_⟩
      have E105 : Ex G104 (upd G104 o105 (.lst (([(.str ""), (.str "1"), (.str "1; -"), (.str "1; -; -"), (.str "1; -; -; -"), (.str "1; - -; -"), (.str "1; 0>0 0>0; -"), (.str "21; -; -"), (.str "0; -; -"), (.str "2; -; 1,0")] ++ [(.str "1;-;-"), (.str "2; 0>1  1>1; -"), (.str "2; 1>0 0>1; -"), (.str "1; -; 0 0 0 0 0 0 0 0 0"), (.str "1; -; -;"), (.str "1; ; -"), (.str "a")]) ++ [(.str "1; 0>0; "), (.str ((Txt.mul "9" 30) ++ "; -; -"))]))) := Ex.nw n105
      have F105 : (upd G104 o105 (.lst (([(.str ""), (.str "1"), (.str "1; -"), (.str "1; -; -"), (.str "1; -; -; -"), (.str "1; - -; -"), (.str "1; 0>0 0>0; -"), (.str "21; -; -"), (.str "0; -; -"), (.str "2; -; 1,0")] ++ [(.str "1;-;-"), (.str "2; 0>1  1>1; -"), (.str "2; 1>0 0>1; -"), (.str "1; -; 0 0 0 0 0 0 0 0 0"), (.str "1; -; -;"), (.str "1; ; -"), (.str "a")]) ++ [(.str "1; 0>0; "), (.str ((Txt.mul "9" 30) ++ "; -; -"))]))) o105 = some (.lst (([(.str ""), (.str "1"), (.str "1; -"), (.str "1; -; -"), (.str "1; -; -; -"), (.str "1; - -; -"), (.str "1; 0>0 0>0; -"), (.str "21; -; -"), (.str "0; -; -"), (.str "2; -; 1,0")] ++ [(.str "1;-;-"), (.str "2; 0>1  1>1; -"), (.str "2; 1>0 0>1; -"), (.str "1; -; 0 0 0 0 0 0 0 0 0"), (.str "1; -; -;"), (.str "1; ; -"), (.str "a")]) ++ [(.str "1; 0>0; "), (.str ((Txt.mul "9" 30) ++ "; -; -"))])) := upd_same
      generalize upd G104 o105 (.lst (([(.str ""), (.str "1"), (.str "1; -"), (.str "1; -; -"), (.str "1; -; -; -"), (.str "1; - -; -"), (.str "1; 0>0 0>0; -"), (.str "21; -; -"), (.str "0; -; -"), (.str "2; -; 1,0")] ++ [(.str "1;-;-"), (.str "2; 0>1  1>1; -"), (.str "2; 1>0 0>1; -"), (.str "1; -; 0 0 0 0 0 0 0 0 0"), (.str "1; -; -;"), (.str "1; ; -"), (.str "a")]) ++ [(.str "1; 0>0; "), (.str ((Txt.mul "9" 30) ++ "; -; -"))])) = G105 at E105 F105
      refine ⟨_, rfl, .inl ⟨rfl, _, .inl (.inl F105)⟩, _, _, rfl, rfl, (mok (by decide +kernel) (by decide +kernel) big_few), _, _, rfl, rfl, big_l1, _, _, rfl, rfl, big_l2, o105, (([(.str ""), (.str "1"), (.str "1; -"), (.str "1; -; -"), (.str "1; -; -; -"), (.str "1; - -; -"), (.str "1; 0>0 0>0; -"), (.str "21; -; -"), (.str "0; -; -"), (.str "2; -; 1,0")] ++ [(.str "1;-;-"), (.str "2; 0>1  1>1; -"), (.str "2; 1>0 0>1; -"), (.str "1; -; 0 0 0 0 0 0 0 0 0"), (.str "1; -; -;"), (.str "1; ; -"), (.str "a")]) ++ [(.str "1; 0>0; "), (.str ((Txt.mul "9" 30) ++ "; -; -"))]), (.str ("1; " ++ (Txt.mul "0>0 " 900) ++ "0>0; -")), rfl, rfl, F105, (mil' (by show 19 < 1000000; decide)), ?_⟩
      have x4 : Ex H7 (upd G105 o105 (.lst ((([(.str ""), (.str "1"), (.str "1; -"), (.str "1; -; -"), (.str "1; -; -; -"), (.str "1; - -; -"), (.str "1; 0>0 0>0; -"), (.str "21; -; -"), (.str "0; -; -"), (.str "2; -; 1,0")] ++ [(.str "1;-;-"), (.str "2; 0>1  1>1; -"), (.str "2; 1>0 0>1; -"), (.str "1; -; 0 0 0 0 0 0 0 0 0"), (.str "1; -; -;"), (.str "1; ; -"), (.str "a")]) ++ [(.str "1; 0>0; "), (.str ((Txt.mul "9" 30) ++ "; -; -"))]) ++ [(.str ("1; " ++ (Txt.mul "0>0 " 900) ++ "0>0; -"))]))) := (E101.tr (E102.tr (E103.tr (E104.tr E105)))).wr ((E101.tr (E102.tr (E103.tr E104))).fr n105)
      have f4 : (upd G105 o105 (.lst ((([(.str ""), (.str "1"), (.str "1; -"), (.str "1; -; -"), (.str "1; -; -; -"), (.str "1; - -; -"), (.str "1; 0>0 0>0; -"), (.str "21; -; -"), (.str "0; -; -"), (.str "2; -; 1,0")] ++ [(.str "1;-;-"), (.str "2; 0>1  1>1; -"), (.str "2; 1>0 0>1; -"), (.str "1; -; 0 0 0 0 0 0 0 0 0"), (.str "1; -; -;"), (.str "1; ; -"), (.str "a")]) ++ [(.str "1; 0>0; "), (.str ((Txt.mul "9" 30) ++ "; -; -"))]) ++ [(.str ("1; " ++ (Txt.mul "0>0 " 900) ++ "0>0; -"))]))) o105 = some (.lst ((([(.str ""), (.str "1"), (.str "1; -"), (.str "1; -; -"), (.str "1; -; -; -"), (.str "1; - -; -"), (.str "1; 0>0 0>0; -"), (.str "21; -; -"), (.str "0; -; -"), (.str "2; -; 1,0")] ++ [(.str "1;-;-"), (.str "2; 0>1  1>1; -"), (.str "2; 1>0 0>1; -"), (.str "1; -; 0 0 0 0 0 0 0 0 0"), (.str "1; -; -;"), (.str "1; ; -"), (.str "a")]) ++ [(.str "1; 0>0; "), (.str ((Txt.mul "9" 30) ++ "; -; -"))]) ++ [(.str ("1; " ++ (Txt.mul "0>0 " 900) ++ "0>0; -"))])) := upd_same
      generalize upd G105 o105 (.lst ((([(.str ""), (.str "1"), (.str "1; -"), (.str "1; -; -"), (.str "1; -; -; -"), (.str "1; - -; -"), (.str "1; 0>0 0>0; -"), (.str "21; -; -"), (.str "0; -; -"), (.str "2; -; 1,0")] ++ [(.str "1;-;-"), (.str "2; 0>1  1>1; -"), (.str "2; 1>0 0>1; -"), (.str "1; -; 0 0 0 0 0 0 0 0 0"), (.str "1; -; -;"), (.str "1; ; -"), (.str "a")]) ++ [(.str "1; 0>0; "), (.str ((Txt.mul "9" 30) ++ "; -; -"))]) ++ [(.str ("1; " ++ (Txt.mul "0>0 " 900) ++ "0>0; -"))])) = K4 at x4 f4
      refine ⟨_, rfl, _, _, rfl, rfl, (mok (by decide +kernel) (by decide +kernel) (by decide +kernel)), _, _, rfl, rfl, (le_line (by decide +kernel)), _, _, rfl, rfl, (le_line (by decide +kernel)), _, _, rfl, rfl, (mok (by decide +kernel) (by decide +kernel) (by decide +kernel)), _, _, rfl, rfl, (le_line (by decide +kernel)), _, _, rfl, rfl, (le_line (by decide +kernel)), _, _, rfl, rfl, (mok (by decide +kernel) (by decide +kernel) (by decide +kernel)), _, _, rfl, rfl, (le_line (by decide +kernel)), _, _, rfl, rfl, (mok (by decide +kernel) (by decide +kernel) (by decide +kernel)), _, _, rfl, rfl, (le_line (by decide +kernel)), by show 4 ≤ sizeLine; decide, fun o201 n201 => ?_⟩
      have E201 : Ex K4 (upd K4 o201 (.lst [(.str ("1; 0>" ++ (Txt.mul "9" 31) ++ "; -")), (.str ("1; 0>" ++ (Txt.mul "9" 30) ++ "; -")), (.str ("1; -; " ++ (Txt.mul "9" 31))), (.str ("1; -; " ++ (Txt.mul "9" 30)))])) := Ex.nw n201
      have F201 : (upd K4 o201 (.lst [(.str ("1; 0>" ++ (Txt.mul "9" 31) ++ "; -")), (.str ("1; 0>" ++ (Txt.mul "9" 30) ++ "; -")), (.str ("1; -; " ++ (Txt.mul "9" 31))), (.str ("1; -; " ++ (Txt.mul "9" 30)))])) o201 = some (.lst [(.str ("1; 0>" ++ (Txt.mul "9" 31) ++ "; -")), (.str ("1; 0>" ++ (Txt.mul "9" 30) ++ "; -")), (.str ("1; -; " ++ (Txt.mul "9" 31))), (.str ("1; -; " ++ (Txt.mul "9" 30)))]) := upd_same
      generalize upd K4 o201 (.lst [(.str ("1; 0>" ++ (Txt.mul "9" 31) ++ "; -")), (.str ("1; 0>" ++ (Txt.mul "9" 30) ++ "; -")), (.str ("1; -; " ++ (Txt.mul "9" 31))), (.str ("1; -; " ++ (Txt.mul "9" 30)))]) = G201 at E201 F201
      refine ⟨o105, o201, _, _, rfl, rfl, .inl (.inl (E201 _ _ f4)), (.inl (.inl (Ex.rfl _ _ F201))), (by show 20 + 4 ≤ 1000000; decide), fun o202 n202 => ?_⟩
      have E202 : Ex G201 (upd G201 o202 (.lst (((([(.str ""), (.str "1"), (.str "1; -"), (.str "1; -; -"), (.str "1; -; -; -"), (.str "1; - -; -"), (.str "1; 0>0 0>0; -"), (.str "21; -; -"), (.str "0; -; -"), (.str "2; -; 1,0")] ++ [(.str "1;-;-"), (.str "2; 0>1  1>1; -"), (.str "2; 1>0 0>1; -"), (.str "1; -; 0 0 0 0 0 0 0 0 0"), (.str "1; -; -;"), (.str "1; ; -"), (.str "a")]) ++ [(.str "1; 0>0; "), (.str ((Txt.mul "9" 30) ++ "; -; -"))]) ++ [(.str ("1; " ++ (Txt.mul "0>0 " 900) ++ "0>0; -"))]) ++ [(.str ("1; 0>" ++ (Txt.mul "9" 31) ++ "; -")), (.str ("1; 0>" ++ (Txt.mul "9" 30) ++ "; -")), (.str ("1; -; " ++ (Txt.mul "9" 31))), (.str ("1; -; " ++ (Txt.mul "9" 30)))]))) := Ex.nw n202
      have F202 : (upd G201 o202 (.lst (((([(.str ""), (.str "1"), (.str "1; -"), (.str "1; -; -"), (.str "1; -; -; -"), (.str "1; - -; -"), (.str "1; 0>0 0>0; -"), (.str "21; -; -"), (.str "0; -; -"), (.str "2; -; 1,0")] ++ [(.str "1;-;-"), (.str "2; 0>1  1>1; -"), (.str "2; 1>0 0>1; -"), (.str "1; -; 0 0 0 0 0 0 0 0 0"), (.str "1; -; -;"), (.str "1; ; -"), (.str "a")]) ++ [(.str "1; 0>0; "), (.str ((Txt.mul "9" 30) ++ "; -; -"))]) ++ [(.str ("1; " ++ (Txt.mul "0>0 " 900) ++ "0>0; -"))]) ++ [(.str ("1; 0>" ++ (Txt.mul "9" 31) ++ "; -")), (.str ("1; 0>" ++ (Txt.mul "9" 30) ++ "; -")), (.str ("1; -; " ++ (Txt.mul "9" 31))), (.str ("1; -; " ++ (Txt.mul "9" 30)))]))) o202 = some (.lst (((([(.str ""), (.str "1"), (.str "1; -"), (.str "1; -; -"), (.str "1; -; -; -"), (.str "1; - -; -"), (.str "1; 0>0 0>0; -"), (.str "21; -; -"), (.str "0; -; -"), (.str "2; -; 1,0")] ++ [(.str "1;-;-"), (.str "2; 0>1  1>1; -"), (.str "2; 1>0 0>1; -"), (.str "1; -; 0 0 0 0 0 0 0 0 0"), (.str "1; -; -;"), (.str "1; ; -"), (.str "a")]) ++ [(.str "1; 0>0; "), (.str ((Txt.mul "9" 30) ++ "; -; -"))]) ++ [(.str ("1; " ++ (Txt.mul "0>0 " 900) ++ "0>0; -"))]) ++ [(.str ("1; 0>" ++ (Txt.mul "9" 31) ++ "; -")), (.str ("1; 0>" ++ (Txt.mul "9" 30) ++ "; -")), (.str ("1; -; " ++ (Txt.mul "9" 31))), (.str ("1; -; " ++ (Txt.mul "9" 30)))])) := upd_same
      generalize upd G201 o202 (.lst (((([(.str ""), (.str "1"), (.str "1; -"), (.str "1; -; -"), (.str "1; -; -; -"), (.str "1; - -; -"), (.str "1; 0>0 0>0; -"), (.str "21; -; -"), (.str "0; -; -"), (.str "2; -; 1,0")] ++ [(.str "1;-;-"), (.str "2; 0>1  1>1; -"), (.str "2; 1>0 0>1; -"), (.str "1; -; 0 0 0 0 0 0 0 0 0"), (.str "1; -; -;"), (.str "1; ; -"), (.str "a")]) ++ [(.str "1; 0>0; "), (.str ((Txt.mul "9" 30) ++ "; -; -"))]) ++ [(.str ("1; " ++ (Txt.mul "0>0 " 900) ++ "0>0; -"))]) ++ [(.str ("1; 0>" ++ (Txt.mul "9" 31) ++ "; -")), (.str ("1; 0>" ++ (Txt.mul "9" 30) ++ "; -")), (.str ("1; -; " ++ (Txt.mul "9" 31))), (.str ("1; -; " ++ (Txt.mul "9" 30)))])) = G202 at E202 F202
      have f5 : G202 o202 = some (.lst (txts.map V.str)) := F202
      have e5 : Ex H G202 := e27.tr (x4.tr (E201.tr E202))
      generalize G202 = H8 at f5 e5
      have sT : SqL K H8 o202 (txts.map V.str) := .inl (.inl f5)
      refine ⟨_, rfl, o202, rfl, ⟨_, sT⟩, fun DT hDT => ?_⟩
      have nB : (upd H8 DT (.lst [])) DT ≠ none := by
        rw [upd_same]
        exact fun z => nomatch z
      refine lc_by (txts.map V.str).length (fun i H' => Ex H8 H' ∧ ∃ acc, H' DT = some (.lst acc) ∧ DaAll K (newH (upd H8 DT (.lst [])) H') ((txts.take i).map fT) acc)
        ⟨Ex.nw hDT, [], upd_same, rfl⟩ (fun i H' hi p => itl_go sT p.1 hi) (fun H' p => itl_stop sT p.1) ?_ ?_
      · rintro i H9 x H10 hi ⟨e9, acc, hD9, hA9⟩ yy
        obtain ⟨rfl, hx⟩ := itl_yld yy sT e9
        obtain ⟨t, ht, rfl⟩ := map_at hx
        have htl := tx_len t (List.mem_of_getElem? ht)
        have l9 := hA9.len
        rw [List.length_map, List.length_take] at l9
        have l24 : txts.length = 24 := by decide +kernel
        refine ⟨rfl, _, rfl, .str t, .str t, rfl, rfl, fun t' z => ?_, fun v' H11 e11 hv => ?_⟩
        · obtain rfl := PyData.str.inj z
          exact htl
        refine ⟨acc, e11 _ _ hD9, mil' (by omega), (e9.tr e11).wr hDT, acc ++ [v'], upd_same, ?_⟩
        rw [newH.wr nB, take_snoc ht, List.map_append]
        refine (hA9.up (newH.up e11)).app ⟨_, _, rfl, ?_, rfl⟩
        exact hv.up (newH.base fun a h => fr_upd e9 (by rw [hD9]; exact fun z => nomatch z) h)
      rintro H9 ⟨e9, acc, hD9, hA9⟩
      rw [List.length_map, List.take_length] at hA9
      have dT9 : Da K H9 (.list (txts.map fT)) (.ref DT) := ⟨DT, acc, rfl, hD9, hA9.up newH.sub, by rw [List.length_map]; decide +kernel⟩
      refine ⟨by show 24 ≤ sizeLine; decide, fun LD nD => ?_⟩
      have e10 : Ex H9 (upd H9 LD (.lst (dues.map oV))) := Ex.nw nD
      have f10 : (upd H9 LD (.lst (dues.map oV))) LD = some (.lst (dues.map oV)) := upd_same
      show (_ : Prop)
      rw [show ([V.int 0, V.int 1, V.int 2, V.non, V.int 4, V.int 1, V.int 3, V.int 3, V.int 3, V.int 3, V.int 0, V.int 1, V.int 3, V.int 3, V.int 2, V.int 1, V.int 0, V.int 2, V.int 3, V.int 3, V.int 1, V.int 3, V.int 2, V.int 3] : List V) = dues.map oV from rfl]
      generalize upd H9 LD (.lst (dues.map oV)) = H10 at e10 f10
      have sD : SqL K H10 LD (dues.map oV) := .inl (.inl f10)
      refine ⟨_, rfl, _, rfl, LD, rfl, ⟨_, sD⟩, fun DD hDD => ?_⟩
      have nC : (upd H10 DD (.lst [])) DD ≠ none := by
        rw [upd_same]
        exact fun z => nomatch z
      refine lc_by (dues.map oV).length (fun i H' => Ex H10 H' ∧ ∃ acc, H' DD = some (.lst acc) ∧ DaAll K (newH (upd H10 DD (.lst [])) H') ((dues.take i).map gT) acc)
        ⟨Ex.nw hDD, [], upd_same, rfl⟩ (fun i H' hi p => itl_go sD p.1 hi) (fun H' p => itl_stop sD p.1) ?_ ?_
      · rintro i H11 x H12 hi ⟨e11, acc, hD11, hA11⟩ yy
        obtain ⟨rfl, hx⟩ := itl_yld yy sD e11
        obtain ⟨o, ho, rfl⟩ := map_at hx
        have l11 := hA11.len
        rw [List.length_map, List.length_take] at l11
        have l24 : dues.length = 24 := by decide +kernel
        cases o with
        | none =>
          refine ⟨rfl, _, rfl, rfl, _, rfl, ite2 (fun _ => ?_) (fun h => absurd rfl h)⟩
          refine ⟨acc, hD11, mil' (by omega), e11.wr hDD, acc ++ [.non], upd_same, ?_⟩
          rw [newH.wr nC, take_snoc ho, List.map_append]
          exact hA11.app ⟨_, _, rfl, rfl, rfl⟩
        | some n =>
          refine ⟨rfl, _, rfl, rfl, _, rfl, ite2 (fun h => by simp [oV] at h) (fun _ => ?_)⟩
          refine ⟨_, rfl, by show 2 ≤ sizeLine; decide, fun T2 hT2 => ?_⟩
          have e12 : Ex H12 (upd H12 T2 (.tup [.str "error", .int n])) := Ex.nw hT2
          have f12 : (upd H12 T2 (.tup [.str "error", .int n])) T2 = some (.tup [.str "error", .int n]) := upd_same
          refine ⟨acc, e12 _ _ hD11, mil' (by omega), (e11.tr e12).wr hDD, acc ++ [.ref T2], upd_same, ?_⟩
          rw [newH.wr nC, take_snoc ho, List.map_append]
          exact (hA11.up (newH.up e12)).app ⟨_, _, rfl, ⟨T2, _, rfl, (newH.at_ (fr_upd e11 (by rw [hD11]; exact fun z => nomatch z) hT2)).trans f12, _, _, rfl, rfl, _, _, rfl, rfl, rfl⟩, rfl⟩
      rintro H11 ⟨e11, acc2, hD11, hA11⟩
      rw [List.length_map, List.take_length] at hA11
      have dD : Da K H11 (.list (dues.map gT)) (.ref DD) := ⟨DD, acc2, rfl, hD11, hA11.up newH.sub, by rw [List.length_map]; decide +kernel⟩
      have dT := dT9.up (e10.tr e11)
      rw [fg] at dT
      have lay := lay_gTs dues
      have shp := shaped_of lay (dep_gTs dues)
      refine ⟨_, _, dT.dp _ _ (nd_of_lay lay), dD.dp _ _ (nd_of_lay lay), shp, shp, ?_⟩
      rw [SeqAt.eqv_refl _ lay]
      exact q _ (e5.tr (e9.tr (e10.tr e11)))
end

end K48
namespace K48
open PySem PySem.Spec PyProof.Rows L2 Nw
theorem all_mk {l : PySem.W.OpenLaw} {w : World} {K : PySem.W.Frag} {h : Heap} {mg : Str → Option Value} {fa : Addr} (X : K.In h) (G : h.Ns mainGlobals mg) (hfa : mg "law" = some (.ref fa))
    {f0 f1 f2 f3 f4 f5 f6 f7 f8 f9 f10 f11 f12 f13 f14 f15 f16 f17 f18 f19 f20 f21 f22 f23 f24 f25 f26 f27 f28 f29 f30 f31 f32 f33 : Addr} {od0 an0 od1 an1 od2 an2 od3 an3 od4 an4 od5 an5 od6 an6 od7 an7 od8 an8 od9 an9 od10 an10 od11 an11 od12 an12 od13 an13 od14 an14 od15 an15 od16 an16 od17 an17 od18 an18 od19 an19 od20 an20 od21 an21 od22 an22 od23 an23 od24 an24 od25 an25 od26 an26 od27 an27 od28 an28 od29 an29 od30 an30 od31 an31 od32 an32 od33 an33 : Option Addr} {sl0 sl1 sl2 sl3 sl4 sl5 sl6 sl7 sl8 sl9 sl10 sl11 sl12 sl13 sl14 sl15 sl16 sl17 sl18 sl19 sl20 sl21 sl22 sl23 sl24 sl25 sl26 sl27 sl28 sl29 sl30 sl31 sl32 sl33 : Array (Option Value)}
    {oc0 kV0 dc0 pm0 cd0 ct0 oc1 kV1 dc1 pm1 cd1 ct1 oc2 kV2 dc2 pm2 cd2 ct2 oc3 kV3 dc3 pm3 cd3 ct3 oc4 kV4 dc4 pm4 cd4 ct4 oc5 kV5 dc5 pm5 cd5 ct5 oc6 kV6 dc6 pm6 cd6 ct6 oc7 kV7 dc7 pm7 cd7 ct7 oc8 kV8 dc8 pm8 cd8 ct8 oc9 kV9 dc9 pm9 cd9 ct9 oc10 kV10 dc10 pm10 cd10 ct10 oc11 kV11 dc11 pm11 cd11 ct11 oc12 kV12 dc12 pm12 cd12 ct12 oc13 kV13 dc13 pm13 cd13 ct13 oc14 kV14 dc14 pm14 cd14 ct14 oc15 kV15 dc15 pm15 cd15 ct15 oc16 kV16 dc16 pm16 cd16 ct16 oc17 kV17 dc17 pm17 cd17 ct17 oc18 kV18 dc18 pm18 cd18 ct18 oc19 kV19 dc19 pm19 cd19 ct19 oc20 kV20 dc20 pm20 cd20 ct20 oc21 kV21 dc21 pm21 cd21 ct21 oc22 kV22 dc22 pm22 cd22 ct22 oc23 kV23 dc23 pm23 cd23 ct23 oc24 kV24 dc24 pm24 cd24 ct24 oc25 kV25 dc25 pm25 cd25 ct25 oc26 kV26 dc26 pm26 cd26 ct26 oc27 kV27 dc27 pm27 cd27 ct27 oc28 kV28 dc28 pm28 cd28 ct28 oc29 kV29 dc29 pm29 cd29 ct29 oc30 kV30 dc30 pm30 cd30 ct30 oc31 kV31 dc31 pm31 cd31 ct31 oc32 kV32 dc32 pm32 cd32 ct32 oc33 kV33 dc33 pm33 cd33 ct33 : Value}
    (a0 : PySem.W.nsIn K mainGlobals "_law_purse" = some (some (.ref f0))) (l0 : K.lookup f0 = some ⟨oc0, od0, .func (PySem.W.fnOf "_law_purse" "_law_purse" (defArgs s_purse) (defBody s_purse) (defScope s_purse) .none kV0 dc0 pm0 an0 cd0 ct0), sl0⟩) (c0 : PySem.W.codeIn K cd0 "_law_purse" = true) (k0 : PySem.W.keepIn K (.ref f0) = true)
    (a1 : PySem.W.nsIn K mainGlobals "_law_coin" = some (some (.ref f1))) (l1 : K.lookup f1 = some ⟨oc1, od1, .func (PySem.W.fnOf "_law_coin" "_law_coin" (defArgs s_coin) (defBody s_coin) (defScope s_coin) .none kV1 dc1 pm1 an1 cd1 ct1), sl1⟩) (c1 : PySem.W.codeIn K cd1 "_law_coin" = true) (k1 : PySem.W.keepIn K (.ref f1) = true)
    (a2 : PySem.W.nsIn K mainGlobals "_law_targets" = some (some (.ref f2))) (l2 : K.lookup f2 = some ⟨oc2, od2, .func (PySem.W.fnOf "_law_targets" "_law_targets" (defArgs s_targets) (defBody s_targets) (defScope s_targets) .none kV2 dc2 pm2 an2 cd2 ct2), sl2⟩) (c2 : PySem.W.codeIn K cd2 "_law_targets" = true) (k2 : PySem.W.keepIn K (.ref f2) = true)
    (a3 : PySem.W.nsIn K mainGlobals "_law_web" = some (some (.ref f3))) (l3 : K.lookup f3 = some ⟨oc3, od3, .func (PySem.W.fnOf "_law_web" "_law_web" (defArgs s_web) (defBody s_web) (defScope s_web) .none kV3 dc3 pm3 an3 cd3 ct3), sl3⟩) (c3 : PySem.W.codeIn K cd3 "_law_web" = true) (k3 : PySem.W.keepIn K (.ref f3) = true)
    (a4 : PySem.W.nsIn K mainGlobals "_law_text" = some (some (.ref f4))) (l4 : K.lookup f4 = some ⟨oc4, od4, .func (PySem.W.fnOf "_law_text" "_law_text" (defArgs s_text) (defBody s_text) (defScope s_text) .none kV4 dc4 pm4 an4 cd4 ct4), sl4⟩) (c4 : PySem.W.codeIn K cd4 "_law_text" = true) (k4 : PySem.W.keepIn K (.ref f4) = true)
    (a5 : PySem.W.nsIn K mainGlobals "is_integer" = some (some (.ref f5))) (l5 : K.lookup f5 = some ⟨oc5, od5, .func (PySem.W.fnOf "is_integer" "is_integer" (defArgs s_is_integer) (defBody s_is_integer) (defScope s_is_integer) .none kV5 dc5 pm5 an5 cd5 ct5), sl5⟩) (c5 : PySem.W.codeIn K cd5 "is_integer" = true) (k5 : PySem.W.keepIn K (.ref f5) = true)
    (a6 : PySem.W.nsIn K mainGlobals "is_number_below" = some (some (.ref f6))) (l6 : K.lookup f6 = some ⟨oc6, od6, .func (PySem.W.fnOf "is_number_below" "is_number_below" (defArgs s_is_number_below) (defBody s_is_number_below) (defScope s_is_number_below) .none kV6 dc6 pm6 an6 cd6 ct6), sl6⟩) (c6 : PySem.W.codeIn K cd6 "is_number_below" = true) (k6 : PySem.W.keepIn K (.ref f6) = true)
    (a7 : PySem.W.nsIn K mainGlobals "is_tuple_below" = some (some (.ref f7))) (l7 : K.lookup f7 = some ⟨oc7, od7, .func (PySem.W.fnOf "is_tuple_below" "is_tuple_below" (defArgs s_is_tuple_below) (defBody s_is_tuple_below) (defScope s_is_tuple_below) .none kV7 dc7 pm7 an7 cd7 ct7), sl7⟩) (c7 : PySem.W.codeIn K cd7 "is_tuple_below" = true) (k7 : PySem.W.keepIn K (.ref f7) = true)
    (a8 : PySem.W.nsIn K mainGlobals "are_ascending" = some (some (.ref f8))) (l8 : K.lookup f8 = some ⟨oc8, od8, .func (PySem.W.fnOf "are_ascending" "are_ascending" (defArgs s_are_ascending) (defBody s_are_ascending) (defScope s_are_ascending) .none kV8 dc8 pm8 an8 cd8 ct8), sl8⟩) (c8 : PySem.W.codeIn K cd8 "are_ascending" = true) (k8 : PySem.W.keepIn K (.ref f8) = true)
    (a9 : PySem.W.nsIn K mainGlobals "are_ascending_tuples" = some (some (.ref f9))) (l9 : K.lookup f9 = some ⟨oc9, od9, .func (PySem.W.fnOf "are_ascending_tuples" "are_ascending_tuples" (defArgs s_are_ascending_tuples) (defBody s_are_ascending_tuples) (defScope s_are_ascending_tuples) .none kV9 dc9 pm9 an9 cd9 ct9), sl9⟩) (c9 : PySem.W.codeIn K cd9 "are_ascending_tuples" = true) (k9 : PySem.W.keepIn K (.ref f9) = true)
    (a10 : PySem.W.nsIn K mainGlobals "are_below" = some (some (.ref f10))) (l10 : K.lookup f10 = some ⟨oc10, od10, .func (PySem.W.fnOf "are_below" "are_below" (defArgs s_are_below) (defBody s_are_below) (defScope s_are_below) .none kV10 dc10 pm10 an10 cd10 ct10), sl10⟩) (c10 : PySem.W.codeIn K cd10 "are_below" = true) (k10 : PySem.W.keepIn K (.ref f10) = true)
    (a11 : PySem.W.nsIn K mainGlobals "are_targets" = some (some (.ref f11))) (l11 : K.lookup f11 = some ⟨oc11, od11, .func (PySem.W.fnOf "are_targets" "are_targets" (defArgs s_are_targets) (defBody s_are_targets) (defScope s_are_targets) .none kV11 dc11 pm11 an11 cd11 ct11), sl11⟩) (c11 : PySem.W.codeIn K cd11 "are_targets" = true) (k11 : PySem.W.keepIn K (.ref f11) = true)
    (a12 : PySem.W.nsIn K mainGlobals "are_nudges" = some (some (.ref f12))) (l12 : K.lookup f12 = some ⟨oc12, od12, .func (PySem.W.fnOf "are_nudges" "are_nudges" (defArgs s_are_nudges) (defBody s_are_nudges) (defScope s_are_nudges) .none kV12 dc12 pm12 an12 cd12 ct12), sl12⟩) (c12 : PySem.W.codeIn K cd12 "are_nudges" = true) (k12 : PySem.W.keepIn K (.ref f12) = true)
    (a13 : PySem.W.nsIn K mainGlobals "has_web_shape" = some (some (.ref f13))) (l13 : K.lookup f13 = some ⟨oc13, od13, .func (PySem.W.fnOf "has_web_shape" "has_web_shape" (defArgs s_has_web_shape) (defBody s_has_web_shape) (defScope s_has_web_shape) .none kV13 dc13 pm13 an13 cd13 ct13), sl13⟩) (c13 : PySem.W.codeIn K cd13 "has_web_shape" = true) (k13 : PySem.W.keepIn K (.ref f13) = true)
    (a14 : PySem.W.nsIn K mainGlobals "number_of" = some (some (.ref f14))) (l14 : K.lookup f14 = some ⟨oc14, od14, .func (PySem.W.fnOf "number_of" "number_of" (defArgs s_number_of) (defBody s_number_of) (defScope s_number_of) .none kV14 dc14 pm14 an14 cd14 ct14), sl14⟩) (c14 : PySem.W.codeIn K cd14 "number_of" = true) (k14 : PySem.W.keepIn K (.ref f14) = true)
    (a15 : PySem.W.nsIn K mainGlobals "all_or_none" = some (some (.ref f15))) (l15 : K.lookup f15 = some ⟨oc15, od15, .func (PySem.W.fnOf "all_or_none" "all_or_none" (defArgs s_all_or_none) (defBody s_all_or_none) (defScope s_all_or_none) .none kV15 dc15 pm15 an15 cd15 ct15), sl15⟩) (c15 : PySem.W.codeIn K cd15 "all_or_none" = true) (k15 : PySem.W.keepIn K (.ref f15) = true)
    (a16 : PySem.W.nsIn K mainGlobals "pair_of" = some (some (.ref f16))) (l16 : K.lookup f16 = some ⟨oc16, od16, .func (PySem.W.fnOf "pair_of" "pair_of" (defArgs s_pair_of) (defBody s_pair_of) (defScope s_pair_of) .none kV16 dc16 pm16 an16 cd16 ct16), sl16⟩) (c16 : PySem.W.codeIn K cd16 "pair_of" = true) (k16 : PySem.W.keepIn K (.ref f16) = true)
    (a17 : PySem.W.nsIn K mainGlobals "numbers_of" = some (some (.ref f17))) (l17 : K.lookup f17 = some ⟨oc17, od17, .func (PySem.W.fnOf "numbers_of" "numbers_of" (defArgs s_numbers_of) (defBody s_numbers_of) (defScope s_numbers_of) .none kV17 dc17 pm17 an17 cd17 ct17), sl17⟩) (c17 : PySem.W.codeIn K cd17 "numbers_of" = true) (k17 : PySem.W.keepIn K (.ref f17) = true)
    (a18 : PySem.W.nsIn K mainGlobals "part_value" = some (some (.ref f18))) (l18 : K.lookup f18 = some ⟨oc18, od18, .func (PySem.W.fnOf "part_value" "part_value" (defArgs s_part_value) (defBody s_part_value) (defScope s_part_value) .none kV18 dc18 pm18 an18 cd18 ct18), sl18⟩) (c18 : PySem.W.codeIn K cd18 "part_value" = true) (k18 : PySem.W.keepIn K (.ref f18) = true)
    (a19 : PySem.W.nsIn K mainGlobals "read_web" = some (some (.ref f19))) (l19 : K.lookup f19 = some ⟨oc19, od19, .func (PySem.W.fnOf "read_web" "read_web" (defArgs s_read_web) (defBody s_read_web) (defScope s_read_web) .none kV19 dc19 pm19 an19 cd19 ct19), sl19⟩) (c19 : PySem.W.codeIn K cd19 "read_web" = true) (k19 : PySem.W.keepIn K (.ref f19) = true)
    (a20 : PySem.W.nsIn K mainGlobals "_law_told" = some (some (.ref f20))) (l20 : K.lookup f20 = some ⟨oc20, od20, .func (PySem.W.fnOf "_law_told" "_law_told" (defArgs s_told) (defBody s_told) (defScope s_told) .none kV20 dc20 pm20 an20 cd20 ct20), sl20⟩) (c20 : PySem.W.codeIn K cd20 "_law_told" = true) (k20 : PySem.W.keepIn K (.ref f20) = true)
    (a21 : PySem.W.nsIn K mainGlobals "_law_bent" = some (some (.ref f21))) (l21 : K.lookup f21 = some ⟨oc21, od21, .func (PySem.W.fnOf "_law_bent" "_law_bent" (defArgs s_bent) (defBody s_bent) (defScope s_bent) .none kV21 dc21 pm21 an21 cd21 ct21), sl21⟩) (c21 : PySem.W.codeIn K cd21 "_law_bent" = true) (k21 : PySem.W.keepIn K (.ref f21) = true)
    (a22 : PySem.W.nsIn K mainGlobals "_law_is_number" = some (some (.ref f22))) (l22 : K.lookup f22 = some ⟨oc22, od22, .func (PySem.W.fnOf "_law_is_number" "_law_is_number" (defArgs s_is_number) (defBody s_is_number) (defScope s_is_number) .none kV22 dc22 pm22 an22 cd22 ct22), sl22⟩) (c22 : PySem.W.codeIn K cd22 "_law_is_number" = true) (k22 : PySem.W.keepIn K (.ref f22) = true)
    (a23 : PySem.W.nsIn K mainGlobals "_law_fits" = some (some (.ref f23))) (l23 : K.lookup f23 = some ⟨oc23, od23, .func (PySem.W.fnOf "_law_fits" "_law_fits" (defArgs s_fits) (defBody s_fits) (defScope s_fits) .none kV23 dc23 pm23 an23 cd23 ct23), sl23⟩) (c23 : PySem.W.codeIn K cd23 "_law_fits" = true) (k23 : PySem.W.keepIn K (.ref f23) = true)
    (a24 : PySem.W.nsIn K mainGlobals "_law_is_web" = some (some (.ref f24))) (l24 : K.lookup f24 = some ⟨oc24, od24, .func (PySem.W.fnOf "_law_is_web" "_law_is_web" (defArgs s_is_web) (defBody s_is_web) (defScope s_is_web) .none kV24 dc24 pm24 an24 cd24 ct24), sl24⟩) (c24 : PySem.W.codeIn K cd24 "_law_is_web" = true) (k24 : PySem.W.keepIn K (.ref f24) = true)
    (a25 : PySem.W.nsIn K mainGlobals "_law_due" = some (some (.ref f25))) (l25 : K.lookup f25 = some ⟨oc25, od25, .func (PySem.W.fnOf "_law_due" "_law_due" (defArgs s_due) (defBody s_due) (defScope s_due) .none kV25 dc25 pm25 an25 cd25 ct25), sl25⟩) (c25 : PySem.W.codeIn K cd25 "_law_due" = true) (k25 : PySem.W.keepIn K (.ref f25) = true)
    (a26 : PySem.W.nsIn K mainGlobals "_law_right" = some (some (.ref f26))) (l26 : K.lookup f26 = some ⟨oc26, od26, .func (PySem.W.fnOf "_law_right" "_law_right" (defArgs s_right) (defBody s_right) (defScope s_right) .none kV26 dc26 pm26 an26 cd26 ct26), sl26⟩) (c26 : PySem.W.codeIn K cd26 "_law_right" = true) (k26 : PySem.W.keepIn K (.ref f26) = true)
    (a27 : PySem.W.nsIn K mainGlobals "check_web" = some (some (.ref f27))) (l27 : K.lookup f27 = some ⟨oc27, od27, .func (PySem.W.fnOf "check_web" "check_web" (defArgs s_check_web) (defBody s_check_web) (defScope s_check_web) .none kV27 dc27 pm27 an27 cd27 ct27), sl27⟩) (c27 : PySem.W.codeIn K cd27 "check_web" = true) (k27 : PySem.W.keepIn K (.ref f27) = true)
    (a28 : PySem.W.nsIn K mainGlobals "number_words" = some (some (.ref f28))) (l28 : K.lookup f28 = some ⟨oc28, od28, .func (PySem.W.fnOf "number_words" "number_words" (defArgs s_number_words) (defBody s_number_words) (defScope s_number_words) .none kV28 dc28 pm28 an28 cd28 ct28), sl28⟩) (c28 : PySem.W.codeIn K cd28 "number_words" = true) (k28 : PySem.W.keepIn K (.ref f28) = true)
    (a29 : PySem.W.nsIn K mainGlobals "line_words" = some (some (.ref f29))) (l29 : K.lookup f29 = some ⟨oc29, od29, .func (PySem.W.fnOf "line_words" "line_words" (defArgs s_line_words) (defBody s_line_words) (defScope s_line_words) .none kV29 dc29 pm29 an29 cd29 ct29), sl29⟩) (c29 : PySem.W.codeIn K cd29 "line_words" = true) (k29 : PySem.W.keepIn K (.ref f29) = true)
    (a30 : PySem.W.nsIn K mainGlobals "show_web" = some (some (.ref f30))) (l30 : K.lookup f30 = some ⟨oc30, od30, .func (PySem.W.fnOf "show_web" "show_web" (defArgs s_show_web) (defBody s_show_web) (defScope s_show_web) .none kV30 dc30 pm30 an30 cd30 ct30), sl30⟩) (c30 : PySem.W.codeIn K cd30 "show_web" = true) (k30 : PySem.W.keepIn K (.ref f30) = true)
    (a31 : PySem.W.nsIn K mainGlobals "_law_shown" = some (some (.ref f31))) (l31 : K.lookup f31 = some ⟨oc31, od31, .func (PySem.W.fnOf "_law_shown" "_law_shown" (defArgs s_shown) (defBody s_shown) (defScope s_shown) .none kV31 dc31 pm31 an31 cd31 ct31), sl31⟩) (c31 : PySem.W.codeIn K cd31 "_law_shown" = true) (k31 : PySem.W.keepIn K (.ref f31) = true)
    (a32 : PySem.W.nsIn K mainGlobals "_law_no_webs" = some (some (.ref f32))) (l32 : K.lookup f32 = some ⟨oc32, od32, .func (PySem.W.fnOf "_law_no_webs" "_law_no_webs" (defArgs s_no_webs) (defBody s_no_webs) (defScope s_no_webs) .none kV32 dc32 pm32 an32 cd32 ct32), sl32⟩) (c32 : PySem.W.codeIn K cd32 "_law_no_webs" = true) (k32 : PySem.W.keepIn K (.ref f32) = true)
    (a33 : PySem.W.nsIn K mainGlobals "law" = some (some (.ref f33))) (l33 : K.lookup f33 = some ⟨oc33, od33, .func (PySem.W.fnOf "law" "law" (defArgs s_law) (defBody s_law) (defScope s_law) .none kV33 dc33 pm33 an33 cd33 ct33), sl33⟩) (c33 : PySem.W.codeIn K cd33 "law" = true) (k33 : PySem.W.keepIn K (.ref f33) = true)
    (z_isinstance : PySem.W.nsIn K mainGlobals "isinstance" = some none)
    (z_len : PySem.W.nsIn K mainGlobals "len" = some none)
    (z_all : PySem.W.nsIn K mainGlobals "all" = some none)
    (z_repr : PySem.W.nsIn K mainGlobals "repr" = some none)
    (z_abs : PySem.W.nsIn K mainGlobals "abs" = some none)
    (z_max : PySem.W.nsIn K mainGlobals "max" = some none)
    (z_min : PySem.W.nsIn K mainGlobals "min" = some none)
    (z_int : PySem.W.nsIn K mainGlobals "int" = some none)
    (z_bool : PySem.W.nsIn K mainGlobals "bool" = some none)
    (z_str : PySem.W.nsIn K mainGlobals "str" = some none)
    (z_list : PySem.W.nsIn K mainGlobals "list" = some none)
    (z_tuple : PySem.W.nsIn K mainGlobals "tuple" = some none)
    (z_range : PySem.W.nsIn K mainGlobals "range" = some none)
    (z_enumerate : PySem.W.nsIn K mainGlobals "enumerate" = some none)
    (z_zip : PySem.W.nsIn K mainGlobals "zip" = some none)
    (z_ValueError : PySem.W.nsIn K mainGlobals "ValueError" = some none)
    {t_MOST_QUANTITIES : Tok} (v_MOST_QUANTITIES : PySem.W.nsIn K mainGlobals "MOST_QUANTITIES" = some (some (.int 20 t_MOST_QUANTITIES)))
    {t_MOST_NUDGES : Tok} (v_MOST_NUDGES : PySem.W.nsIn K mainGlobals "MOST_NUDGES" = some (some (.int 8 t_MOST_NUDGES)))
    {t_MOST_DIGITS : Tok} (v_MOST_DIGITS : PySem.W.nsIn K mainGlobals "MOST_DIGITS" = some (some (.int 30 t_MOST_DIGITS)))
    {t_BETWEEN : Tok} (v_BETWEEN : PySem.W.nsIn K mainGlobals "BETWEEN" = some (some (.str "; " t_BETWEEN)))
    {t_NOTHING : Tok} (v_NOTHING : PySem.W.nsIn K mainGlobals "NOTHING" = some (some (.str "-" t_NOTHING)))
    {C_0 : Addr} {nm_0 q_0 : Str} {N_0 : Addr} {bs_0 : List Value} {sn_0 : List Str} {sub_0 : List Value} {ab_0 : Bool} {col_0 : Option Bool} {dd_0 : Option Addr} {w0_0 w1_0 w2_0 w3_0 w5_0 : Option Value}
    (g_0 : PySem.W.nsIn K mainGlobals "WebError" = some (some (.ref C_0))) (x_0 : K.lookup C_0 = some (excClassObj nm_0 q_0 C_0 N_0 bs_0 errTail true sn_0 sub_0 ab_0 col_0 dd_0 w0_0 w1_0 w2_0 w3_0 w5_0 "ValueError.__new__"))
    (k_0 : PySem.W.keepIn K (.ref C_0) = true) (t_0 : PySem.W.typeIn K (.ref C_0) = some (.type "type"))
    (hg_0 : PySem.W.findIn K (.ref C_0) "__getattribute__" = some (some (.builtin "BaseException.__getattribute__"))) (hk_0 : PySem.W.findIn K (.ref C_0) "__getattr__" = some none) (ha_0 : PySem.W.findIn K (.ref C_0) "__class__" = some (some (.builtin "object.__class__")))
    (e_0 : PySem.W.excIn K C_0 [.type "ValueError", .type "Exception", .type "BaseException", .type "object"] "ValueError.__new__" = true)
    {C_1 : Addr} {nm_1 q_1 : Str} {N_1 : Addr} {bs_1 : List Value} {sn_1 : List Str} {sub_1 : List Value} {ab_1 : Bool} {col_1 : Option Bool} {dd_1 : Option Addr} {w0_1 w1_1 w2_1 w3_1 w5_1 : Option Value}
    (g_1 : PySem.W.nsIn K mainGlobals "InvalidWeb" = some (some (.ref C_1))) (x_1 : K.lookup C_1 = some (excClassObj nm_1 q_1 C_1 N_1 bs_1 (.ref C_0 :: errTail) true sn_1 sub_1 ab_1 col_1 dd_1 w0_1 w1_1 w2_1 w3_1 w5_1 "ValueError.__new__"))
    (k_1 : PySem.W.keepIn K (.ref C_1) = true) (t_1 : PySem.W.typeIn K (.ref C_1) = some (.type "type"))
    (hg_1 : PySem.W.findIn K (.ref C_1) "__getattribute__" = some (some (.builtin "BaseException.__getattribute__"))) (hk_1 : PySem.W.findIn K (.ref C_1) "__getattr__" = some none) (ha_1 : PySem.W.findIn K (.ref C_1) "__class__" = some (some (.builtin "object.__class__")))
    (e_1 : PySem.W.excIn K C_1 [.type "ValueError", .type "Exception", .type "BaseException", .type "object"] "ValueError.__new__" = true)
    {C_2 : Addr} {nm_2 q_2 : Str} {N_2 : Addr} {bs_2 : List Value} {sn_2 : List Str} {sub_2 : List Value} {ab_2 : Bool} {col_2 : Option Bool} {dd_2 : Option Addr} {w0_2 w1_2 w2_2 w3_2 w5_2 : Option Value}
    (g_2 : PySem.W.nsIn K mainGlobals "InvalidNumber" = some (some (.ref C_2))) (x_2 : K.lookup C_2 = some (excClassObj nm_2 q_2 C_2 N_2 bs_2 (.ref C_0 :: errTail) true sn_2 sub_2 ab_2 col_2 dd_2 w0_2 w1_2 w2_2 w3_2 w5_2 "ValueError.__new__"))
    (k_2 : PySem.W.keepIn K (.ref C_2) = true) (t_2 : PySem.W.typeIn K (.ref C_2) = some (.type "type"))
    (hg_2 : PySem.W.findIn K (.ref C_2) "__getattribute__" = some (some (.builtin "BaseException.__getattribute__"))) (hk_2 : PySem.W.findIn K (.ref C_2) "__getattr__" = some none) (ha_2 : PySem.W.findIn K (.ref C_2) "__class__" = some (some (.builtin "object.__class__")))
    (e_2 : PySem.W.excIn K C_2 [.type "ValueError", .type "Exception", .type "BaseException", .type "object"] "ValueError.__new__" = true)
    {C_3 : Addr} {nm_3 q_3 : Str} {N_3 : Addr} {bs_3 : List Value} {sn_3 : List Str} {sub_3 : List Value} {ab_3 : Bool} {col_3 : Option Bool} {dd_3 : Option Addr} {w0_3 w1_3 w2_3 w3_3 w5_3 : Option Value}
    (g_3 : PySem.W.nsIn K mainGlobals "InvalidCommand" = some (some (.ref C_3))) (x_3 : K.lookup C_3 = some (excClassObj nm_3 q_3 C_3 N_3 bs_3 (.ref C_0 :: errTail) true sn_3 sub_3 ab_3 col_3 dd_3 w0_3 w1_3 w2_3 w3_3 w5_3 "ValueError.__new__"))
    (k_3 : PySem.W.keepIn K (.ref C_3) = true) (t_3 : PySem.W.typeIn K (.ref C_3) = some (.type "type"))
    (hg_3 : PySem.W.findIn K (.ref C_3) "__getattribute__" = some (some (.builtin "BaseException.__getattribute__"))) (hk_3 : PySem.W.findIn K (.ref C_3) "__getattr__" = some none) (ha_3 : PySem.W.findIn K (.ref C_3) "__class__" = some (some (.builtin "object.__class__")))
    (e_3 : PySem.W.excIn K C_3 [.type "ValueError", .type "Exception", .type "BaseException", .type "object"] "ValueError.__new__" = true)
    {C_4 : Addr} {nm_4 q_4 : Str} {N_4 : Addr} {bs_4 : List Value} {sn_4 : List Str} {sub_4 : List Value} {ab_4 : Bool} {col_4 : Option Bool} {dd_4 : Option Addr} {w0_4 w1_4 w2_4 w3_4 w5_4 : Option Value}
    (g_4 : PySem.W.nsIn K mainGlobals "InvalidText" = some (some (.ref C_4))) (x_4 : K.lookup C_4 = some (excClassObj nm_4 q_4 C_4 N_4 bs_4 (.ref C_0 :: errTail) true sn_4 sub_4 ab_4 col_4 dd_4 w0_4 w1_4 w2_4 w3_4 w5_4 "ValueError.__new__"))
    (k_4 : PySem.W.keepIn K (.ref C_4) = true) (t_4 : PySem.W.typeIn K (.ref C_4) = some (.type "type"))
    (hg_4 : PySem.W.findIn K (.ref C_4) "__getattribute__" = some (some (.builtin "BaseException.__getattribute__"))) (hk_4 : PySem.W.findIn K (.ref C_4) "__getattr__" = some none) (ha_4 : PySem.W.findIn K (.ref C_4) "__class__" = some (some (.builtin "object.__class__")))
    (hn_ : PySem.W.specialIn K (.builtin "object.__class__") "__get__" = some (some (.builtin "getset_descriptor.__get__"))) (ht_ : PySem.W.takesIn K (.builtin "object.__class__") = some true)
    {fI_4 : Addr} {odI_4 anI_4 : Option Addr} {slI_4 : Array (Option Value)} {ocI_4 dcI_4 pmI_4 cdI_4 ctI_4 : Value} {p1_4 p2_4 q1_4 q2_4 q3_4 q4_4 : Pos}
    (sa_4 : PySem.W.findIn K (.ref C_4) "__setattr__" = some (some (.builtin "object.__setattr__"))) (nb_4 : PySem.W.findIn K (.ref C_4) "place" = some none) (aI_4 : PySem.W.findIn K (.ref C_4) "__init__" = some (some (.ref fI_4)))
    (tI_4 : PySem.W.typeIn K (.ref fI_4) = some (.type "function")) (lI_4 : K.lookup fI_4 = some ⟨ocI_4, odI_4, .func (PySem.W.fnOf "__init__" "InvalidText.__init__" (PySem.PlcX.iA p1_4 p2_4) (PySem.PlcX.iB q1_4 q2_4 q3_4 q4_4) PySem.PlcX.iS .none .none dcI_4 pmI_4 anI_4 cdI_4 ctI_4), slI_4⟩) (cI_4 : PySem.W.codeIn K cdI_4 "InvalidText.__init__" = true)
    (nd_ : [C_0, C_1, C_2, C_3, C_4].Nodup)
    : ∃ fd : FuncData, (∀ (s : Shared) (v : Value), BindsTo s fd ⟨[v], []⟩ [("_law_script", v)]) ∧ ∀ base : Heap, K.In base → base.Ns mainGlobals mg → SysAt base → FnG l.prog w K mg base CX0 10 fa fd ["_law_script"] (sp_law K) := by
  have e := hfa.symm.trans (PySem.W.mg_of X G a33)
  cases e
  have ap : ∀ i j, i < 5 → j < 5 → ([C_0, C_1, C_2, C_3, C_4].getD i 0 = [C_0, C_1, C_2, C_3, C_4].getD j 0 ↔ i = j) := fun i j hi hj => apart_at nd_ hi hj
  have M_0 : MroAt K C_0 C_0 := mroAt_base x_0
  have M_1 : MroAt K C_0 C_1 := mroAt_of x_1 fun z => absurd ((ap 1 0 (by decide) (by decide)).mp z) (by decide)
  have M_2 : MroAt K C_0 C_2 := mroAt_of x_2 fun z => absurd ((ap 2 0 (by decide) (by decide)).mp z) (by decide)
  have M_3 : MroAt K C_0 C_3 := mroAt_of x_3 fun z => absurd ((ap 3 0 (by decide) (by decide)).mp z) (by decide)
  have M_4 : MroAt K C_0 C_4 := mroAt_of x_4 fun z => absurd ((ap 4 0 (by decide) (by decide)).mp z) (by decide)
  have M : ∀ i, i < 5 → MroAt K C_0 ([C_0, C_1, C_2, C_3, C_4].getD i 0) := fun i hi => match i, hi with | 0, _ => M_0 | 1, _ => M_1 | 2, _ => M_2 | 3, _ => M_3 | 4, _ => M_4 | (k + 5), h => absurd h (Nat.not_lt.mpr (Nat.le_add_left _ _))
  have Y : ∀ i, i < 5 → PySem.W.typeIn K (.ref ([C_0, C_1, C_2, C_3, C_4].getD i 0)) = some (.type "type") := fun i hi => match i, hi with | 0, _ => t_0 | 1, _ => t_1 | 2, _ => t_2 | 3, _ => t_3 | 4, _ => t_4 | (k + 5), h => absurd h (Nat.not_lt.mpr (Nat.le_add_left _ _))
  have Q : ∀ i, i < 5 → L2.ExcC K ([C_0, C_1, C_2, C_3, C_4].getD i 0) := fun i hi => match i, hi with | 0, _ => excC_of M_0 hg_0 hk_0 ha_0 hn_ ht_ | 1, _ => excC_of M_1 hg_1 hk_1 ha_1 hn_ ht_ | 2, _ => excC_of M_2 hg_2 hk_2 ha_2 hn_ ht_ | 3, _ => excC_of M_3 hg_3 hk_3 ha_3 hn_ ht_ | 4, _ => excC_of M_4 hg_4 hk_4 ha_4 hn_ ht_ | (k + 5), h => absurd h (Nat.not_lt.mpr (Nat.le_add_left _ _))
  have plc : PySem.PlcX.PlcTxt K mg C_4 fI_4 :=
    { gC := PySem.W.mg_of X G g_4, cls := ⟨_, _, _, _, _, _, _, _, _, _, _, _, _, _, _, x_4, by rfl⟩, sa := sa_4, ga := hg_4, gg := hk_4, noN := nb_4, iC := aI_4, tC := tI_4, kC := k_4, exC := (Q 4 (by decide)).hs, tyC := t_4, hdC := (Q 4 (by decide)).hd, te := exm_of (Q 4 (by decide)).hs (by obtain ⟨cd, h1, _⟩ := M_4; unfold PySem.W.isClsIn; rw [h1]; rfl) t_4 ((mro_ref M_4).trans (congrArg some (decide_eq_true (.inl rfl)))), fn := ⟨_, _, _, _, _, _, _, _, _, _, _, _, _, _, lI_4, cI_4⟩ }
  have FM : Fam K mg (fun i => [C_0, C_1, C_2, C_3, C_4].getD i 0) fI_4 fI_4 :=
    ⟨PySem.W.mg_of X G g_0, PySem.W.mg_of X G g_1, PySem.W.mg_of X G g_2, PySem.W.mg_of X G g_3, PySem.W.mg_of X G g_4,
      fun i hi => match i, hi with | 0, _ => g_0 | 1, _ => g_1 | 2, _ => g_2 | 3, _ => g_3 | 4, _ => g_4 | (k + 5), h => absurd h (Nat.not_lt.mpr (Nat.le_add_left _ _)),
      fun i hi => match i, hi with | 0, _ => k_0 | 1, _ => k_1 | 2, _ => k_2 | 3, _ => k_3 | 4, _ => k_4 | (k + 5), h => absurd h (Nat.not_lt.mpr (Nat.le_add_left _ _)),
      fun i hi => match i, hi with | 0, _ => e_0 | 1, _ => e_1 | 2, _ => e_2 | 3, _ => e_3 | (k + 4), h => absurd h (Nat.not_lt.mpr (Nat.le_add_left _ _)),
      Q,
      fun i j hi hj => (kit_ref (M i hi) (M j hj) (Y j hj)).trans (congrArg some (decide_eq_decide.mpr (or_congr (ap i j hi hj) (ap j 0 hj (by decide))))),
      fun i hi => kit_val (M i hi), fun i hi => exm_two (Q 0 (by decide)).hs (by obtain ⟨cd, h1, _⟩ := M_0; unfold PySem.W.isClsIn; show (PySem.W.clsIn K C_0).isSome = true; rw [h1]; rfl) t_0 ((mro_ref (M i hi)).trans (congrArg some (decide_eq_true (.inr rfl)))), Y, plc⟩
  have T : Txt K mg := ⟨PySem.W.mg_none_of X G z_isinstance, PySem.W.mg_none_of X G z_len, PySem.W.mg_none_of X G z_all, PySem.W.mg_none_of X G z_repr, PySem.W.mg_none_of X G z_abs, PySem.W.mg_none_of X G z_max, PySem.W.mg_none_of X G z_min, PySem.W.mg_none_of X G z_int, PySem.W.mg_none_of X G z_bool, PySem.W.mg_none_of X G z_str, PySem.W.mg_none_of X G z_list, PySem.W.mg_none_of X G z_tuple, PySem.W.mg_none_of X G z_range, PySem.W.mg_none_of X G z_enumerate, PySem.W.mg_none_of X G z_zip, PySem.W.mg_none_of X G z_ValueError, ⟨_, PySem.W.mg_of X G v_MOST_QUANTITIES⟩, ⟨_, PySem.W.mg_of X G v_MOST_NUDGES⟩, ⟨_, PySem.W.mg_of X G v_MOST_DIGITS⟩, ⟨_, PySem.W.mg_of X G v_BETWEEN⟩, ⟨_, PySem.W.mg_of X G v_NOTHING⟩, ⟨_, _, _, FM⟩⟩
  refine ⟨PySem.W.fnOf "law" "law" (defArgs s_law) (defBody s_law) (defScope s_law) .none kV33 dc33 pm33 an33 cd33 ct33, fun s v => .of_eq rfl, fun base _ _ SM => ?_⟩
  have F0 := fun_mk (st := s_purse) l0 c0 k0
  have G0 := ok_purse (P := l.prog) (w := w) (base := base) T F0 
  have B0 := F0.binds (ps := P_purse) fun _ _ _ _ _ _ us hl => match us, hl with | [_, _], _ => rfl
  have D_purse : DefOk l.prog w K mg base CX0 1 "_law_purse" P_purse (sp_purse K) := ⟨f0, _, G0, PySem.W.mg_of X G a0, k0, B0⟩
  have F1 := fun_mk (st := s_coin) l1 c1 k1
  have G1 := ok_coin (P := l.prog) (w := w) (base := base) T F1 
  have B1 := F1.binds (ps := P_coin) fun _ _ _ _ _ _ us hl => match us, hl with | [_, _], _ => rfl
  have D_coin : DefOk l.prog w K mg base CX0 1 "_law_coin" P_coin (sp_coin K) := ⟨f1, _, G1, PySem.W.mg_of X G a1, k1, B1⟩
  have F2 := fun_mk (st := s_targets) l2 c2 k2
  have G2 := ok_targets (P := l.prog) (w := w) (base := base) T F2 D_coin
  have B2 := F2.binds (ps := P_targets) fun _ _ _ _ _ _ us hl => match us, hl with | [_, _], _ => rfl
  have D_targets : DefOk l.prog w K mg base CX0 2 "_law_targets" P_targets (sp_targets K) := ⟨f2, _, G2, PySem.W.mg_of X G a2, k2, B2⟩
  have F3 := fun_mk (st := s_web) l3 c3 k3
  have G3 := ok_web (P := l.prog) (w := w) (base := base) T F3 D_coin D_targets
  have B3 := F3.binds (ps := P_web) fun _ _ _ _ _ _ us hl => match us, hl with | [_, _, _], _ => rfl
  have D_web : DefOk l.prog w K mg base CX0 3 "_law_web" P_web (sp_web K) := ⟨f3, _, G3, PySem.W.mg_of X G a3, k3, B3⟩
  have F4 := fun_mk (st := s_text) l4 c4 k4
  have G4 := ok_text (P := l.prog) (w := w) (base := base) T F4 
  have B4 := F4.binds (ps := P_text) fun _ _ _ _ _ _ us hl => match us, hl with | [_], _ => rfl
  have D_text : DefOk l.prog w K mg base CX0 1 "_law_text" P_text (sp_text K) := ⟨f4, _, G4, PySem.W.mg_of X G a4, k4, B4⟩
  have F5 := fun_mk (st := s_is_integer) l5 c5 k5
  have G5 := ok_is_integer (P := l.prog) (w := w) (base := base) T F5 
  have B5 := F5.binds (ps := P_is_integer) fun _ _ _ _ _ _ us hl => match us, hl with | [_], _ => rfl
  have D_is_integer : DefOk l.prog w K mg base CX0 1 "is_integer" P_is_integer (sp_is_integer K) := ⟨f5, _, G5, PySem.W.mg_of X G a5, k5, B5⟩
  have F6 := fun_mk (st := s_is_number_below) l6 c6 k6
  have G6 := ok_is_number_below (P := l.prog) (w := w) (base := base) T F6 D_is_integer
  have B6 := F6.binds (ps := P_is_number_below) fun _ _ _ _ _ _ us hl => match us, hl with | [_, _], _ => rfl
  have D_is_number_below : DefOk l.prog w K mg base CX0 2 "is_number_below" P_is_number_below (sp_is_number_below K) := ⟨f6, _, G6, PySem.W.mg_of X G a6, k6, B6⟩
  have F7 := fun_mk (st := s_is_tuple_below) l7 c7 k7
  have G7 := ok_is_tuple_below (P := l.prog) (w := w) (base := base) T F7 D_is_number_below
  have B7 := F7.binds (ps := P_is_tuple_below) fun _ _ _ _ _ _ us hl => match us, hl with | [_, _, _], _ => rfl
  have D_is_tuple_below : DefOk l.prog w K mg base CX0 3 "is_tuple_below" P_is_tuple_below (sp_is_tuple_below K) := ⟨f7, _, G7, PySem.W.mg_of X G a7, k7, B7⟩
  have F8 := fun_mk (st := s_are_ascending) l8 c8 k8
  have G8 := ok_are_ascending (P := l.prog) (w := w) (base := base) T F8 
  have B8 := F8.binds (ps := P_are_ascending) fun _ _ _ _ _ _ us hl => match us, hl with | [_], _ => rfl
  have D_are_ascending : DefOk l.prog w K mg base CX0 1 "are_ascending" P_are_ascending (sp_are_ascending K) := ⟨f8, _, G8, PySem.W.mg_of X G a8, k8, B8⟩
  have F9 := fun_mk (st := s_are_ascending_tuples) l9 c9 k9
  have G9 := ok_are_ascending_tuples (P := l.prog) (w := w) (base := base) T F9 D_is_tuple_below D_are_ascending
  have B9 := F9.binds (ps := P_are_ascending_tuples) fun _ _ _ _ _ _ us hl => match us, hl with | [_, _, _], _ => rfl
  have D_are_ascending_tuples : DefOk l.prog w K mg base CX0 4 "are_ascending_tuples" P_are_ascending_tuples (sp_are_ascending_tuples K) := ⟨f9, _, G9, PySem.W.mg_of X G a9, k9, B9⟩
  have F10 := fun_mk (st := s_are_below) l10 c10 k10
  have G10 := ok_are_below (P := l.prog) (w := w) (base := base) T F10 D_is_number_below
  have B10 := F10.binds (ps := P_are_below) fun _ _ _ _ _ _ us hl => match us, hl with | [_, _], _ => rfl
  have D_are_below : DefOk l.prog w K mg base CX0 3 "are_below" P_are_below (sp_are_below K) := ⟨f10, _, G10, PySem.W.mg_of X G a10, k10, B10⟩
  have F11 := fun_mk (st := s_are_targets) l11 c11 k11
  have G11 := ok_are_targets (P := l.prog) (w := w) (base := base) T F11 D_are_below D_are_ascending
  have B11 := F11.binds (ps := P_are_targets) fun _ _ _ _ _ _ us hl => match us, hl with | [_, _], _ => rfl
  have D_are_targets : DefOk l.prog w K mg base CX0 4 "are_targets" P_are_targets (sp_are_targets K) := ⟨f11, _, G11, PySem.W.mg_of X G a11, k11, B11⟩
  have F12 := fun_mk (st := s_are_nudges) l12 c12 k12
  have G12 := ok_are_nudges (P := l.prog) (w := w) (base := base) T F12 D_are_targets
  have B12 := F12.binds (ps := P_are_nudges) fun _ _ _ _ _ _ us hl => match us, hl with | [_, _], _ => rfl
  have D_are_nudges : DefOk l.prog w K mg base CX0 5 "are_nudges" P_are_nudges (sp_are_nudges K) := ⟨f12, _, G12, PySem.W.mg_of X G a12, k12, B12⟩
  have F13 := fun_mk (st := s_has_web_shape) l13 c13 k13
  have G13 := ok_has_web_shape (P := l.prog) (w := w) (base := base) T F13 D_is_integer D_are_ascending_tuples D_are_nudges
  have B13 := F13.binds (ps := P_has_web_shape) fun _ _ _ _ _ _ us hl => match us, hl with | [_], _ => rfl
  have D_has_web_shape : DefOk l.prog w K mg base CX0 6 "has_web_shape" P_has_web_shape (sp_has_web_shape K) := ⟨f13, _, G13, PySem.W.mg_of X G a13, k13, B13⟩
  have F14 := fun_mk (st := s_number_of) l14 c14 k14
  have G14 := ok_number_of (P := l.prog) (w := w) (base := base) T F14 
  have B14 := F14.binds (ps := P_number_of) fun _ _ _ _ _ _ us hl => match us, hl with | [_], _ => rfl
  have D_number_of : DefOk l.prog w K mg base CX0 1 "number_of" P_number_of (sp_number_of K) := ⟨f14, _, G14, PySem.W.mg_of X G a14, k14, B14⟩
  have F15 := fun_mk (st := s_all_or_none) l15 c15 k15
  have G15 := ok_all_or_none (P := l.prog) (w := w) (base := base) T F15 
  have B15 := F15.binds (ps := P_all_or_none) fun _ _ _ _ _ _ us hl => match us, hl with | [_], _ => rfl
  have D_all_or_none : DefOk l.prog w K mg base CX0 1 "all_or_none" P_all_or_none (sp_all_or_none K) := ⟨f15, _, G15, PySem.W.mg_of X G a15, k15, B15⟩
  have F16 := fun_mk (st := s_pair_of) l16 c16 k16
  have G16 := ok_pair_of (P := l.prog) (w := w) (base := base) T F16 D_number_of D_all_or_none
  have B16 := F16.binds (ps := P_pair_of) fun _ _ _ _ _ _ us hl => match us, hl with | [_], _ => rfl
  have D_pair_of : DefOk l.prog w K mg base CX0 2 "pair_of" P_pair_of (sp_pair_of K) := ⟨f16, _, G16, PySem.W.mg_of X G a16, k16, B16⟩
  have F17 := fun_mk (st := s_numbers_of) l17 c17 k17
  have G17 := ok_numbers_of (P := l.prog) (w := w) (base := base) T F17 D_number_of D_all_or_none
  have B17 := F17.binds (ps := P_numbers_of) fun _ _ _ _ _ _ us hl => match us, hl with | [_], _ => rfl
  have D_numbers_of : DefOk l.prog w K mg base CX0 2 "numbers_of" P_numbers_of (sp_numbers_of K) := ⟨f17, _, G17, PySem.W.mg_of X G a17, k17, B17⟩
  have F18 := fun_mk (st := s_part_value) l18 c18 k18
  have G18 := ok_part_value (P := l.prog) (w := w) (base := base) T F18 D_number_of D_pair_of D_numbers_of D_all_or_none
  have B18 := F18.binds (ps := P_part_value) fun _ _ _ _ _ _ us hl => match us, hl with | [_, _], _ => rfl
  have D_part_value : DefOk l.prog w K mg base CX0 3 "part_value" P_part_value (sp_part_value K) := ⟨f18, _, G18, PySem.W.mg_of X G a18, k18, B18⟩
  have F19 := fun_mk (st := s_read_web) l19 c19 k19
  have G19 := ok_read_web (P := l.prog) (w := w) (base := base) T F19 D_has_web_shape D_part_value
  have B19 := F19.binds (ps := P_read_web) fun _ _ _ _ _ _ us hl => match us, hl with | [_], _ => rfl
  have D_read_web : DefOk l.prog w K mg base (L2.CX l.prog w) 7 "read_web" P_read_web (sp_read_web K) := ⟨f19, _, G19, PySem.W.mg_of X G a19, k19, B19⟩
  have F20 := fun_mk (st := s_told) l20 c20 k20
  have G20 := ok_told (P := l.prog) (w := w) (base := base) T F20 D_read_web
  have B20 := F20.binds (ps := P_told) fun _ _ _ _ _ _ us hl => match us, hl with | [_], _ => rfl
  have D_told : DefOk l.prog w K mg base CX0 8 "_law_told" P_told (sp_told K) := ⟨f20, _, G20, PySem.W.mg_of X G a20, k20, B20⟩
  have F21 := fun_mk (st := s_bent) l21 c21 k21
  have G21 := ok_bent (P := l.prog) (w := w) (base := base) T F21 D_coin
  have B21 := F21.binds (ps := P_bent) fun _ _ _ _ _ _ us hl => match us, hl with | [_, _], _ => rfl
  have D_bent : DefOk l.prog w K mg base CX0 2 "_law_bent" P_bent (sp_bent K) := ⟨f21, _, G21, PySem.W.mg_of X G a21, k21, B21⟩
  have F22 := fun_mk (st := s_is_number) l22 c22 k22
  have G22 := ok_is_number (P := l.prog) (w := w) (base := base) T F22 
  have B22 := F22.binds (ps := P_is_number) fun _ _ _ _ _ _ us hl => match us, hl with | [_], _ => rfl
  have D_is_number : DefOk l.prog w K mg base CX0 1 "_law_is_number" P_is_number (sp_is_number K) := ⟨f22, _, G22, PySem.W.mg_of X G a22, k22, B22⟩
  have F23 := fun_mk (st := s_fits) l23 c23 k23
  have G23 := ok_fits (P := l.prog) (w := w) (base := base) T F23 D_is_number
  have B23 := F23.binds (ps := P_fits) fun _ _ _ _ _ _ us hl => match us, hl with | [_, _], _ => rfl
  have D_fits : DefOk l.prog w K mg base CX0 2 "_law_fits" P_fits (sp_fits K) := ⟨f23, _, G23, PySem.W.mg_of X G a23, k23, B23⟩
  have F24 := fun_mk (st := s_is_web) l24 c24 k24
  have G24 := ok_is_web (P := l.prog) (w := w) (base := base) T F24 
  have B24 := F24.binds (ps := P_is_web) fun _ _ _ _ _ _ us hl => match us, hl with | [_], _ => rfl
  have D_is_web : DefOk l.prog w K mg base CX0 1 "_law_is_web" P_is_web (sp_is_web K) := ⟨f24, _, G24, PySem.W.mg_of X G a24, k24, B24⟩
  have F25 := fun_mk (st := s_due) l25 c25 k25
  have G25 := ok_due (P := l.prog) (w := w) (base := base) T F25 D_fits D_is_web
  have B25 := F25.binds (ps := P_due) fun _ _ _ _ _ _ us hl => match us, hl with | [_], _ => rfl
  have D_due : DefOk l.prog w K mg base CX0 3 "_law_due" P_due (sp_due K) := ⟨f25, _, G25, PySem.W.mg_of X G a25, k25, B25⟩
  have F26 := fun_mk (st := s_right) l26 c26 k26
  have G26 := ok_right (P := l.prog) (w := w) (base := base) T F26 D_due D_told
  have B26 := F26.binds (ps := P_right) fun _ _ _ _ _ _ us hl => match us, hl with | [_], _ => rfl
  have D_right : DefOk l.prog w K mg base CX0 9 "_law_right" P_right (sp_right K) := ⟨f26, _, G26, PySem.W.mg_of X G a26, k26, B26⟩
  have F27 := fun_mk (st := s_check_web) l27 c27 k27
  have G27 := ok_check_web (P := l.prog) (w := w) (base := base) T F27 D_has_web_shape
  have B27 := F27.binds (ps := P_check_web) fun _ _ _ _ _ _ us hl => match us, hl with | [_], _ => rfl
  have D_check_web : DefOk l.prog w K mg base (L2.CX l.prog w) 7 "check_web" P_check_web (sp_check_web K) := ⟨f27, _, G27, PySem.W.mg_of X G a27, k27, B27⟩
  have F28 := fun_mk (st := s_number_words) l28 c28 k28
  have G28 := ok_number_words (P := l.prog) (w := w) (base := base) T F28 
  have B28 := F28.binds (ps := P_number_words) fun _ _ _ _ _ _ us hl => match us, hl with | [_], _ => rfl
  have D_number_words : DefOk l.prog w K mg base CX0 1 "number_words" P_number_words (sp_number_words K) := ⟨f28, _, G28, PySem.W.mg_of X G a28, k28, B28⟩
  have F29 := fun_mk (st := s_line_words) l29 c29 k29
  have G29 := ok_line_words (P := l.prog) (w := w) (base := base) T F29 
  have B29 := F29.binds (ps := P_line_words) fun _ _ _ _ _ _ us hl => match us, hl with | [_], _ => rfl
  have D_line_words : DefOk l.prog w K mg base CX0 1 "line_words" P_line_words (sp_line_words K) := ⟨f29, _, G29, PySem.W.mg_of X G a29, k29, B29⟩
  have F30 := fun_mk (st := s_show_web) l30 c30 k30
  have G30 := ok_show_web (P := l.prog) (w := w) (base := base) T F30 D_check_web D_number_words D_line_words
  have B30 := F30.binds (ps := P_show_web) fun _ _ _ _ _ _ us hl => match us, hl with | [_], _ => rfl
  have D_show_web : DefOk l.prog w K mg base (L2.CX l.prog w) 8 "show_web" P_show_web (sp_show_web K) := ⟨f30, _, G30, PySem.W.mg_of X G a30, k30, B30⟩
  have F31 := fun_mk (st := s_shown) l31 c31 k31
  have G31 := ok_shown (P := l.prog) (w := w) (base := base) T F31 SM D_show_web
  have B31 := F31.binds (ps := P_shown) fun _ _ _ _ _ _ us hl => match us, hl with | [_], _ => rfl
  have D_shown : DefOk l.prog w K mg base CX0 9 "_law_shown" P_shown (sp_shown K) := ⟨f31, _, G31, PySem.W.mg_of X G a31, k31, B31⟩
  have F32 := fun_mk (st := s_no_webs) l32 c32 k32
  have G32 := ok_no_webs (P := l.prog) (w := w) (base := base) T F32 
  have B32 := F32.binds (ps := P_no_webs) fun _ _ _ _ _ _ us hl => match us, hl with | [_], _ => rfl
  have D_no_webs : DefOk l.prog w K mg base CX0 1 "_law_no_webs" P_no_webs (sp_no_webs K) := ⟨f32, _, G32, PySem.W.mg_of X G a32, k32, B32⟩
  have F33 := fun_mk (st := s_law) l33 c33 k33
  have G33 := ok_law (P := l.prog) (w := w) (base := base) T F33 D_purse D_coin D_web D_text D_told D_bent D_right D_shown D_no_webs
  exact G33
theorem walk {l : PySem.W.OpenLaw} {q : Program} {loose : List Str} {XP : (Str → Option Value) → Heap → Prop} {YP : World → Heap → Prop} {d : DefRec} {K : Params → PySem.W.Frag} (hi : PyProof.Rows.importsNone q = true) (hn : l.most = some 63) (hdf : d.params.defaults = [])
    (hY : ∀ (w : World) (h : Heap), YP w h → (K w.params).In h)
    (F : ∀ (w : World) (mg : Str → Option Value) (fa : Addr) (h : Heap), (K w.params).In h → h.Ns mainGlobals mg → mg d.name = some (.ref fa) →
      ∃ fd : FuncData, (∀ (s : Shared) (u : Value), BindsTo s fd ⟨[u], []⟩ [("_law_script", u)]) ∧ ∀ base : Heap, (K w.params).In base → base.Ns mainGlobals mg → SysAt base → FnG l.prog w (K w.params) mg base CX0 10 fa fd ["_law_script"] (sp_law (K w.params))) :
    PySem.W.WalkO q loose XP YP l.row.toRowW d [] (fun f vs => PySem.call f vs) :=
  walkS (n := 63) (k := 10) (x := "_law_script") (CX := fun _ => CX0) (sp := fun w => sp_law (K w.params)) hi hn (by decide) hdf ⟨rfl, by decide, by decide⟩ hY F (fun _ H a ns hl _ hS => sp_law_start hl hS) fun _ _ _ _ _ z => z
end K48
open PySem PySem.W PyProof.Rows in
set_option maxRecDepth 100000 in
set_option maxHeartbeats 0 in
theorem PySem.Challenge.cw_nudgewebs_k48_texts_of_no_webs_holds : PySem.Challenge.rw_nudgewebs_k48_texts_of_no_webs.Holds := by
  w_on; o_law; k_head; (case hw => w_witness2)
  k_fill
  refine K48.walk (l := PySem.Challenge.rw_nudgewebs_k48_texts_of_no_webs) (by decide +kernel) rfl rfl (fun w h Y => PySem.W.kIn_of Y) ?F
  case F =>
    intro w mg fa h KX G hmg
    refine' K48.all_mk KX G hmg ?a0 ?l0 ?c0 ?k0 ?a1 ?l1 ?c1 ?k1 ?a2 ?l2 ?c2 ?k2 ?a3 ?l3 ?c3 ?k3 ?a4 ?l4 ?c4 ?k4 ?a5 ?l5 ?c5 ?k5 ?a6 ?l6 ?c6 ?k6 ?a7 ?l7 ?c7 ?k7 ?a8 ?l8 ?c8 ?k8 ?a9 ?l9 ?c9 ?k9 ?a10 ?l10 ?c10 ?k10 ?a11 ?l11 ?c11 ?k11 ?a12 ?l12 ?c12 ?k12 ?a13 ?l13 ?c13 ?k13 ?a14 ?l14 ?c14 ?k14 ?a15 ?l15 ?c15 ?k15 ?a16 ?l16 ?c16 ?k16 ?a17 ?l17 ?c17 ?k17 ?a18 ?l18 ?c18 ?k18 ?a19 ?l19 ?c19 ?k19 ?a20 ?l20 ?c20 ?k20 ?a21 ?l21 ?c21 ?k21 ?a22 ?l22 ?c22 ?k22 ?a23 ?l23 ?c23 ?k23 ?a24 ?l24 ?c24 ?k24 ?a25 ?l25 ?c25 ?k25 ?a26 ?l26 ?c26 ?k26 ?a27 ?l27 ?c27 ?k27 ?a28 ?l28 ?c28 ?k28 ?a29 ?l29 ?c29 ?k29 ?a30 ?l30 ?c30 ?k30 ?a31 ?l31 ?c31 ?k31 ?a32 ?l32 ?c32 ?k32 ?a33 ?l33 ?c33 ?k33 ?z_isinstance ?z_len ?z_all ?z_repr ?z_abs ?z_max ?z_min ?z_int ?z_bool ?z_str ?z_list ?z_tuple ?z_range ?z_enumerate ?z_zip ?z_ValueError ?v_MOST_QUANTITIES ?v_MOST_NUDGES ?v_MOST_DIGITS ?v_BETWEEN ?v_NOTHING ?g_0 ?x_0 ?k_0 ?t_0 ?hg_0 ?hk_0 ?ha_0 ?e_0 ?g_1 ?x_1 ?k_1 ?t_1 ?hg_1 ?hk_1 ?ha_1 ?e_1 ?g_2 ?x_2 ?k_2 ?t_2 ?hg_2 ?hk_2 ?ha_2 ?e_2 ?g_3 ?x_3 ?k_3 ?t_3 ?hg_3 ?hk_3 ?ha_3 ?e_3 ?g_4 ?x_4 ?k_4 ?t_4 ?hg_4 ?hk_4 ?ha_4 ?hn_ ?ht_ ?sa_4 ?nb_4 ?aI_4 ?tI_4 ?lI_4 ?cI_4 ?nd_
    (case a0 => k_is)
    (case l0 => k_is)
    (case c0 => k_is)
    (case k0 => k_is)
    (case a1 => k_is)
    (case l1 => k_is)
    (case c1 => k_is)
    (case k1 => k_is)
    (case a2 => k_is)
    (case l2 => k_is)
    (case c2 => k_is)
    (case k2 => k_is)
    (case a3 => k_is)
    (case l3 => k_is)
    (case c3 => k_is)
    (case k3 => k_is)
    (case a4 => k_is)
    (case l4 => k_is)
    (case c4 => k_is)
    (case k4 => k_is)
    (case a5 => k_is)
    (case l5 => k_is)
    (case c5 => k_is)
    (case k5 => k_is)
    (case a6 => k_is)
    (case l6 => k_is)
    (case c6 => k_is)
    (case k6 => k_is)
    (case a7 => k_is)
    (case l7 => k_is)
    (case c7 => k_is)
    (case k7 => k_is)
    (case a8 => k_is)
    (case l8 => k_is)
    (case c8 => k_is)
    (case k8 => k_is)
    (case a9 => k_is)
    (case l9 => k_is)
    (case c9 => k_is)
    (case k9 => k_is)
    (case a10 => k_is)
    (case l10 => k_is)
    (case c10 => k_is)
    (case k10 => k_is)
    (case a11 => k_is)
    (case l11 => k_is)
    (case c11 => k_is)
    (case k11 => k_is)
    (case a12 => k_is)
    (case l12 => k_is)
    (case c12 => k_is)
    (case k12 => k_is)
    (case a13 => k_is)
    (case l13 => k_is)
    (case c13 => k_is)
    (case k13 => k_is)
    (case a14 => k_is)
    (case l14 => k_is)
    (case c14 => k_is)
    (case k14 => k_is)
    (case a15 => k_is)
    (case l15 => k_is)
    (case c15 => k_is)
    (case k15 => k_is)
    (case a16 => k_is)
    (case l16 => k_is)
    (case c16 => k_is)
    (case k16 => k_is)
    (case a17 => k_is)
    (case l17 => k_is)
    (case c17 => k_is)
    (case k17 => k_is)
    (case a18 => k_is)
    (case l18 => k_is)
    (case c18 => k_is)
    (case k18 => k_is)
    (case a19 => k_is)
    (case l19 => k_is)
    (case c19 => k_is)
    (case k19 => k_is)
    (case a20 => k_is)
    (case l20 => k_is)
    (case c20 => k_is)
    (case k20 => k_is)
    (case a21 => k_is)
    (case l21 => k_is)
    (case c21 => k_is)
    (case k21 => k_is)
    (case a22 => k_is)
    (case l22 => k_is)
    (case c22 => k_is)
    (case k22 => k_is)
    (case a23 => k_is)
    (case l23 => k_is)
    (case c23 => k_is)
    (case k23 => k_is)
    (case a24 => k_is)
    (case l24 => k_is)
    (case c24 => k_is)
    (case k24 => k_is)
    (case a25 => k_is)
    (case l25 => k_is)
    (case c25 => k_is)
    (case k25 => k_is)
    (case a26 => k_is)
    (case l26 => k_is)
    (case c26 => k_is)
    (case k26 => k_is)
    (case a27 => k_is)
    (case l27 => k_is)
    (case c27 => k_is)
    (case k27 => k_is)
    (case a28 => k_is)
    (case l28 => k_is)
    (case c28 => k_is)
    (case k28 => k_is)
    (case a29 => k_is)
    (case l29 => k_is)
    (case c29 => k_is)
    (case k29 => k_is)
    (case a30 => k_is)
    (case l30 => k_is)
    (case c30 => k_is)
    (case k30 => k_is)
    (case a31 => k_is)
    (case l31 => k_is)
    (case c31 => k_is)
    (case k31 => k_is)
    (case a32 => k_is)
    (case l32 => k_is)
    (case c32 => k_is)
    (case k32 => k_is)
    (case a33 => k_is)
    (case l33 => k_is)
    (case c33 => k_is)
    (case k33 => k_is)
    (case z_isinstance => k_is)
    (case z_len => k_is)
    (case z_all => k_is)
    (case z_repr => k_is)
    (case z_abs => k_is)
    (case z_max => k_is)
    (case z_min => k_is)
    (case z_int => k_is)
    (case z_bool => k_is)
    (case z_str => k_is)
    (case z_list => k_is)
    (case z_tuple => k_is)
    (case z_range => k_is)
    (case z_enumerate => k_is)
    (case z_zip => k_is)
    (case z_ValueError => k_is)
    (case v_MOST_QUANTITIES => k_is)
    (case v_MOST_NUDGES => k_is)
    (case v_MOST_DIGITS => k_is)
    (case v_BETWEEN => k_is)
    (case v_NOTHING => k_is)
    (case g_0 => k_is)
    (case x_0 => k_is)
    (case k_0 => k_is)
    (case t_0 => k_is)
    (case hg_0 => k_is)
    (case hk_0 => k_is)
    (case ha_0 => k_is)
    (case e_0 => k_exc)
    (case g_1 => k_is)
    (case x_1 => k_is)
    (case k_1 => k_is)
    (case t_1 => k_is)
    (case hg_1 => k_is)
    (case hk_1 => k_is)
    (case ha_1 => k_is)
    (case e_1 => k_exc)
    (case g_2 => k_is)
    (case x_2 => k_is)
    (case k_2 => k_is)
    (case t_2 => k_is)
    (case hg_2 => k_is)
    (case hk_2 => k_is)
    (case ha_2 => k_is)
    (case e_2 => k_exc)
    (case g_3 => k_is)
    (case x_3 => k_is)
    (case k_3 => k_is)
    (case t_3 => k_is)
    (case hg_3 => k_is)
    (case hk_3 => k_is)
    (case ha_3 => k_is)
    (case e_3 => k_exc)
    (case g_4 => k_is)
    (case x_4 => k_is)
    (case k_4 => k_is)
    (case t_4 => k_is)
    (case hg_4 => k_is)
    (case hk_4 => k_is)
    (case ha_4 => k_is)
    (case hn_ => k_is)
    (case ht_ => k_is)
    (case sa_4 => k_is)
    (case nb_4 => k_is)
    (case aI_4 => k_is)
    (case tI_4 => k_is)
    (case lI_4 => k_is)
    (case cI_4 => k_is)
    (case nd_ => decide +kernel)
